import PyProof.Rows.All
import HandS.ForMost
import Wide.All
import OpenK.AllK
import Wide.FinOn
import HandS.ForExc
import HandS.Walk
import HandS.Conv
import HandS.Star
import HandS.CallLocal
import HandS.Codes
import HandS.More
import HandS.OwnEq
import HandS.Wide
import HandS.Flow
import KE.GoesEnum
import PyProof.ListStr
import PyProof.StrBlock2
import KE.IntTextLaws
import PyProof.InstNe
import HandS.MakeKwOnly
import HandS.IsInst
import HandS.Ends
import PyProof.ReprRoads
import KE.GoesMore
import HandS.TupMul
import HandS.TupAny
import HandS.Strs
import HandS.SetIn
import HandS.SetFor
import HandS.SortRule
import HandS.Style
import HandS.Deep
import HandS.Iter
import KE.KRevSl
import HandS.Zip
import HandS.Defaults
import PyProof.P3In
import PySem.Challenge.RW_fewplaymany_k29_all_rows_of_views_counte
import HandS.NamedTupSort
import PyProof.P3Eq
import HandS.WideBits
set_option Elab.async false
set_option linter.all false
set_option maxRecDepth 100000
set_option maxHeartbeats 4000000
/-! small words that enter a reading -/
namespace Fp
open PySem PySem.Spec PyProof.Rows L2
theorem g_set {i : Nat} {v : V} {σ : L2.St} {H : Hp} {k : L2.St → Hp → Prop} (h : k (σ.set i (some v)) H) : gName i v σ H k := h
theorem yes_in {σ : L2.St} {H : Hp} {A B : Hp → Prop} (h : A H) : tYes σ H fun b H3 => if b = true then A H3 else B H3 := by
  show if true = true then A H else B H
  exact iteT h
theorem nx_in {f b c : L2.St → Hp → Prop} {r : VK} {σ : L2.St} {H : Hp} (h : f σ H) : ({ nx := f, rt := r, bk := b, ct := c } : Ends).nx σ H := h
theorem next_in {D : Ends} {σ : L2.St} {H : Hp} (h : D.nx σ H) : tNext D σ H := h
theorem seq_in {a b : TS} {D : Ends} {σ : L2.St} {H : Hp} (h : a { nx := b D, rt := D.rt, bk := D.bk, ct := D.ct } σ H) : tSeq a b D σ H := h
theorem asg_in {te : TE} {g : TG} {D : Ends} {σ : L2.St} {H : Hp} (h : te σ H fun v H1 => g v σ H1 fun σ2 H2 => D.nx σ2 H2) : tAsg te g D σ H := h
theorem op_in {r : R2} {ta tb : TE} {σ : L2.St} {H : Hp} {Q : VK} (h : ta σ H fun x H1 => tb σ H1 fun y H2 => r x y H2 Q) : tOp r ta tb σ H Q := h
theorem if_not {te : TE} {a b : TS} {D : Ends} {σ : L2.St} {H : Hp} (h : te σ H fun v H1 => ∃ c, v = .bl c ∧ if (!c) = true then a D σ H1 else b D σ H1) : tIfS (tNot (tB te)) a b D σ H := h
theorem ret_in {te : TE} {D : Ends} {σ : L2.St} {H : Hp} (h : te σ H D.rt) : tRet te D σ H := h
/-- what stands behind a statement, once for all its ways -/
theorem cut_nx {t : TS} {D : Ends} {σ : L2.St} {H : Hp} (R : Hp → Prop) (h : ∀ H1, R H1 → D.nx σ H1) (g : (∀ H1, R H1 → D.nx σ H1) → t D σ H) : t D σ H := g h
end Fp
namespace Fp
open PySem PySem.Spec PyProof.Rows L2
/-! ### heaps -/
/-- all that is tracked stays, but what stands at S -/
def But (S : List Addr) (H H' : Hp) : Prop := ∀ b o, b ∉ S → H b = some o → H' b = some o
theorem But.refl (S : List Addr) (H : Hp) : But S H H := fun _ _ _ h => h
theorem But.trans {S : List Addr} {H H1 H2 : Hp} (a : But S H H1) (b : But S H1 H2) : But S H H2 := fun c o n h => b c o n (a c o n h)
theorem But.of {S : List Addr} {H H' : Hp} (h : Same H H') : But S H H' := fun c o _ q => h c o q
theorem But.new {S : List Addr} {H H1 : Hp} {p : Addr} {o : HO} (a : But S H H1) (n : H1 p = none) : But S H (upd H1 p o) := fun c u k q => by
  have z := a c u k q
  rw [upd_ne (ne_of_none z n)]
  exact z
theorem But.put {S : List Addr} {H H1 : Hp} {p : Addr} {o : HO} (a : But S H H1) (n : p ∈ S) : But S H (upd H1 p o) := fun c u k q => by
  have ne : c ≠ p := fun z => k (z ▸ n)
  rw [upd_ne ne]
  exact a c u k q
theorem But.wide {S T : List Addr} {H H' : Hp} (a : But S H H') (h : ∀ x ∈ S, x ∈ T) : But T H H' := fun c o n q => a c o (fun z => n (h c z)) q
theorem But.at {S : List Addr} {H H' : Hp} {a : Addr} {o : HO} (b : But S H H') (h : H a = some o) (n : a ∉ S) : H' a = some o := b a o n h
theorem But.seq {S : List Addr} {H H' : Hp} {K : PySem.W.Frag} {a : Addr} {xs : List V} (b : But S H H') (h : SqL K H a xs) (n : a ∉ S) : SqL K H' a xs := by
  rcases h with (h | ⟨o, h⟩) | h
  · exact .inl (.inl (b _ _ n h))
  · exact .inl (.inr ⟨o, b _ _ n h⟩)
  · exact .inr h
theorem But.seqT {S : List Addr} {H H' : Hp} {K : PySem.W.Frag} {a : Addr} {xs : List V} (b : But S H H') (h : SqT K H a xs) (n : a ∉ S) : SqT K H' a xs := by
  rcases h with (h | ⟨o, h⟩) | h
  · exact .inl (.inl (b _ _ n h))
  · exact .inl (.inr ⟨o, b _ _ n h⟩)
  · exact .inr h
theorem same_new {H : Hp} {p : Addr} (h : H p = none) (o : HO) : Same H (upd H p o) := fun b u q => by rw [upd_ne (ne_of_none q h)]; exact q
/-! ### a def of the module with its promise -/
structure Fd (P : Program) (w : World) (K : PySem.W.Frag) (mg : Str → Option Value) (base : Heap) (CX : CXT) (x : Str) (k : Nat) (ps : List Str) (sp : Sp) : Prop where
  ex : ∃ (f : Addr) (fd : FuncData), mg x = some (.ref f) ∧ PySem.W.keepIn K (.ref f) = true ∧ Binds K fd ps [] ∧ FnOk P w K mg base CX k f fd ps sp
section
variable {X : Cx} {CX : CXT} {x : Str} {k : Nat} {ps : List Str} {sp : Sp} {e : Expr} {es : List Expr} {t : TA} {p pos : Pos}
theorem pe_fd (G : Fd X.prog X.w X.K X.mg X.base CX0 x k ps sp) (hr : Room k X.A) (hg : Gl X x) (ha : PA X (e :: es) t) (hdb : (x == ("__debug__" : Str)) = false := by decide)
    (he : starEach (e :: es) X.env = (false, eval e X.env) :: starEach es X.env := by rfl) (hpl : (backTo pos (starEach es X.env)).any (·.1) = false := by rfl) :
    PE X (.Call (.Name x p) (e :: es) [] pos) (tCall sp [] E0 t) := by
  obtain ⟨f, fd, h1, h2, h3, h4⟩ := G.ex
  exact pe_call h4 hr hg h1 h2 h3 .nil pass0 ha hdb he hpl
end
/-! ### powers of greater numbers -/
theorem op_powB {X : Cx} : OpR X (binaryOp .Pow) (rI (fun i j => 0 ≤ j ∧ (Builtin.Int.intBits i : Int) * j ≤ 2 ^ 27) fun i j => .int (i ^ j.toNat)) :=
  opI fun _ _ _ _ _ _ _ hc q => PyProof.Rows.pow_int hc.1 hc.2 q
theorem bits_ok {a : Int} (k : Nat) {j : Int} (h : a.natAbs < 2 ^ k) (hj : 0 ≤ j) (hk : (k : Int) * j ≤ 2 ^ 27) : (Builtin.Int.intBits a : Int) * j ≤ 2 ^ 27 := by
  have h1 : (Builtin.Int.intBits a : Int) ≤ (k : Int) := by
    have := PyProof.Rows.intBits_le h
    omega
  exact Int.le_trans (Int.mul_le_mul_of_nonneg_right h1 hj) hk
/-! ### a word between a part and what follows it -/
def tMid (t : TE) : TE := fun σ H Q => ∃ Mid : V → Hp → Prop, t σ H Mid ∧ ∀ v H', Mid v H' → Q v H'
theorem pe_mid {X : Cx} {e : Expr} {t : TE} (h : PE X e t) : PE X e (tMid t) := by
  refine ⟨fun pins s σ H Q I z => ?_⟩
  obtain ⟨Mid, hm, hu⟩ := z
  exact thn (h.run pins s σ H Mid I hm) fun v s1 ⟨x, H1, I1, r1, q1⟩ => ⟨x, H1, I1, r1, hu x H1 q1⟩
def tMidT (t : TT) : TT := fun σ H Q => ∃ Mid : Bool → Hp → Prop, t σ H Mid ∧ ∀ v H', Mid v H' → Q v H'
theorem pt_mid {X : Cx} {e : Expr} {t : TT} (h : PT X e t) : PT X e (tMidT t) := by
  refine ⟨fun pins s σ H Q I z => ?_⟩
  obtain ⟨Mid, hm, hu⟩ := z
  exact thn (h.run pins s σ H Mid I hm) fun v s1 ⟨H1, I1, q1⟩ => ⟨H1, I1, hu v H1 q1⟩
theorem erase_perm {α : Type} : ∀ (l : List α) (i : Nat) (h : i < l.length), (l[i] :: l.eraseIdx i).Perm l
  | a :: l, 0, _ => List.Perm.refl _
  | a :: l, i + 1, h => by
    have h' : i < l.length := Nat.lt_of_succ_lt_succ h
    have ih := erase_perm l i h'
    show (l[i] :: a :: l.eraseIdx i).Perm (a :: l)
    exact (List.Perm.swap _ _ _).trans (List.Perm.cons a ih)
theorem b01 (k : Bool) : -(2 ^ 64) < (if k = true then (1 : Int) else 0) ∧ (if k = true then (1 : Int) else 0) < 2 ^ 64 := by cases k <;> decide
/-! ### draws -/
def PotAt (H : Hp) (p : Addr) (n : Nat) : Prop := ∃ a b c : Int, H p = some (.lst [.int a, .int b, .int c]) ∧ 0 ≤ b ∧ b < 2305843009213693951 ∧ 0 ≤ c ∧ c ≤ n
theorem PotAt.mono {H : Hp} {p : Addr} {n m : Nat} (h : PotAt H p n) (l : n ≤ m) : PotAt H p m := by
  obtain ⟨a, b, c, h1, h2, h3, h4, h5⟩ := h
  exact ⟨a, b, c, h1, h2, h3, h4, by omega⟩
theorem PotAt.there {H : Hp} {p : Addr} {n : Nat} (h : PotAt H p n) : ∃ xs, H p = some (.lst xs) := by
  obtain ⟨a, b, c, h1, _⟩ := h
  exact ⟨_, h1⟩
def spTake : Sp := fun vs H Q _ => ∃ (p : Addr) (u : Int) (n : Nat), vs = [.ref p, .int u] ∧ 0 < u ∧ u < 1000000 ∧ n < 1000000 ∧ PotAt H p n ∧
  ∀ (d : Nat) (H' : Hp), (d : Int) < u → But [p] H H' → PotAt H' p (n + 1) → Q (.int d) H'
def spOf (K : PySem.W.Frag) : Sp := fun vs H Q _ => ∃ (p q : Addr) (xs : List V) (n : Nat), vs = [.ref p, .ref q] ∧ SqL K H q xs ∧ q ≠ p ∧ xs ≠ [] ∧ xs.length < 1000000 ∧ n < 1000000 ∧ PotAt H p n ∧
  ∀ (d : Nat) (v : V) (H' : Hp), xs[d]? = some v → But [p] H H' → PotAt H' p (n + 1) → Q v H'
/-- many of a pool, in some sequence -/
def spSome (K : PySem.W.Frag) : Sp := fun vs H Q _ => ∃ (p q : Addr) (xs : List V) (m n : Nat), vs = [.ref p, .ref q, .int m] ∧ (SqL K H q xs ∨ SqT K H q xs) ∧ m ≤ xs.length ∧ xs.length < 1000 ∧ n + m < 1000000 ∧ PotAt H p n ∧
  ∀ (l : Addr) (ys zs : List V) (H' : Hp), ys.length = m → (ys ++ zs).Perm xs → H l = none → H' l = some (.lst ys) → But [p] H H' → PotAt H' p (n + m) → Q (.ref l) H'
/-- the pot of a cell -/
def spPot (K : PySem.W.Frag) : Sp := fun vs H Q _ => ∃ (a : Addr) (ns : List Int) (k : Nat), vs = [.ref a, .int k] ∧ SqL K H a (ns.map V.int) ∧ ns.length ≤ 63 ∧ k < 1000 ∧ ∀ (l : Addr) (H' : Hp), Same H H' → H l = none → PotAt H' l 0 → Q (.ref l) H'
/-- the cells that are looked at -/
def spCells (K : PySem.W.Frag) : Sp := fun vs H Q _ => ∃ (a : Addr) (ns : List Int) (m : Nat), vs = [.ref a, .int m] ∧ SqL K H a (ns.map V.int) ∧ ns.length ≤ 63 ∧ m < 1000 ∧
  ∀ (l : Addr) (H' : Hp) (k : Nat), k < 1000 → Same H H' → H l = none → H' l = some (.lst ((List.range k).map fun i => V.int (i : Nat))) → Q (.ref l) H'
theorem modNat (a : Int) {u : Int} (h : 0 < u) : ∃ d : Nat, a % u = (d : Int) ∧ (d : Int) < u :=
  ⟨(a % u).toNat, by have := Int.emod_nonneg a (show u ≠ 0 by omega); omega, by have := Int.emod_nonneg a (show u ≠ 0 by omega); have := Int.emod_lt_of_pos a h; omega⟩
theorem sq_le (m : Int) {c : Int} (h : 0 ≤ c) (h1 : c ≤ 1000001) (hm : 0 ≤ m := by decide) (hm1 : m ≤ 200000 := by decide) : 0 ≤ m * c * c ∧ m * c * c ≤ 200000 * 1000001 * 1000001 := by
  have e1 : m * c ≤ 200000 * 1000001 := Int.mul_le_mul hm1 h1 h (by decide)
  have e0 : 0 ≤ m * c := Int.mul_nonneg hm h
  exact ⟨Int.mul_nonneg e0 h, Int.mul_le_mul e1 h1 h (by decide)⟩
end Fp
namespace Fp
open PySem PySem.Spec PyProof.Rows L2
/-! ### constants of the module -/
section
variable {X : Cx} {x : Str} {pos : Pos}
theorem pe_cS {z : Str} (h : ∃ t, X.mg x = some (.str z t)) (hg : Gl X x := by rfl) (hd : (x == ("__debug__" : Str)) = false := by decide) : PE X (.Name x pos) (tC (.str z)) := by
  obtain ⟨t, h⟩ := h
  exact pe_glob hg h ⟨_, rfl⟩ hd
theorem pe_cI {i : Int} (h : ∃ t, X.mg x = some (.int i t)) (hg : Gl X x := by rfl) (hd : (x == ("__debug__" : Str)) = false := by decide) : PE X (.Name x pos) (tC (.int i)) := by
  obtain ⟨t, h⟩ := h
  exact pe_glob hg h ⟨_, rfl⟩ hd
/-- a tuple of the module -/
def KTup (K : PySem.W.Frag) (a : Addr) (xs : List V) : Prop := ∀ H, SqT K H a xs
def tKT (K : PySem.W.Frag) (xs : List V) : TE := fun _ H Q => ∀ a, KTup K a xs → Q (.ref a) H
theorem pe_cT {xs : List V} (h : ∃ a, X.mg x = some (.ref a) ∧ KTup X.K a xs) (hg : Gl X x := by rfl) (hd : (x == ("__debug__" : Str)) = false := by decide) : PE X (.Name x pos) (tKT X.K xs) := by
  obtain ⟨a, h1, h2⟩ := h
  exact ⟨fun pins s σ H Q I q => (pe_glob (v := .ref a) hg h1 rfl hd).run pins s σ H Q I (q a h2)⟩
/-- an object of the module -/
def tKR (φ : Addr → Prop) : TE := fun _ H Q => ∀ a, φ a → Q (.ref a) H
theorem pe_cR {φ : Addr → Prop} (h : ∃ a, X.mg x = some (.ref a) ∧ φ a) (hg : Gl X x := by rfl) (hd : (x == ("__debug__" : Str)) = false := by decide) : PE X (.Name x pos) (tKR φ) := by
  obtain ⟨a, h1, h2⟩ := h
  exact ⟨fun pins s σ H Q I q => (pe_glob (v := .ref a) hg h1 rfl hd).run pins s σ H Q I (q a h2)⟩
/-- a dict of the module with text keys, at d -/
structure KD (K : PySem.W.Frag) (w : World) (d : Addr) (tab : Str → Option V) : Prop where
  ex : ∃ es n, KDict K w d es n
  get : ∀ z, ∃ r, PySem.W.nsIn K d z = some r ∧ RelO (tab z) r
theorem RelO.some_iff {o : Option V} {r : Option Value} (h : RelO o r) : o.isSome = r.isSome := by
  cases o <;> cases r <;> first | rfl | exact h.elim
variable {e : Expr} {te : TE} {apos cpos p : Pos} {tab : Str → Option V} {d : Addr}
/-- key in NAME -/
theorem pe_kin (D : ∃ d, X.mg x = some (.ref d) ∧ KD X.K X.w d tab) (he : PE X e te) (hg : Gl X x := by rfl) (hb : behindInMarks .In (.Name x p) = false := by rfl) (hd : (x == ("__debug__" : Str)) = false := by decide) : PE X (.Compare e [.In] [.Name x p] pos) (fun σ H Q => te σ H fun y H1 => ∃ z, y = .str z ∧ Q (.bl (tab z).isSome) H1) := by
  obtain ⟨d, hm, ⟨es, n, D⟩, get⟩ := D
  refine ⟨fun pins s σ H Q I h => ?_⟩
  refine (pe_cmpR (op_in_kd D) he (pe_glob (v := .ref d) hg hm rfl hd) hb).run pins s σ H Q I ?_
  have h' : (fun σ H Q => te σ H fun y H1 => ∃ z, y = .str z ∧ Q (.bl (tab z).isSome) H1) σ H Q := h
  exact (fun (k : te σ H _) => k) (by
    refine (?_ : te σ H _)
    have e2 : (fun (y : V) (H1 : Hp) => ∃ z : Str, y = V.str z ∧ Q (V.bl (tab z).isSome) H1) = fun y H1 => tC (.ref d) σ H1 fun y' H2 => ∃ (z : Str) (r : Option Value), y = .str z ∧ y' = .ref d ∧ PySem.W.nsIn X.K d z = some r ∧ Q (.bl r.isSome) H2 := by
      funext y H1
      apply propext
      constructor
      · rintro ⟨z, rfl, q⟩
        obtain ⟨r, g1, g2⟩ := get z
        refine ⟨z, r, rfl, rfl, g1, ?_⟩
        rw [← RelO.some_iff g2]
        exact q
      · rintro ⟨z, r, rfl, _, g1, q⟩
        obtain ⟨r', g1', g2⟩ := get z
        rw [g1] at g1'
        cases g1'
        refine ⟨z, rfl, ?_⟩
        rw [RelO.some_iff g2]
        exact q
    rw [← e2]
    exact h')
/-- NAME.get(key) -/
theorem pe_kget (D : ∃ d, X.mg x = some (.ref d) ∧ KD X.K X.w d tab) (he : PE X e te) (hg : Gl X x := by rfl) (m : M1 X (.Name x p) "get" apos e cpos := by exact ⟨rfl, rfl, rfl, rfl⟩) (hd : (x == ("__debug__" : Str)) = false := by decide) :
    PE X (.Call (.Attribute (.Name x p) "get" apos) [e] [] cpos) (fun σ H Q => te σ H fun y H1 => ∃ z, y = .str z ∧ Q ((tab z).getD .non) H1) := by
  obtain ⟨d, hm, ⟨es, n, D⟩, get⟩ := D
  refine ⟨fun pins s σ H Q I h => ?_⟩
  refine wpAny_Call_method m.base m.few m.line PySem.F.plainAttrs_dict PySem.F.slot_dict_get PySem.F.type_dict_get (thn ((pe_glob (v := .ref d) hg hm rfl hd).run pins s σ H (fun y H1 => y = .ref d ∧ te σ H1 fun y H1 => ∃ z, y = .str z ∧ Q ((tab z).getD .non) H1) I ⟨rfl, h⟩) fun u s1 hh => ?_)
  obtain ⟨y, H1, I1, ry, ey, q1⟩ := hh
  subst ey
  obtain rfl : u = Value.ref d := ry
  have hmp := PySem.W.mapOf_K (prog := X.prog) (w := X.w) I1.kIn D.at_ D.lit
  refine ⟨hmp.typeIs, hmp.noDict, ?_⟩
  rw [m.trees]
  refine Calls.callWith_builtin rfl (Calls.evalArgs_plain (Calls.spliced_cons (thn (he.run pins s1 σ H1 _ I1 q1) fun iv s2 hh2 => Calls.spliced_nil ?_)))
  obtain ⟨y2, H2, I2, ry2, z, ez, q2⟩ := hh2
  subst ez
  obtain ⟨t, rfl⟩ := ry2
  have hmp2 := PySem.W.mapOf_K (prog := X.prog) (w := X.w) I2.kIn D.at_ D.lit
  obtain ⟨r, g1, g2⟩ := get z
  refine call_meetsIn PySem.F.slot_dict_get hmp2.typeIs PySem.F.entry_dict_get (PySem.F.args_dict_get_2 _ _) (meets_dict_get (strKind X.prog X.w) d (PySem.strKind_is X.prog X.w z t) D.low) ⟨_, hmp2, ?_⟩
  show EP X pins σ Q _ _
  rw [PySem.W.find_K D.at_ g1]
  exact ⟨_, H2, I2.tok _, g2.getD (d := .non) rfl, q2⟩
end
/-! ### for i, x in enumerate(list, start) -/
def ItE (K : PySem.W.Frag) (a : Addr) (lo : Int) : It :=
  ⟨fun i H => ∃ (ys : List V) (y : V), SqL K H a ys ∧ ys[i]? = some y,
   fun i H v H' => ∃ T y, v = .ref T ∧ H T = none ∧ H' = upd H T (.tup [.int (lo + (i : Nat)), y]) ∧ ∀ ys, SqL K H a ys → ys[i]? = some y,
   fun i H => ∃ ys : List V, SqL K H a ys ∧ ys.length ≤ i⟩
theorem turn_enumS {P : Program} {w : World} {K : PySem.W.Frag} {elts : List Expr} {kk : Nat} {tpos : Pos} (a e it : Addr) (lo : Int) :
    Turn P w K (.Tuple elts kk tpos) (ItE K a lo) [e, it] e (fun i h => (∃ was, IsEnum h e it (lo + ((i : Nat) : Int)) was) ∧ h.IsListIter it a i ∧ e ≠ it) where
  mem := List.mem_cons_self
  obj := fun i h st b hb => by
    obtain ⟨⟨was, he⟩, ⟨o, ho, hc, hd⟩, _⟩ := st
    rcases List.mem_cons.mp hb with z | z
    · subst z
      exact ⟨_, he, fun v q => nomatch q⟩
    · have z' := List.mem_singleton.mp z
      subst z'
      exact ⟨o, ho, fun v q => by rw [hd] at q; cases q⟩
  keep := fun i h h' st k => ⟨st.1.imp fun was he => k e (by simp) _ he, st.2.1.at fun o q => k it (by simp) o q, st.2.2⟩
  item := by
    intro X hP hw hK hc i pins s σ H E I hf st hg
    subst hP hw hK
    obtain ⟨⟨was, he⟩, hit, hne⟩ := st
    obtain ⟨ys, y, hq, hx⟩ := hg
    obtain ⟨its, rv, lp, hz⟩ := I.list hq
    obtain ⟨u, hu, ru⟩ := rv.get hx
    have le : e < s.heap.objs.size := Heap.lt_size he
    have li : it < s.heap.objs.size := by
      obtain ⟨_, q, _⟩ := hit
      exact Heap.lt_size q
    have fr := I.hok.fresh (Nat.le_refl s.heap.objs.size)
    have hL := lp.isList
    have nel : e ≠ a := fun z => by
      obtain ⟨o, ho, hc', _⟩ := hL
      rw [← z, (show s.heap.get? e = some _ from he)] at ho
      cases ho
      injection hc' with z'
      exact absurd z' (by decide)
    have nil' : a ≠ it := fun z => by
      obtain ⟨o, ho, hc', _⟩ := hL
      obtain ⟨o2, ho2, hc2, _⟩ := hit
      rw [z, ho2] at ho
      cases ho
      rw [hc2] at hc'
      injection hc' with z'
      exact absurd z' (by decide)
    have hiu : its.toArray[i]? = some u := by simpa using hu
    have hlt : i < its.toArray.size := by
      by_cases z : i < its.toArray.size
      · exact z
      · rw [Array.getElem?_eq_none (by omega)] at hiu
        cases hiu
    refine wpAny_pyNext_enum_itemC (Draws.list (A := X.A.in1) (I.ok.hd hc) it a nil' its.toArray) he ⟨hit, hL⟩ hlt hne (by simp [hne, nel]) fun x h1 tk hx1 ho hst1 hT hsz hk => ⟨_, rfl, ?_⟩
    rw [hiu] at hx1
    cases hx1
    have hit1 := hst1.1
    refine wpAny_letOwnedTupleGo_enum (s := { s with heap := h1, toks := tk + 1 }) ho fun h2 he2 sb => ?_
    have hT2 := (sb.2 _ (Nat.ne_of_gt le)).trans hT
    have mem2 : ∀ {b : Addr}, b ∈ [e, it] → b < s.heap.objs.size := fun {b} hb => by
      rcases List.mem_cons.mp hb with z | z
      · rw [z]; exact le
      · rw [List.mem_singleton.mp z]; exact li
    refine ⟨.ref s.heap.objs.size, upd H s.heap.objs.size (.tup [.int (lo + (i : Nat)), y]), ?_, rfl, ⟨_, y, rfl, fr, rfl, fun zs hy => by rw [I.list_inj hy hq]; exact hx⟩, ⟨⟨u, ?_⟩, hit1.at fun o q => (sb.2 it (Ne.symm hne)).trans q, hne⟩, fun b hb => ?_⟩
    · refine I.turnedNew (ch := [e, it]) (fun b ob hb q => ?_) hf (Nat.le_refl _) ⟨by show 2 ≤ sizeLine; decide, [.int (lo + (i : Nat)) tk, u], .cons ⟨_, rfl⟩ (.cons ru .nil), ⟨_, hT2, rfl, _, rfl⟩⟩
      have be : b ≠ e := fun z => hb (by simp [z])
      have bi : b ≠ it := fun z => hb (by simp [z])
      exact (sb.2 b be).trans (hk b ob be bi q)
    · have e1 : lo + (((i + 1 : Nat)) : Int) = lo + (i : Int) + 1 := by omega
      rw [e1]
      exact he2
    · rw [upd_ne (Nat.ne_of_lt (mem2 hb))]
      exact (hf b hb).1
  done := by
    intro X hP hw hK hc i pins s σ H E I hf st hg
    subst hP hw hK
    obtain ⟨⟨was, he⟩, hit, hne⟩ := st
    obtain ⟨ys, hq, hx⟩ := hg
    obtain ⟨its, rv, lp, hz⟩ := I.list hq
    obtain ⟨f0, f1, f2, f3, f4, f5⟩ := hf it (by simp)
    have hl := rv.length
    have D : Draws X.prog X.w X.A.in1 it [it, a] i (fun _ _ => False) (fun j h => j = i ∧ h.IsListIter it a i ∧ h.IsList a its.toArray) := {
      live := fun j h st => by
        obtain ⟨_, ⟨o, ho, _⟩, _⟩ := st
        exact ⟨o, ho⟩
      frame := fun j h h' st k => ⟨st.1, st.2.1.at fun o q => k it (by simp) o q, st.2.2.at fun o q => k a (by simp) o q⟩
      item := fun j s Q E hj st _ => by
        have := st.1
        omega
      done := fun s Q E st hE => wpAny_nextOf_list_end (I.ok.hd hc) st.2.1 st.2.2 (by simp; omega) hE }
    exact wpAny_pyNext_enum_endD D he ⟨rfl, hit, lp.isList⟩ fun h1 eb => ⟨rfl, I.turned (t' := s.toks) (fun b o hb q => eb b o hb q) f0 f1 f3 f4 f5⟩
  self := fun A i s Q E st h => st.1.elim fun _ he => wpAny_pyIter_enum he h
def iEnumS (K : PySem.W.Frag) (ta : TA) : TI := fun σ H R => ta σ H fun vs H1 => ∃ a xs lo, vs = [.ref a, .int lo] ∧ SqL K H1 a xs ∧ -(2 ^ 62) ≤ lo ∧ lo < 2 ^ 62 ∧ R (ItE K a lo) H1
theorem pi_enumS {X : Cx} {e1 e2 : Expr} {ta : TA} {p pos tpos : Pos} {elts : List Expr} {kk : Nat} (hg : Gl X "enumerate") (hm : X.mg "enumerate" = none) (ha : PA X [e1, e2] ta)
    (he : starEach (e1 :: [e2]) X.env = (false, eval e1 X.env) :: starEach [e2] X.env := by rfl) (hpl : (backTo pos (starEach [e2] X.env)).any (·.1) = false := by rfl) :
    PI X (.Tuple elts kk tpos) (.Call (.Name "enumerate" p) [e1, e2] [] pos) (iEnumS X.K ta) := by
  refine ⟨fun pins s σ H R I h => ?_⟩
  refine Call_ (ld_blt I hg hm boot_enumerate (PyProof.Rows.callWith_type1 (thn (ha.run pos pins s σ H _ I h) fun us s1 hh => ?_) he hpl))
  obtain ⟨vs, H1, I1, r1, a, xs, lo, ex, hq, hl0, hl1, q⟩ := hh
  subst ex
  obtain ⟨u1, u2, rfl, ra, rb⟩ := vals2 r1
  obtain rfl : u1 = Value.ref a := ra
  obtain ⟨t, rfl⟩ := rb
  obtain ⟨its, rv, lp, hz⟩ := I1.list hq
  refine enum_begins (begins_list a its.toArray) lp.isList (by omega) (by omega) fun h1 he hit hsz hk => wpAny_pyIter_enum he ?_
  have I2 : Inv X pins σ H1 { s1 with heap := h1 } := I1.kept (t' := s1.toks) hk
  refine ⟨s1.heap.objs.size + 1, [s1.heap.objs.size + 1, s1.heap.objs.size], _, _, H1, rfl, I2, turn_enumS a (s1.heap.objs.size + 1) s1.heap.objs.size lo, ⟨⟨.none, by simpa using he⟩, ⟨_, hit, rfl, rfl⟩, Nat.succ_ne_self _⟩, fun b hb => ?_, q⟩
  have hle : s1.heap.objs.size ≤ b := by
    rcases List.mem_cons.mp hb with z | z
    · rw [z]; exact Nat.le_add_right _ _
    · rw [List.mem_singleton.mp z]; exact Nat.le_refl _
  exact I1.fpOk hle (I1.hok.fresh hle)
/-! ### list(text), text * int -/
abbrev sg (z : Str) : List Nat := z.cps.toList
def signsV (z : Str) : List V := (sg z).map fun c => V.str ⟨#[c]⟩
theorem signs_vals : ∀ (l : List Nat) (us : List Value), us.length = l.length → (∀ (j : Nat) (v : Value), us[j]? = some v → ∃ (c : Nat) (u : Tok), l[j]? = some c ∧ v = Value.str ⟨#[c]⟩ u) → Vals (l.map fun c => V.str ⟨#[c]⟩) us
  | [], [], _, _ => .nil
  | c :: l, u :: us, hl, h => by
    obtain ⟨c', t, e1, e2⟩ := h 0 u rfl
    have e1' : c = c' := by simpa using e1
    subst e1'
    exact .cons ⟨t, e2⟩ (signs_vals l us (by simpa using hl) fun j v e => by simpa using h (j + 1) v (by simpa using e))
  | [], _ :: _, hl, _ => by simp at hl
  | _ :: _, [], hl, _ => by simp at hl
theorem call_list_txt {X : Cx} (hc : X.calm = true) : CallR X (.type "list") (fun xs H Q => ∃ z, xs = [.str z] ∧ z.length ≤ sizeLine ∧ ∀ l, H l = none → Q (.ref l) (upd H l (.lst (signsV z)))) := by
  intro pins s σ H xs us Q I r h
  obtain ⟨z, rfl, hz, q⟩ := h
  obtain ⟨u, rfl, rx⟩ := vals1 r
  obtain ⟨t, rfl⟩ := rx
  refine call_list_str (I.ok.hd hc) z t (fun h' tk acc c' hk hS hacc => ?_) (hn := hz)
  have hv : Vals (signsV z) acc.toList := signs_vals _ _ (by simpa [sg] using hacc.1) fun j v e => by
    obtain ⟨c, u, e1, e2⟩ := hacc.2 j v (by simpa using e)
    exact ⟨c, u, by simpa [sg] using e1, e2⟩
  have hlen : (signsV z).length ≤ sizeLine := by simpa [signsV, sg, Str.length] using hz
  exact ⟨.ref s.heap.objs.size, _, I.laid (t' := tk) hk (Nat.le_refl _) (show ObjOk X.prog X.w _ h' _ (.lst (signsV z)) from ⟨hlen, acc.toList, c', hv, hS⟩), rfl, q _ (I.hok.fresh (Nat.le_refl _))⟩
theorem mulOk6 {z : Str} {i : Int} (hz : z.length = 1) (h0 : 0 ≤ i) (h1 : i ≤ 6) : PySem.MulOk z i := by
  have : i = 0 ∨ i = 1 ∨ i = 2 ∨ i = 3 ∨ i = 4 ∨ i = 5 ∨ i = 6 := by omega
  unfold PySem.MulOk
  rw [hz]
  rcases this with rfl | rfl | rfl | rfl | rfl | rfl | rfl <;> decide
theorem op_mul_txt {X : Cx} : OpR X (binaryOp .Mult) (fun x y H Q => ∃ (z : Str) (i : Int), x = .str z ∧ y = .int i ∧ z.length = 1 ∧ 0 ≤ i ∧ i ≤ 6 ∧ Q (.str (Txt.mul z i)) H) := by
  intro pins s σ H x y v u Q I rx ry h
  obtain ⟨z, i, rfl, rfl, hz, h0, h1, q⟩ := h
  obtain ⟨t, rfl⟩ := rx
  obtain ⟨t', rfl⟩ := ry
  exact PySem.SB.mul (mulOk6 hz h0 h1) fun t2 k => ⟨.str (Txt.mul z i), H, I.tok k, ⟨t2, rfl⟩, q⟩
/-! ### a comprehension over a text -/
theorem lc_txt {z : Str} {f : Nat → V} {g : TG} {te : TE} {vs : List Nat} {σ : L2.St} {H : Hp} {D : Addr} {Qd : Hp → Prop} (hD : H D = none) (hz : z.length ≤ 100000)
    (helt : ∀ (c : Nat) (H' : Hp) (R : V → Hp → Prop), c ∈ sg z → Same H H' → R (f c) H' → g (.str ⟨#[c]⟩) (wipe σ vs) H' fun σ2 H2 => wipe σ2 vs = wipe σ vs ∧ te σ2 H2 R)
    (hq : ∀ H', Same H H' → H' D = some (.lst ((sg z).map f)) → Qd H') :
    ∃ W : Nat → Nat → Hp → Prop, (∃ m, W 0 m (upd H D (.lst []))) ∧ ∀ i m H, W i m H →
      ((Its z).stop i H ∧ Qd H) ∨ ((Its z).go i H ∧ ∃ Nx : Hp → Prop, (∀ H', Nx H' → ∃ m', m' < m ∧ W (i + 1) m' H') ∧ ∀ x H', (Its z).yld i H x H' → g x (wipe σ vs) H' fun σ2 H2 => wipe σ2 vs = wipe σ vs ∧ tYes σ2 H2 fun b H3 =>
        if b = true then te σ2 H3 fun y H4 => ∃ acc, H4 D = some (.lst acc) ∧ acc.length < sizeLine ∧ Nx (upd H4 D (.lst (acc ++ [y]))) else Nx H3) := by
  have hsz : z.cps.size = (sg z).length := by simp [sg]
  refine lc_it (walk_str (z := z)) (fun i H' => Same H H' ∧ H' D = some (.lst (((sg z).take i).map f))) ⟨same_new hD _, upd_same⟩ (fun _ _ _ _ => True.intro) ?_ (fun H' h => hq H' h.1 (by rw [hsz] at h; rw [h.2, List.take_length]))
  rintro i x H1 H2 hi ⟨g1, g2⟩ ⟨rfl, c, hc, rfl⟩
  have hc' : (sg z)[i]? = some c := by simpa [sg] using hc
  refine helt c H2 _ (List.mem_of_getElem? hc') g1 ⟨_, g2, ?_, fun b o q => ?_, ?_⟩
  · have : (((sg z).take i).map f).length ≤ z.length := by simp [sg, Str.length]; omega
    exact Nat.lt_of_le_of_lt (Nat.le_trans this hz) (by decide)
  · rw [upd_ne (ne_of_none q hD)]
    exact g1 b o q
  · rw [upd_same, List.take_add_one, hc']
    simp
end Fp
namespace Fp
open PySem PySem.Spec PyProof.Rows L2
/-! ### methods with their promises -/
section
variable {X : Cx} {k i : Nat} {x m : Str} {p pos apos : Pos} {e o : Expr} {es : List Expr} {t : TA} {ta : TE} {C : Addr} {ps : List Str} {sp : Sp}
structure Md (P : Program) (w : World) (K : PySem.W.Frag) (mg : Str → Option Value) (base : Heap) (CX : CXT) (C : Addr) (m : Str) (k : Nat) (ps : List Str) (sp : Sp) : Prop where
  ex : ∃ (f : Addr) (fd : FuncData), Meth K C m f ∧ Binds K fd ps [] ∧ FnOk P w K mg base CX k f fd ps sp
theorem pe_md {pl : Sem Bool} (he : PE X o ta) (c : Cls X.K C) (M : Md X.prog X.w X.K X.mg X.base CX0 C m k ps sp) (hr : Room k X.A) (ha : PA X (e :: es) t)
    (hst : starEach (e :: es) X.env = (false, eval e X.env) :: starEach es X.env := by rfl) (hpl : (backTo pos (starEach es X.env)).any (·.1) = false := by rfl)
    (ht : eval (.Call (.Attribute o m apos) (e :: es) [] pos) X.env = (do
      let ov ← eval o X.env
      standAt apos.atName
      let (f, first) ← holding [ov] (getMethod ov m pl)
      callWith pos f first (backTo pos (starEach (e :: es) X.env)) (backToKw pos (keywordEach [] X.env))) := by rfl) :
    PE X (.Call (.Attribute o m apos) (e :: es) [] pos) (tMeth C m sp [] E0 ta t) := by
  obtain ⟨f, fd, h1, h2, h3⟩ := M.ex
  exact pe_meth he c h1 h3 hr h2 .nil pass0 ha hst hpl ht
theorem pe_md0 {pl : Sem Bool} (he : PE X o ta) (c : Cls X.K C) (M : Md X.prog X.w X.K X.mg X.base CX0 C m k ps sp) (hr : Room k X.A)
    (ht : eval (.Call (.Attribute o m apos) [] [] pos) X.env = (do
      let ov ← eval o X.env
      standAt apos.atName
      let (f, first) ← holding [ov] (getMethod ov m pl)
      callWith pos f first (backTo pos (starEach [] X.env)) (backToKw pos (keywordEach [] X.env))) := by rfl) :
    PE X (.Call (.Attribute o m apos) [] [] pos) (tMeth C m sp [] E0 ta tNil) := by
  obtain ⟨f, fd, h1, h2, h3⟩ := M.ex
  exact pe_meth0 he c h1 h3 hr h2 .nil pass0 ht
end
/-- a statement that is never reached -/
theorem ps_no {X : Cx} {st : Stmt} : PS X st (fun _ _ _ => False) := ⟨fun _ _ _ _ _ _ h => h.elim⟩
/-! ### a class of the module, made with its promise -/
structure MkC (P : Program) (w : World) (K : PySem.W.Frag) (mg : Str → Option Value) (base : Heap) (x : Str) (C : Addr) (k : Nat) (ps : List Str) (sp : Sp) : Prop where
  at_ : mg x = some (.ref C)
  ex : ∃ (f : Addr) (fd : FuncData), Mk K C f ∧ Binds K fd ps [] ∧ FnOk P w K mg base CX0 k f fd ps sp
section
variable {X : Cx} {x : Str} {k : Nat} {ps : List Str} {sp : Sp} {C : Addr} {e : Expr} {es : List Expr} {t : TA} {p pos : Pos}
theorem pe_mk0 (M : MkC X.prog X.w X.K X.mg X.base x C k ps sp) (hr : Room (k + 1) X.A) (hg : Gl X x) (hdb : (x == ("__debug__" : Str)) = false := by decide) : PE X (.Call (.Name x p) [] [] pos) (tMake C sp [] E0 tNil) := by
  obtain ⟨f, fd, h1, h2, h3⟩ := M.ex
  exact pe_make0 h1 h3 hr hg M.at_ h2 .nil pass0 hdb
theorem pe_mk (M : MkC X.prog X.w X.K X.mg X.base x C k ps sp) (hr : Room (k + 1) X.A) (hg : Gl X x) (ha : PA X (e :: es) t) (hdb : (x == ("__debug__" : Str)) = false := by decide)
    (he : starEach (e :: es) X.env = (false, eval e X.env) :: starEach es X.env := by rfl) (hpl : (backTo pos (starEach es X.env)).any (·.1) = false := by rfl) : PE X (.Call (.Name x p) (e :: es) [] pos) (tMake C sp [] E0 t) := by
  obtain ⟨f, fd, h1, h2, h3⟩ := M.ex
  exact pe_make h1 h3 hr hg M.at_ h2 .nil pass0 ha hdb he hpl
end
/-! ### x == y, x != y by an own __eq__ (no own __ne__) -/
section
open PySem.W
variable {prog : Program} {w : World} {A : Around} {E : Value → Shared → Prop} {s : Shared} {K : Frag} {x C L f : Addr} {h₀ : Heap} {m : Str → Option Value} {ox : Obj} {od : Option Obj} {b tb : Value}
theorem tryNe_K {Q : Option Value → Shared → Prop} (hu : A.units + 1 < cLine) (X : K.In s.heap) (I : InstAt s.heap x ox C od) (hne : findIn K (.ref C) "__ne__" = some (some (.builtin "object.__ne__"))) (top : mroIn K C (.type "object") = some true)
    (hs : findIn K (.ref C) "__eq__" = some (some (.ref f))) (hf : isFn K (.ref f) = true)
    (h : wpAny (model prog w) A.in1 (call (.ref f) [.ref x, b]) (fun v s' => ∃ k, v = .bool k ∧ Q (some (.bool (!k))) s') E s) : wpAny (model prog w) A (tryCompare (.ref x) "__ne__" b) Q E s := by
  have inner : ∀ (A' : Around) (hu' : A'.units < cLine) (E' : Value → Shared → Prop) (Q' : Fin → Shared → Prop), wpAny (model prog w) A' (call (.ref f) [.ref x, b]) (fun v s' => ∃ k, v = .bool k ∧ Q' (.done (.ret (.bool (!k)))) s') E' s →
      wpAny (model prog w) A' (Builtin.«object.__ne__» ⟨[.ref x, b], []⟩) Q' E' s := by
    intro A' hu' E' Q' h'
    unfold Builtin.«object.__ne__»
    repeat (first
      | with_reducible refine wpAny_cRoomFor hu' ?_
      | (refine wpAny_bind (m := callSpecialIfBound? (.ref x) (Str.ofString "__eq__") [b])
          (ifBound_K X I hs hf (wpAny_mono h' (fun r s' hr => by
            obtain ⟨k, rfl, hq⟩ := hr
            repeat (first | exact hq | exact wpAny_pure hq | exact wpAny_truthy_bool hq | (refine wpAny_bind (m := truthy (.bool _)) (wpAny_truthy_bool ?_)) | wp_step)) fun _ _ e => e)))
      | wp_step)
  have hi : Looks (model prog w) s.heap (isInstance (.ref x) (.type "object")) true := I.type.andThen (looks_mroIn X top)
  have S := F.slot_object_ne
  have done : ∀ (Q' : Value → Shared → Prop), wpAny (model prog w) A.in1 (call (.ref f) [.ref x, b]) (fun v s' => ∃ k, v = .bool k ∧ Q' (.bool (!k)) s') E s → wpAny (model prog w) A (call (.builtin "object.__ne__") [.ref x, b]) Q' E s := by
    intro Q' h'
    refine wpAny_call (codeAny_call_builtin S.plain PySem.F.cmpEntry_ne (check_slot PySem.F.cmpKind_ne PySem.F.cmpSplit_ne hi (PySem.F.cmpArgs_ne _ _) (inner A.in1 hu _ _ (wpAny_mono h' (fun v s' hv => ?_) fun _ _ e => e))))
    obtain ⟨k, rfl, hq⟩ := hv
    exact ⟨k, rfl, hq⟩
  have one : wpAny (model prog w) A (callSpecialIfBound? (.ref x) "__ne__" [b]) (fun r s' => ∃ k, r = some (.bool k) ∧ Q (some (.bool k)) s') E s := by
    simp only [callSpecialIfBound?, bindSpecialIfBound?]
    refine wpAny_holding (wpAny_bind (wpAny_bind (wpAny_bind (I.type.here ((looks_findIn X hne).here ?_)))))
    refine wpAny_bind (wpAny_askSetting (wpAny_ite ?_))
    have fin : wpAny (model prog w) A (call (.builtin "object.__ne__") ([.ref x] ++ [b]) >>= fun v => pure (some v)) (fun r s' => ∃ k, r = some (.bool k) ∧ Q (some (.bool k)) s') E s :=
      wpAny_bind (done _ (wpAny_mono h (fun v s' hv => by
        obtain ⟨k, rfl, hq⟩ := hv
        exact ⟨k, rfl, wpAny_pure ⟨_, rfl, hq⟩⟩) fun _ _ e => e))
    rw [S.bind]
    split
    · exact wpAny_bind (wpAny_pure (wpAny_pure fin))
    · exact wpAny_tryCatch (wpAny_bind (wpAny_pure (wpAny_pure fin)))
  unfold tryCompare
  refine wpAny_bind (wpAny_mono one (fun r s' z => ?_) fun _ _ e => e)
  obtain ⟨k, rfl, hq⟩ := z
  exact wpAny_pure hq
theorem ne_K {Q : Value → Shared → Prop} (hu : A.units + 1 < cLine) (F : Fr h₀ L s.heap m) (X₀ : K.In h₀) (I : InstAt s.heap x ox C od) (hb : Looks (model prog w) s.heap (typeOf b) tb) (hn : notFirst K C tb = true)
    (hne : findIn K (.ref C) "__ne__" = some (some (.builtin "object.__ne__"))) (top : mroIn K C (.type "object") = some true) (hs : findIn K (.ref C) "__eq__" = some (some (.ref f))) (hf : isFn K (.ref f) = true)
    (h : wpAny (model prog w) A.in1 (call (.ref f) [.ref x, b]) (fun v s' => ∃ k, v = .bool k ∧ Q (.bool (!k)) s') E s) : wpAny (model prog w) A (richCompare .NotEq (.ref x) b) Q E s := by
  have X := X₀.keeps F.keep
  have one : wpAny (model prog w) A (tryCompare (.ref x) "__ne__" b) (fun r s' => ∃ v, r = some v ∧ Q v s') E s :=
    tryNe_K hu X I hne top hs hf (wpAny_mono h (fun v s' hv => by
      obtain ⟨k, rfl, hq⟩ := hv
      exact ⟨k, rfl, _, rfl, hq⟩) fun _ _ e => e)
  unfold richCompare
  simp only [oneThing_ref]
  refine wpAny_holding (wpAny_bind (wpAny_cRoomFor (Nat.lt_of_succ_lt hu) ?_))
  refine wpAny_bind (I.type.here (wpAny_bind (hb.here ?_)))
  split
  · rename_i q
    have e : subIn K tb (.ref C) = some false := by
      rcases Bool.or_eq_true_iff.mp hn with e | e
      · rw [beq_iff_eq.mp e] at q; simp at q
      · exact beq_iff_eq.mp e
    refine wpAny_bind ((looks_subIn X e).here ?_)
    simp only [Bool.false_eq_true, if_false]
    refine wpAny_bind (wpAny_mono one (fun r s' z => ?_) fun _ _ e => e)
    obtain ⟨v, rfl, hq⟩ := z
    exact wpAny_pure hq
  · refine wpAny_bind (wpAny_pure ?_)
    simp only [Bool.false_eq_true, if_false]
    refine wpAny_bind (wpAny_mono one (fun r s' z => ?_) fun _ _ e => e)
    obtain ⟨v, rfl, hq⟩ := z
    exact wpAny_pure hq
end
/-- what a class with an own == must have -/
structure EqC (P : Program) (w : World) (K : PySem.W.Frag) (mg : Str → Option Value) (base : Heap) (C : Addr) (n : Nat) (ps : List Str) (sp : Sp) : Prop where
  ex : ∃ (f : Addr) (fd : FuncData), PySem.W.findIn K (.ref C) "__eq__" = some (some (.ref f)) ∧ PySem.W.isFn K (.ref f) = true ∧ Binds K fd ps [] ∧ FnOk P w K mg base CX0 n f fd ps sp
  ne : PySem.W.findIn K (.ref C) "__ne__" = some (some (.builtin "object.__ne__"))
  top : PySem.W.mroIn K C (.type "object") = some true
def rEqO (K : PySem.W.Frag) (C : Addr) (sp : Sp) (neg : Bool) : R2 := fun x y H Q => ∃ (a dx : Addr) (fs : List (Str × V)) (t : Value), x = .ref a ∧ H a = some (.ins C dx fs) ∧ TyX K H y t ∧ PySem.W.notFirst K C t = true ∧
  sp [x, y] H (fun v H' => ∃ b, v = .bl b ∧ Q (.bl (if neg then !b else b)) H') E0
section
variable {X : Cx} {C : Addr} {n : Nat} {ps : List Str} {sp : Sp}
theorem op_eqO (M : EqC X.prog X.w X.K X.mg X.base C n ps sp) (hr : Room n X.A) : OpR X (compareOp .Eq) (rEqO X.K C sp false) := by
  intro pins s σ H x y v u Q I rx ry h
  obtain ⟨a, dx, fs, t, rfl, ha, ty, hn, q⟩ := h
  cases rx
  obtain ⟨f, fd, hs, hf, hb, F⟩ := M.ex
  obtain ⟨mA, J, _⟩ := ins_get I.hok ha
  obtain ⟨od, J, _⟩ := J.look
  obtain ⟨m, hF⟩ := I.fr
  obtain ⟨Pk, Z, pk, _⟩ := kit_of I ry ty
  show wpAny (model X.prog X.w) X.A (richCompare .Eq (.ref a) u) (EP X pins σ Q) X.xe s
  refine PySem.W.cmp_K (op := .Eq) (tb := t) hr.units0 hF I.ok.mod.kin J (Z.ty _ _ I.kIn pk) hn hs hf ?_
  refine wpAny_mono (run_fn (us := [.ref a, u]) (vs := [.ref a, y]) F hr hb .nil pass0 I (.cons rfl (.cons ry .nil)) (show sp ([V.ref a, y] ++ []) H _ E0 from q)) (fun r s' z => ?_) fun _ _ e => e
  obtain ⟨v, H', I', rv, b, rfl, q'⟩ := z
  cases rv
  exact ⟨.bl b, H', I', rfl, q'⟩
theorem op_neO (M : EqC X.prog X.w X.K X.mg X.base C n ps sp) (hr : Room (n + 1) X.A) : OpR X (compareOp .NotEq) (rEqO X.K C sp true) := by
  intro pins s σ H x y v u Q I rx ry h
  obtain ⟨a, dx, fs, t, rfl, ha, ty, hn, q⟩ := h
  cases rx
  obtain ⟨f, fd, hs, hf, hb, F⟩ := M.ex
  obtain ⟨mA, J, _⟩ := ins_get I.hok ha
  obtain ⟨od, J, _⟩ := J.look
  obtain ⟨m, hF⟩ := I.fr
  obtain ⟨Pk, Z, pk, _⟩ := kit_of I ry ty
  show wpAny (model X.prog X.w) X.A (richCompare .NotEq (.ref a) u) (EP X pins σ Q) X.xe s
  refine ne_K (tb := t) (hu_of hr) hF I.ok.mod.kin J (Z.ty _ _ I.kIn pk) hn M.ne M.top hs hf ?_
  have e0 : Env0 X.prog X.w X.K X.mg X.base X.A.in1 X.stack s H := I.env0.in1
  have r2 : Vals ([V.ref a, y] ++ []) ([Value.ref a, u] ++ []) := (Vals.append (.cons rfl (.cons ry .nil)) .nil)
  have hsp : sp ([V.ref a, y] ++ []) H (fun v H' => ∃ b, v = .bl b ∧ Q (.bl (!b)) H') E0 := q
  have hl : ([Value.ref a, u] ++ []).length = ps.length := by rw [← r2.length]; exact F.len _ _ _ _ hsp
  refine wpAny_call (codeAny_mono (F.run X.A.in1 X.stack s H ⟨[.ref a, u], []⟩ _ _ _ E0 hr.in1 e0 (hb s [.ref a, u] I.kIn hl) r2 hsp) fun r s' hq => ?_)
  cases r with
  | error e => exact pass0 pins σ H s e s' I hq
  | ok fl =>
    cases fl with
    | ret u =>
      obtain ⟨v, H', I', rv, b, rfl, q'⟩ := I.after hq
      cases rv
      exact ⟨b, rfl, .bl (!b), H', I', rfl, q'⟩
    | next => exact False.elim hq
    | brk => exact False.elim hq
    | cont => exact False.elim hq
end
end Fp
/-! Defs that may show data: no repr under way -/
namespace L2
open PySem PySem.Spec PyProof.Rows
structure FnOkG (P : Program) (w : World) (K : PySem.W.Frag) (mg : Str → Option Value) (base : Heap) (CX : CXT) (k : Nat) (f : Addr) (fd : FuncData) (ps : List Str) (sp : Sp) : Prop where
  len : ∀ vs H Q E, sp vs H Q E → vs.length = ps.length
  run : ∀ (A : Around) (outer : List Env) (s : Shared) (H : Hp) (args : Args) (us : List Value) (vs : List V) (Q : VK) (E : XK), Room k A → A.guards = some [] → Env0 P w K mg base A outer s H → BindsTo s fd args (ps.zip us) → Vals vs us → sp vs H Q E →
    codeAny (model P w) A (.call (.ref f) args) (CR CX outer P w H s Q E) s
theorem fn_ofG {CX : CXT} {P : Program} {w : World} {K : PySem.W.Frag} {mg : Str → Option Value} {base : Heap} {k : Nat} {f : Addr} {name qual : Str} {params : Arguments} {body : List Stmt} {scope : Scope} {dV kV doc pm cdv ct oc : Value} {an od : Option Addr}
    {osl : Array (Option Value)} {N ps : List Str} {sp : Sp} (lk : K.lookup f = some ⟨oc, od, .func (PySem.W.fnOf name qual params body scope dV kV doc pm an cdv ct), osl⟩) (hcd : PySem.W.codeIn K cdv qual = true) (S : FnScope N ps scope)
    (len : ∀ vs H Q E, sp vs H Q E → vs.length = ps.length)
    (hbody : ∀ (A : Around) (outer : List Env) (s : Shared) (H : Hp) (vs : List V) (Q : VK) (E : XK), Room k (A.deeper (envOfC qual scope s.heap.objs.size f cdv)) → (A.deeper (envOfC qual scope s.heap.objs.size f cdv)).guards = some [] → sp vs H Q E →
      ∃ t, PSs (cxOf CX P w K mg base N qual scope f cdv A outer s H E) body t ∧ t { nx := fun _ H' => Q .non H', rt := Q } (start N vs) H) :
    FnOkG P w K mg base CX (k + 1) f (PySem.W.fnOf name qual params body scope dV kV doc pm an cdv ct) ps sp := by
  refine ⟨len, fun A outer s H args us vs Q E hr hgu e0 hb r hsp => ?_⟩
  have hl := len _ _ _ _ hsp
  have KX : K.In s.heap := e0.mod.kin.keeps fun b o e => (e0.bs b o e).1
  have lim : s.heap.NoLimit := e0.mod.nolimit.keeps fun b o e => (e0.bs b o e).1
  have hkind : ∀ y ∈ ps.zip us, scope.names.lookup y.1 = some .local ∨ (scope.names.lookup y.1 = some .cell ∧ ((cellsFrom (s.heap.objs.size + 1) scope.names []).lookup y.1).isSome = true) := fun ⟨n, v⟩ hy => by
    rcases S.par n (List.of_mem_zip hy).1 with q | q
    · exact .inl q
    · exact .inr ⟨q, PySem.W.cellsFrom_some _ _ _ (.inl q)⟩
  refine codeAny_call_function hr.depth (KX _ _ lk) rfl S.co S.gen rfl (PySem.W.codeRec_of KX hcd) (hb _ _ _ _ ?_)
  refine wpAny_newFunctionEnv_cells S.kind hkind fun env he s1 x => ?_
  subst he
  refine ⟨lim.keeps x.toInCall.keep, codeAny_func ?_⟩
  obtain ⟨t, ht, hq⟩ := hbody A outer s H vs Q E (hr.deeper _) hgu hsp
  have I : Inv (cxOf CX P w K mg base N qual scope f cdv A outer s H E) [] (start N vs) H s1 := inv_start S hr.hd e0 hl r x
  refine wpAny_mono (ht.run [] s1 (start N vs) H _ I hq) (fun fl s' hs => ?_) fun e s' hs => hs
  have fin : ∀ {σ' : St} {H' : Hp} {v : V} {u : Value}, Inv (cxOf CX P w K mg base N qual scope f cdv A outer s H E) [] σ' H' s' → RelV v u → Q v H' → CE outer P w H s Q u s' :=
    fun {σ' H' v u} J rv q => ⟨v, H', J.os, J.bare, J.base, J.hok, rv, q⟩
  cases fl with
  | ret u =>
    obtain ⟨v, σ', H', J, rv, q⟩ := hs
    exact fin J rv q
  | next =>
    obtain ⟨σ', H', J, q⟩ := hs
    exact fin (v := V.non) (u := Value.none) J rfl q
  | brk =>
    obtain ⟨_, _, _, q⟩ := hs
    exact False.elim q
  | cont =>
    obtain ⟨_, _, _, q⟩ := hs
    exact False.elim q
theorem law_callG {P : Program} {w : World} {K : PySem.W.Frag} {mg mb : Str → Option Value} {CX : CXT} {k : Nat} {fa a : Addr} {fd : FuncData} {x : Str} {sp : Sp} {s₁ : Shared} {vs : List Value} {ns : List Int}
    (KX : K.In s₁.heap) (hns : s₁.heap.Ns mainGlobals mg) (hb : s₁.heap.Ns builtinsNs mb) (hbb : ∀ x : Str, x ≠ "__name__" → mb x = bootBuiltins x) (hlim : s₁.heap.NoLimit) (hg : s₁.gens = #[])
    (ha : s₁.heap.get? a = some { cls := .type "list", data := .seq vs.toArray }) (hi : IntsAre vs ns) (hl : ns.length ≤ sizeLine) (hr : Room k callerA)
    (F : ∀ base : Heap, K.In base → base.Ns mainGlobals mg → FnOkG P w K mg base CX k fa fd [x] sp) (hbind : ∀ (s : Shared) (u : Value), BindsTo s fd ⟨[u], []⟩ [(x, u)])
    (hsp : ∀ H : Hp, Only H → SqL K H a (ns.map V.int) → sp [.ref a] H (fun v _ => v = .bl true) fun _ _ _ => False)
    (hCX : ∀ H e s', CX [] H s₁ (fun _ _ _ => False) e s' → False) :
    codeAny (model P w) callerA (.call (.ref fa) ⟨[.ref a], []⟩) (fun r s' => r = .ok (.ret (.bool true)) ∧ OldK s₁.heap s'.heap ∧ s'.os = s₁.os ∧ AllBare s'.gens) s₁ := by
  have rv := vals_ints hi
  have lenV := hi.length
  -- from an abstract heap in which nothing but the script may be tracked
  have core : ∀ H : Hp, Only H → SqL K H a (ns.map V.int) → HOk P w H s₁.heap → (∀ b, H b ≠ none → b = a) → (H a ≠ none → K.lookup a = none) →
      codeAny (model P w) callerA (.call (.ref fa) ⟨[.ref a], []⟩) (fun r s' => r = .ok (.ret (.bool true)) ∧ OldK s₁.heap s'.heap ∧ s'.os = s₁.os ∧ AllBare s'.gens) s₁ := by
    intro H hO hS hok hA hK
    have base_of : ∀ {b : Addr} {o : Obj}, s₁.heap.get? b = some o → H b = none → (hidT s₁.heap H).get? b = some o := fun e n => hidT_get e n
    have noA : ∀ {b : Addr} {o : Obj} {es : Array DictEntry} {ep : Nat}, s₁.heap.get? b = some o → o.data = .dict es ep → H b = none := fun {b o es ep} e d => by
      cases q : H b with
      | none => rfl
      | some u =>
        have e' : b = a := hA b (by rw [q]; simp)
        subst e'
        rw [ha] at e; cases e
        have d' : Data.seq vs.toArray _ = Data.dict es ep := d
        cases d'
    have nsK : ∀ {b : Addr} {m : Str → Option Value}, s₁.heap.Ns b m → (hidT s₁.heap H).Ns b m := fun {b m} ⟨o, es, ep, e, d, r⟩ => ⟨o, es, ep, base_of e (noA e d), d, r⟩
    have hKb : K.In (hidT s₁.heap H) := fun b o e => base_of (KX b o e) (by
      cases q : H b with
      | none => rfl
      | some u =>
        have e' : b = a := hA b (by rw [q]; simp)
        subst e'
        rw [hK (by rw [q]; simp)] at e; cases e)
    have hM : Mod K mg (hidT s₁.heap H) := ⟨hKb, nsK hns, ⟨mb, nsK hb, hbb⟩, let ⟨mc, h1, h2⟩ := hlim; ⟨mc, nsK h1, h2⟩⟩
    have e0 : Env0 P w K mg (hidT s₁.heap H) callerA [] s₁ H := ⟨rfl, hM, fun b o e => of_hidT e, Nat.le_of_eq (hidT_size _ _), trivial, fun b hb => absurd (show b ∈ ([] : List Addr) from hb) (by simp), hok, .of_eq hg⟩
    refine codeAny_mono ((F _ hKb (nsK hns)).run callerA [] s₁ H ⟨[.ref a], []⟩ [.ref a] [.ref a] _ _ hr rfl e0 (hbind s₁ (.ref a)) (.cons rfl .nil) (hsp H hO hS)) fun r s' h => ?_
    cases r with
    | error e => exact (hCX H e s' h).elim
    | ok fl =>
      cases fl with
      | next => exact False.elim h
      | brk => exact False.elim h
      | cont => exact False.elim h
      | ret u =>
        obtain ⟨v, H', os, bare, un, hok', r', q⟩ := h
        have q' : v = .bl true := q
        subst q'
        obtain rfl : u = Value.bool true := r'
        refine ⟨rfl, OldK.of_keep fun b o e => ?_, os, bare⟩
        cases q : H b with
        | none => exact un.keep b o e q (by intro z; exact absurd (show b ∈ ([] : List Addr) from z) (by simp)) (by simp)
        | some u =>
          rcases hO b with z | ⟨ob, xs, z⟩
          · rw [q] at z; cases z
          · have z2 := un.frzs b ob _ z
            obtain ⟨e1, _⟩ := hok b _ z
            obtain ⟨e2, _⟩ := hok' b _ z2
            rw [e] at e1; cases e1
            exact e2
  cases hk : K.lookup a with
  | some o =>
    -- the script is one of the module's own objects
    have e := KX a o hk
    rw [ha] at e
    cases e
    refine core (fun _ => none) (fun _ => .inl rfl) (.inr ⟨_, vs.toArray, _, hk, rfl, rfl, rfl, by rw [List.size_toArray, lenV]; exact hl, by simpa using rv⟩) (fun b u z => by have z' : (none : Option HO) = some u := z; cases z') (fun b z => absurd rfl z) fun z => absurd rfl z
  | none =>
    refine core (fun b => if b = a then some (.frz { cls := .type "list", data := .seq vs.toArray } (.lst (ns.map V.int))) else none) (fun b => ?_) (.inl (.inr ⟨{ cls := .type "list", data := .seq vs.toArray }, if_pos rfl⟩)) (fun b u z => ?_) (fun b z => ?_) fun _ => hk
    · by_cases hb : b = a
      · exact .inr ⟨_, _, if_pos hb⟩
      · exact .inl (if_neg hb)
    · by_cases hb : b = a
      · have z' := (if_pos hb).symm.trans z
        cases z'
        subst hb
        exact ⟨ha, by rw [List.length_map]; exact hl, vs, _, rv, ha⟩
      · have z' := (if_neg hb).symm.trans z
        cases z'
    · by_cases hb : b = a
      · exact hb
      · exact absurd (if_neg hb) z
theorem walk_ofG {l : PySem.W.OpenLaw} {n k : Nat} {q : Program} {loose : List Str} {XP : (Str → Option Value) → Heap → Prop} {YP : World → Heap → Prop} {d : DefRec} {K : Params → PySem.W.Frag} {CX : World → CXT} {sp : World → Sp} {x : Str}
    (hn : l.most = some n) (hn2 : n ≤ sizeLine) (hdf : d.params.defaults = []) (hr : Room k callerA)
    (hY : ∀ (w : World) (h : Heap), YP w h → (K w.params).In h)
    (F : ∀ (w : World) (mg : Str → Option Value) (fa : Addr) (h : Heap), (K w.params).In h → h.Ns mainGlobals mg → mg d.name = some (.ref fa) →
      ∃ fd : FuncData, (∀ (s : Shared) (u : Value), BindsTo s fd ⟨[u], []⟩ [(x, u)]) ∧
        ∀ base : Heap, (K w.params).In base → base.Ns mainGlobals mg → FnOkG l.prog w (K w.params) mg base (CX w) k fa fd [x] (sp w))
    (hsp : ∀ (w : World) (H : Hp) (a : Addr) (ns : List Int), ns.length ≤ n → Only H → SqL (K w.params) H a (ns.map V.int) → sp w [.ref a] H (fun v _ => v = .bl true) fun _ _ _ => False)
    (hCX : ∀ (w : World) (H : Hp) (s : Shared) (e : Value) (s' : Shared), CX w [] H s (fun _ _ _ => False) e s' → False) :
    PySem.W.WalkO q loose XP YP l.row.toRowW d [] (fun f vs => PySem.call f vs) := by
  refine Att.attach_call hn hdf fun w s₀ s₁ mg mb fa o pm cd doc a vs ns G Y ho hd hcd hmg hobj hints hlen hg => ?_
  have KX := hY w _ Y
  obtain ⟨fd, hb, hF⟩ := F w mg fa _ KX G.T.g hmg
  exact law_callG KX G.T.g G.T.b G.T.builtins G.T.nolimit hg hobj hints (Nat.le_trans hlen hn2) hr hF hb (fun H hO hS => hsp w H a ns hlen hO hS) fun H e s' => hCX w H s₁ e s'
theorem FnOk.toG {P : Program} {w : World} {K : PySem.W.Frag} {mg : Str → Option Value} {base : Heap} {CX : CXT} {k : Nat} {f : Addr} {fd : FuncData} {ps : List Str} {sp : Sp} (F : FnOk P w K mg base CX k f fd ps sp) : FnOkG P w K mg base CX k f fd ps sp :=
  ⟨F.len, fun A outer s H args us vs Q E hr _ => F.run A outer s H args us vs Q E hr⟩
end L2
namespace Fp
open PySem PySem.Spec PyProof.Rows L2
section
variable {P : Program} {w : World} {K : PySem.W.Frag} {mg : Str → Option Value} {base : Heap}
theorem fun_okG {x qual : Str} {st : Stmt} {f : Addr} {fd : FuncData} {N ps : List Str} {k : Nat} {sp : Sp} (F : Fun K x qual st f fd) (S : FnScope N ps (defScope st)) (len : ∀ vs H Q E, sp vs H Q E → vs.length = ps.length)
    (hbody : ∀ (cdv : Value) (A : Around) (outer : List Env) (s : Shared) (H : Hp) (vs : List V) (Q : VK) (E : XK), Room k (A.deeper (envOfC qual (defScope st) s.heap.objs.size f cdv)) → (A.deeper (envOfC qual (defScope st) s.heap.objs.size f cdv)).guards = some [] → sp vs H Q E →
      ∃ t, PSs (cxOf CX0 P w K mg base N qual (defScope st) f cdv A outer s H E).nox (defBody st) t ∧ t { nx := fun _ H' => Q .non H', rt := Q } (start N vs) H) : FnOkG P w K mg base CX0 (k + 1) f fd ps sp := by
  obtain ⟨oc, od, kV, doc, pm, an, cdv, ct, osl, rfl, lk, hcd⟩ := F.ex
  refine fn_ofG lk hcd S len fun A outer s H vs Q E hr hg hsp => ?_
  obtain ⟨t, h, q⟩ := hbody cdv A outer s H vs Q E hr hg hsp
  exact ⟨t, h.nox, q⟩
structure FdG (P : Program) (w : World) (K : PySem.W.Frag) (mg : Str → Option Value) (base : Heap) (CX : CXT) (x : Str) (k : Nat) (ps : List Str) (sp : Sp) : Prop where
  ex : ∃ (f : Addr) (fd : FuncData), mg x = some (.ref f) ∧ PySem.W.keepIn K (.ref f) = true ∧ Binds K fd ps [] ∧ FnOkG P w K mg base CX k f fd ps sp
end
section
variable {X : Cx} {x : Str} {k : Nat} {ps : List Str} {sp : Sp} {e : Expr} {es : List Expr} {t : TA} {p pos : Pos}
theorem pe_fdG (G : FdG X.prog X.w X.K X.mg X.base CX0 x k ps sp) (hr : Room k X.A) (hgu : X.A.guards = some []) (hg : Gl X x) (ha : PA X (e :: es) t) (hdb : (x == ("__debug__" : Str)) = false := by decide)
    (he : starEach (e :: es) X.env = (false, eval e X.env) :: starEach es X.env := by rfl) (hpl : (backTo pos (starEach es X.env)).any (·.1) = false := by rfl) :
    PE X (.Call (.Name x p) (e :: es) [] pos) (tCall sp [] E0 t) := by
  obtain ⟨f, fd, hm, hk, hb, F⟩ := G.ex
  refine ⟨fun pins s σ H Q I h => ?_⟩
  refine wpAny_Call_Name_kw (ld_glob I hg hm ?_ hdb)
  refine PySem.W.callWith_K (h₀ := X.base) I.ok.mod.kin hk (thn (ha.run pos pins s σ H _ I h) fun us s1 ⟨vs, H1, I1, r, q⟩ => ⟨I1.kIn, ?_⟩) he hpl
  have r2 : Vals (vs ++ []) (us ++ []) := r.append .nil
  have hl : (us ++ []).length = ps.length := by rw [← r2.length]; exact F.len _ _ _ _ q
  refine wpAny_call (codeAny_mono (F.run X.A X.stack s1 H1 ⟨us, []⟩ (us ++ []) (vs ++ []) Q E0 hr hgu I1.env0 (hb s1 us I1.kIn hl) r2 q) fun r s' hq => ?_)
  cases r with
  | error e => exact pass0 pins σ H1 s1 e s' I1 hq
  | ok fl =>
    cases fl with
    | ret u => exact I1.after hq
    | next => exact False.elim hq
    | brk => exact False.elim hq
    | cont => exact False.elim hq
/-- repr(x), x of data -/
theorem call_reprG (hgu : X.A.guards = some []) (hu : X.A.units + 64 < cLine) : CallR X (.builtin "repr") (fun xs H Q => ∃ (p : Addr) (d : PyData), xs = [.ref p] ∧ Dp X.K H (.ref p) d ∧ d.showable = true ∧ d.hasDict = false ∧ d.depth ≤ 60 ∧ d.shown.length ≤ sizeLine ∧ Q (.str d.shown) H) := by
  intro pins s σ H xs us Q I r h
  obtain ⟨p, d, rfl, hd, h1, h2, h3, h4, q⟩ := h
  obtain ⟨u, rfl, rx⟩ := vals1 r
  obtain ⟨as, rd⟩ := Dp.reads I d _ u hd rx
  cases rx
  exact repr_of_reads' rd h1 (fun z => by rw [h2] at z; cases z) hgu (by omega) (fun _ _ z => z) (fun h' u tk k => ⟨.str d.shown, H, I.kept (t' := tk) k, ⟨_, rfl⟩, q⟩) h4
end
end Fp
namespace Fp
open PySem PySem.Spec PyProof.Rows L2
/-! ### for i, x in enumerate(tuple, start) -/
def ItF (K : PySem.W.Frag) (a : Addr) (lo : Int) : It :=
  ⟨fun i H => ∃ (ys : List V) (y : V), SqT K H a ys ∧ ys[i]? = some y,
   fun i H v H' => ∃ T y, v = .ref T ∧ H T = none ∧ H' = upd H T (.tup [.int (lo + (i : Nat)), y]) ∧ ∀ ys, SqT K H a ys → ys[i]? = some y,
   fun i H => ∃ ys : List V, SqT K H a ys ∧ ys.length ≤ i⟩
theorem turn_enumF {P : Program} {w : World} {K : PySem.W.Frag} {elts : List Expr} {kk : Nat} {tpos : Pos} (a e it : Addr) (lo : Int) :
    Turn P w K (.Tuple elts kk tpos) (ItF K a lo) [e, it] e (fun i h => (∃ was, IsEnum h e it (lo + ((i : Nat) : Int)) was) ∧ h.IsTupleIter it a i ∧ e ≠ it) where
  mem := List.mem_cons_self
  obj := fun i h st b hb => by
    obtain ⟨⟨was, he⟩, ⟨o, ho, hc, hd⟩, _⟩ := st
    rcases List.mem_cons.mp hb with z | z
    · subst z
      exact ⟨_, he, fun v q => nomatch q⟩
    · have z' := List.mem_singleton.mp z
      subst z'
      exact ⟨o, ho, fun v q => by rw [hd] at q; cases q⟩
  keep := fun i h h' st k => ⟨st.1.imp fun was he => k e (by simp) _ he, st.2.1.at fun o q => k it (by simp) o q, st.2.2⟩
  item := by
    intro X hP hw hK hc i pins s σ H E I hf st hg
    subst hP hw hK
    obtain ⟨⟨was, he⟩, hit, hne⟩ := st
    obtain ⟨ys, y, hq, hx⟩ := hg
    obtain ⟨its, rv, lp, hz⟩ := I.tuple hq
    obtain ⟨u, hu, ru⟩ := rv.get hx
    have le : e < s.heap.objs.size := Heap.lt_size he
    have li : it < s.heap.objs.size := by
      obtain ⟨_, q, _⟩ := hit
      exact Heap.lt_size q
    have fr := I.hok.fresh (Nat.le_refl s.heap.objs.size)
    have hL := lp
    have nel : e ≠ a := fun z => by
      obtain ⟨o, ho, hc', _⟩ := hL
      rw [← z, (show s.heap.get? e = some _ from he)] at ho
      cases ho
      injection hc' with z'
      exact absurd z' (by decide)
    have nil' : a ≠ it := fun z => by
      obtain ⟨o, ho, hc', _⟩ := hL
      obtain ⟨o2, ho2, hc2, _⟩ := hit
      rw [z, ho2] at ho
      cases ho
      rw [hc2] at hc'
      injection hc' with z'
      exact absurd z' (by decide)
    have hiu : its.toArray[i]? = some u := by simpa using hu
    have hlt : i < its.toArray.size := by
      by_cases z : i < its.toArray.size
      · exact z
      · rw [Array.getElem?_eq_none (by omega)] at hiu
        cases hiu
    refine wpAny_pyNext_enum_itemC (Draws.tuple (A := X.A.in1) (I.ok.hd hc) it a nil' its.toArray) he ⟨hit, hL⟩ hlt hne (by simp [hne, nel]) fun x h1 tk hx1 ho hst1 hT hsz hk => ⟨_, rfl, ?_⟩
    rw [hiu] at hx1
    cases hx1
    have hit1 := hst1.1
    refine wpAny_letOwnedTupleGo_enum (s := { s with heap := h1, toks := tk + 1 }) ho fun h2 he2 sb => ?_
    have hT2 := (sb.2 _ (Nat.ne_of_gt le)).trans hT
    have mem2 : ∀ {b : Addr}, b ∈ [e, it] → b < s.heap.objs.size := fun {b} hb => by
      rcases List.mem_cons.mp hb with z | z
      · rw [z]; exact le
      · rw [List.mem_singleton.mp z]; exact li
    refine ⟨.ref s.heap.objs.size, upd H s.heap.objs.size (.tup [.int (lo + (i : Nat)), y]), ?_, rfl, ⟨_, y, rfl, fr, rfl, fun zs hy => by rw [I.tuple_inj hy hq]; exact hx⟩, ⟨⟨u, ?_⟩, hit1.at fun o q => (sb.2 it (Ne.symm hne)).trans q, hne⟩, fun b hb => ?_⟩
    · refine I.turnedNew (ch := [e, it]) (fun b ob hb q => ?_) hf (Nat.le_refl _) ⟨by show 2 ≤ sizeLine; decide, [.int (lo + (i : Nat)) tk, u], .cons ⟨_, rfl⟩ (.cons ru .nil), ⟨_, hT2, rfl, _, rfl⟩⟩
      have be : b ≠ e := fun z => hb (by simp [z])
      have bi : b ≠ it := fun z => hb (by simp [z])
      exact (sb.2 b be).trans (hk b ob be bi q)
    · have e1 : lo + (((i + 1 : Nat)) : Int) = lo + (i : Int) + 1 := by omega
      rw [e1]
      exact he2
    · rw [upd_ne (Nat.ne_of_lt (mem2 hb))]
      exact (hf b hb).1
  done := by
    intro X hP hw hK hc i pins s σ H E I hf st hg
    subst hP hw hK
    obtain ⟨⟨was, he⟩, hit, hne⟩ := st
    obtain ⟨ys, hq, hx⟩ := hg
    obtain ⟨its, rv, lp, hz⟩ := I.tuple hq
    obtain ⟨f0, f1, f2, f3, f4, f5⟩ := hf it (by simp)
    have hl := rv.length
    have D : Draws X.prog X.w X.A.in1 it [it, a] i (fun _ _ => False) (fun j h => j = i ∧ h.IsTupleIter it a i ∧ h.IsTuple a its.toArray) := {
      live := fun j h st => by
        obtain ⟨_, ⟨o, ho, _⟩, _⟩ := st
        exact ⟨o, ho⟩
      frame := fun j h h' st k => ⟨st.1, st.2.1.at fun o q => k it (by simp) o q, st.2.2.at fun o q => k a (by simp) o q⟩
      item := fun j s Q E hj st _ => by
        have := st.1
        omega
      done := fun s Q E st hE => wpAny_nextOf_tuple_end (I.ok.hd hc) st.2.1 st.2.2 (by simp; omega) hE }
    exact wpAny_pyNext_enum_endD D he ⟨rfl, hit, lp⟩ fun h1 eb => ⟨rfl, I.turned (t' := s.toks) (fun b o hb q => eb b o hb q) f0 f1 f3 f4 f5⟩
  self := fun A i s Q E st h => st.1.elim fun _ he => wpAny_pyIter_enum he h
def iEnumF (K : PySem.W.Frag) (ta : TA) : TI := fun σ H R => ta σ H fun vs H1 => ∃ a xs lo, vs = [.ref a, .int lo] ∧ SqT K H1 a xs ∧ -(2 ^ 62) ≤ lo ∧ lo < 2 ^ 62 ∧ R (ItF K a lo) H1
theorem pi_enumF {X : Cx} {e1 e2 : Expr} {ta : TA} {p pos tpos : Pos} {elts : List Expr} {kk : Nat} (hg : Gl X "enumerate") (hm : X.mg "enumerate" = none) (ha : PA X [e1, e2] ta)
    (he : starEach (e1 :: [e2]) X.env = (false, eval e1 X.env) :: starEach [e2] X.env := by rfl) (hpl : (backTo pos (starEach [e2] X.env)).any (·.1) = false := by rfl) :
    PI X (.Tuple elts kk tpos) (.Call (.Name "enumerate" p) [e1, e2] [] pos) (iEnumF X.K ta) := by
  refine ⟨fun pins s σ H R I h => ?_⟩
  refine Call_ (ld_blt I hg hm boot_enumerate (PyProof.Rows.callWith_type1 (thn (ha.run pos pins s σ H _ I h) fun us s1 hh => ?_) he hpl))
  obtain ⟨vs, H1, I1, r1, a, xs, lo, ex, hq, hl0, hl1, q⟩ := hh
  subst ex
  obtain ⟨u1, u2, rfl, ra, rb⟩ := vals2 r1
  obtain rfl : u1 = Value.ref a := ra
  obtain ⟨t, rfl⟩ := rb
  obtain ⟨its, rv, lp, hz⟩ := I1.tuple hq
  refine enum_begins (begins_tuple a its.toArray) lp (by omega) (by omega) fun h1 he hit hsz hk => wpAny_pyIter_enum he ?_
  have I2 : Inv X pins σ H1 { s1 with heap := h1 } := I1.kept (t' := s1.toks) hk
  refine ⟨s1.heap.objs.size + 1, [s1.heap.objs.size + 1, s1.heap.objs.size], _, _, H1, rfl, I2, turn_enumF a (s1.heap.objs.size + 1) s1.heap.objs.size lo, ⟨⟨.none, by simpa using he⟩, ⟨_, hit, rfl, rfl⟩, Nat.succ_ne_self _⟩, fun b hb => ?_, q⟩
  have hle : s1.heap.objs.size ≤ b := by
    rcases List.mem_cons.mp hb with z | z
    · rw [z]; exact Nat.le_add_right _ _
    · rw [List.mem_singleton.mp z]; exact Nat.le_refl _
  exact I1.fpOk hle (I1.hok.fresh hle)

set_option maxHeartbeats 1000000 in
theorem meets_enumerate_newB1 {v : Value} {o : Obj} {H : Heap → Prop} (B : Begins v o H) :
    Meets (Builtin.«enumerate.__new__» ⟨[.type "enumerate", v], []⟩) (fun _ R s => H s.heap ∧
      R (.ok (.ret (.ref (s.heap.push o).objs.size))) { s with heap := (s.heap.push o).push { cls := .type "enumerate", data := .fields #[.none, .bool false, .ref s.heap.objs.size, rawInt 0, .none, .none] } }) :=
  .of_wp fun prog w A R s h => by
    obtain ⟨hp, g, d, tk, os⟩ := s; obtain ⟨h1, h⟩ := h
    have hsub := sub_enumerate
    have q1 : ∀ {A' : Around} {E : Value → Shared → Prop} {Q : Value → Shared → Prop}, Q (.ref hp.objs.size) ⟨hp.push o, g, d, tk, os⟩ → wpAny (model prog w) A' (pyIter v) Q E ⟨hp, g, d, tk, os⟩ :=
      fun q => B.iter prog w _ _ ⟨hp, g, d, tk, os⟩ _ h1 q
    wp_walk using q1
    refine wpAny_stack_any fun st => wpAny_pure ?_
    split
    · rename_i c _ _ _ _ _
      cases (c == Value.type "enumerate")
      · wp_walk using q1
        exact ⟨_, rfl, h⟩
      · wp_walk using q1
        exact ⟨_, rfl, h⟩
    · wp_walk using q1
      exact ⟨_, rfl, h⟩
section
variable {prog : Program} {w : World} {A : Around} {E : Value → Shared → Prop} {s : Shared}
theorem enum_begins1 {v : Value} {o : Obj} {H : Heap → Prop} {Q : Value → Shared → Prop} (B : Begins v o H) (h1 : H s.heap)
    (h : ∀ h', IsEnum h' (s.heap.objs.size + 1) s.heap.objs.size 0 .none → h'.get? s.heap.objs.size = some o → h'.objs.size = s.heap.objs.size + 2 →
      (∀ b o, s.heap.get? b = some o → h'.get? b = some o) → Q (.ref (s.heap.objs.size + 1)) { s with heap := h' }) :
    wpAny (model prog w) A (call (.type "enumerate") [v]) Q E s := by
  refine callType_new F.called_enumerate (by decide) (F.typeCall_enumerate_1 _) (F.newCall_enumerate_1 _) (fun obj => F.args_object_init_2 obj _) F.entry_enumerate_new
    (meets_enumerate_newB1 B) ⟨h1, ?_⟩
  have hz : (s.heap.push o).objs.size = s.heap.objs.size + 1 := Heap.size_push ..
  show _ ∧ _
  rw [hz]
  have he : IsEnum ((s.heap.push o).push { cls := .type "enumerate", data := .fields #[.none, .bool false, .ref s.heap.objs.size, rawInt 0, .none, .none] }) (s.heap.objs.size + 1) s.heap.objs.size 0 .none := by
    have := Heap.get?_push_size (s.heap.push o) (o := { cls := .type "enumerate", data := .fields #[.none, .bool false, .ref s.heap.objs.size, rawInt 0, .none, .none] }) rfl
    rw [hz] at this; exact this
  refine ⟨⟨_, he, rfl⟩, h _ he (Heap.get?_push_of_some _ (Heap.get?_push_size _ B.free)) (by rw [Heap.size_push, hz]) fun b o x => Heap.get?_push_of_some _ (Heap.get?_push_of_some _ x)⟩
end
def iEnumT (K : PySem.W.Frag) (ta : TA) : TI := fun σ H R => ta σ H fun vs H1 => ∃ a xs, vs = [.ref a] ∧ SqT K H1 a xs ∧ R (ItF K a 0) H1
theorem pi_enumT {X : Cx} {e1 : Expr} {ta : TA} {p pos tpos : Pos} {elts : List Expr} {kk : Nat} (hg : Gl X "enumerate") (hm : X.mg "enumerate" = none) (ha : PA X [e1] ta)
    (hs : starEach [e1] X.env = [(false, eval e1 X.env)] := by rfl) :
    PI X (.Tuple elts kk tpos) (.Call (.Name "enumerate" p) [e1] [] pos) (iEnumT X.K ta) := by
  refine ⟨fun pins s σ H R I h => ?_⟩
  refine Call_ (ld_blt I hg hm boot_enumerate (PyProof.Rows.callWith_type1 (thn (ha.run pos pins s σ H _ I h) fun us s1 hh => ?_) hs rfl))
  obtain ⟨vs, H1, I1, r1, a, xs, ex, hq, q⟩ := hh
  subst ex
  obtain ⟨u1, rfl, ra⟩ := vals1 r1
  obtain rfl : u1 = Value.ref a := ra
  obtain ⟨its, rv, lp, hz⟩ := I1.tuple hq
  refine enum_begins1 (begins_tuple a its.toArray) lp fun h1 he hit hsz hk => wpAny_pyIter_enum he ?_
  have I2 : Inv X pins σ H1 { s1 with heap := h1 } := I1.kept (t' := s1.toks) hk
  refine ⟨s1.heap.objs.size + 1, [s1.heap.objs.size + 1, s1.heap.objs.size], _, _, H1, rfl, I2, turn_enumF a (s1.heap.objs.size + 1) s1.heap.objs.size 0, ⟨⟨.none, by simpa using he⟩, ⟨_, hit, rfl, rfl⟩, Nat.succ_ne_self _⟩, fun b hb => ?_, q⟩
  have hle : s1.heap.objs.size ≤ b := by
    rcases List.mem_cons.mp hb with z | z
    · rw [z]; exact Nat.le_add_right _ _
    · rw [List.mem_singleton.mp z]; exact Nat.le_refl _
  exact I1.fpOk hle (I1.hok.fresh hle)
theorem walk_enumT {K : PySem.W.Frag} {a : Addr} {xs : List V} {lo : Int} : Walk (ItF K a lo) xs.length (fun H => SqT K H a xs) (fun i H v H' => ∃ T y, v = .ref T ∧ H T = none ∧ H' = upd H T (.tup [.int (lo + (i : Nat)), y]) ∧ xs[i]? = some y) where
  goes := fun i H hi h => ⟨xs, xs[i], h, List.getElem?_eq_getElem hi⟩
  stops := fun H h => ⟨xs, h, Nat.le_refl _⟩
  yields := fun i H v H' hi h y => by
    obtain ⟨T, y, e1, e2, e3, e4⟩ := y
    exact ⟨T, y, e1, e2, e3, e4 _ h⟩
end Fp
/-! Rules: tuple * 1, tuple.index of flat items, repr of any data, not equal -/
namespace L2
open PySem PySem.Spec PyProof.Rows
theorem tuple_mul1 (l : Addr) (items : Array Value) (n : Nat) (dd : Option Addr) (sl : Array (Option Value)) (u : Tok) :
    Meets (Builtin.«tuple.__mul__» ⟨[.ref l, .int 1 u], []⟩) (fun _ R s => s.heap.get? l = some { cls := .type "tuple", dict := dd, data := .seq items n, slots := sl } ∧
      R (.ok (.ret (Value.ref l))) s) :=
  .of_wp fun prog w A R s h => by
    obtain ⟨hp, g, d, tk, os⟩ := s
    obtain ⟨hl, h⟩ := h
    have f1 := AutoSeq1.idx_int
    have c0 : ¬ ((decide ((1 : Int) < -(2 ^ 63)) || decide ((1 : Int) ≥ 2 ^ 63)) = true) := by decide
    have c1 : (items.isEmpty || (1 : Int) == 1) = true := by simp
    wp_walk using wpAny_loadPart' hl
    repeat (first
      | (refine wpAny_ite_false (decide_eq_false (by decide)) ?_; wp_walk using wpAny_loadPart' hl)
      | (refine wpAny_ite_true (decide_eq_true c1) ?_; wp_walk using wpAny_loadPart' hl))
    all_goals first | exact ⟨_, rfl, h⟩ | exact h
def rRepU (K : PySem.W.Frag) : R2 := fun x y H Q => ∃ l k xs, x = .ref l ∧ y = .int k ∧ SqT K H l xs ∧ xs ≠ [] ∧ 1 ≤ k ∧ k ≤ 1000 ∧ xs.length ≤ 1000 ∧ (k = 1 → Q (.ref l) H) ∧ (2 ≤ k → ∀ p, H p = none → Q (.ref p) (upd H p (.tup (List.replicate k.toNat xs).flatten)))
section
variable {X : Cx}
theorem op_repU : OpR X (binaryOp .Mult) (rRepU X.K) := by
  intro pins s σ H x y v u Q I rx ry h
  obtain ⟨l, k, xs, rfl, rfl, hT, hne, h1, h2, hz, q1, q2⟩ := h
  by_cases hk : k = 1
  · subst hk
    cases rx
    obtain ⟨t, rfl⟩ := ry
    obtain ⟨its, r, ⟨⟨cls, dd, data, sl⟩, ho, hc, n, hd⟩, hs⟩ := I.tuple hT
    simp only at hc hd
    subst hc hd
    refine wpAny_binaryOp_repeat_ref (T := "tuple") (U := "int") (by decide) ⟨_, ho, rfl⟩ (fun s' => typeIs_int s' 1 t) noFill_tuple_mul F.fills_int_mul F.slot_int_rmul repeat_tuple F.slot_int_index.lookup
      (call_meets F.slot_int_rmul (typeIs_int s 1 t) F.entry_int_rmul (F.args_int_rmul_2 _ _) (int_rmul_tuple 1 t l its.toArray n dd sl)
        ⟨ho, rfl, ⟨_, ho, rfl⟩, call_meets F.slot_tuple_mul ⟨_, ho, rfl⟩ F.entry_tuple_mul (F.args_tuple_mul_2 _ _) (tuple_mul1 l its.toArray n dd sl t) ⟨ho, ?_⟩⟩)
    exact ⟨.ref l, H, I, rfl, q1 rfl⟩
  · exact op_repT pins s σ H _ _ v u Q I rx ry ⟨l, k, xs, rfl, rfl, hT, hne, by omega, h2, hz, q2 (by omega)⟩
/-- t.index(x), x and all of t flat: the first place -/
theorem mt_tindex : MtR X "tuple.index" (fun x xs H Q => ∃ (p : Addr) (ys : List V) (y : V) (j : Nat) (z : V), x = .ref p ∧ xs = [y] ∧ SqT X.K H p ys ∧ flatV y = true ∧ ys.all flatV = true ∧ ys[j]? = some z ∧ eqV z y = true ∧
    (∀ (m : Nat) (z' : V), m < j → ys[m]? = some z' → eqV z' y = false) ∧ Q (.int (j : Nat)) H) := by
  intro pins s σ H x xs v us Q I rx rs h
  obtain ⟨p, ys, y, j, z, rfl, rfl, hq, fy, fys, hz, hzj, hno, q⟩ := h
  cases rx
  obtain ⟨uy, rfl, ry⟩ := vals1 rs
  obtain ⟨its, rv, pl, hlen⟩ := I.tuple hq
  obtain ⟨⟨cls, dd, dt, sl⟩, ho, hc, n, hd⟩ := pl
  simp only at hc hd
  subst hc
  subst hd
  obtain ⟨u, hu, ru⟩ := rv.get hz
  obtain ⟨hjl, hje⟩ := List.getElem?_eq_some_iff.mp hu
  have hvl := rv.length
  have hj : j < its.toArray.size := by simpa using hjl
  refine call_meets PySem.F.slot_tuple_index ⟨_, ho, rfl⟩ PySem.F.entry_tuple_index (PySem.F.args_tuple_index_2 _ _) (TI.tuple_indexAt p its.toArray n dd sl uy (eqU y) j hj ?_ ?_)
    ⟨ho, fun u' hu' => mem_eqAt ry fy rv fys u' (by simpa using hu'), ⟨.int (j : Nat), H, I.tok _, ⟨_, rfl⟩, q⟩⟩
  · have e1 : its.toArray[j] = u := by simpa using hje
    rw [e1, eqU_of ru (flat_at fys hz)]
    exact hzj
  · intro m hm hmj
    have hml : m < its.length := by simpa using hm
    have hmy : m < ys.length := by omega
    have hy' : ys[m]? = some ys[m] := List.getElem?_eq_getElem hmy
    obtain ⟨u2, hu2, ru2⟩ := rv.get hy'
    obtain ⟨_, hme⟩ := List.getElem?_eq_some_iff.mp hu2
    have e1 : its.toArray[m] = u2 := by simpa using hme
    rw [e1, eqU_of ru2 (flat_at fys hy')]
    exact hno m _ hmj hy'
/-! ### tuples of which it is known that they have no dict -/
def TF (H : Hp) (a : Addr) (xs : List V) : Prop := ∃ o, H a = some (.frz o (.tup xs)) ∧ o.dict = none
theorem TF.sq {K : PySem.W.Frag} {H : Hp} {a : Addr} {xs : List V} (h : TF H a xs) : SqT K H a xs := by
  obtain ⟨o, h, _⟩ := h
  exact .inl (.inr ⟨o, h⟩)
def tTupF (t : TA) : TE := fun σ H Q => t σ H fun xs H1 => xs.length ≤ sizeLine ∧ ∀ p o, H1 p = none → o.dict = none → Q (.ref p) (upd H1 p (.frz o (.tup xs)))
theorem pe_tupF {es : List Expr} {x1} {t : TA} {pos : Pos} (h : PA X es t) : PE X (.Tuple es x1 pos) (tTupF t) := by
  refine ⟨fun pins s σ H Q I hq => ?_⟩
  refine wpAny_Tuple_spliced (thn (h.run pos pins s σ H _ I hq) fun us s1 ⟨xs, H1, I1, r, z, q⟩ => ⟨by rw [← r.length]; exact z, ?_⟩)
  have hf : H1 s1.heap.objs.size = none := I1.hok.fresh (Nat.le_refl _)
  refine ⟨.ref s1.heap.objs.size, upd H1 s1.heap.objs.size (.frz { cls := .type "tuple", data := .seq us.toArray } (.tup xs)), I1.laid (t' := s1.toks) (fun b u e => Heap.get?_push_of_some _ e) (Nat.le_refl _) ?_, rfl, q _ _ hf rfl⟩
  exact ⟨Heap.get?_push_size _ rfl, z, us, r, ⟨_, Heap.get?_push_size _ rfl, rfl, _, rfl⟩⟩
def rCatF (K : PySem.W.Frag) : R2 := fun x y H Q => ∃ a b xs ys, x = .ref a ∧ y = .ref b ∧ SqT K H a xs ∧ SqT K H b ys ∧ xs.length + ys.length ≤ sizeLine ∧
  (xs = [] → Q (.ref b) H) ∧ (xs ≠ [] → ys = [] → Q (.ref a) H) ∧ (xs ≠ [] → ys ≠ [] → ∀ p o, H p = none → o.dict = none → Q (.ref p) (upd H p (.frz o (.tup (xs ++ ys)))))
theorem op_catF : OpR X (binaryOp .Add) (rCatF X.K) := by
  intro pins s σ H x y v u Q I rx ry h
  obtain ⟨a, b, xs, ys, rfl, rfl, ha, hb, hz, q0, q1, q2⟩ := h
  cases rx
  cases ry
  obtain ⟨its, r1, p1, _⟩ := I.tuple ha
  obtain ⟨its2, r2, p2, _⟩ := I.tuple hb
  by_cases hx : xs = []
  · subst hx
    cases r1
    exact cat_tup0 p1 p2 ⟨.ref b, H, I, rfl, q0 rfl⟩
  · refine HT.cat_tup p1 p2 (fun z => hx (r1.nil_iff.mp z)) (fun z => ⟨.ref a, H, I, rfl, q1 hx (r2.nil_iff.mp z)⟩) (fun z => ?_) (by rw [← r1.length, ← r2.length]; exact hz)
    refine ⟨.ref s.heap.objs.size, _, I.laid (t' := s.toks) (o := .frz { cls := .type "tuple", data := .seq (its ++ its2).toArray } (.tup (xs ++ ys))) (fun b ob q => Heap.get?_push_of_some _ q) (Nat.le_refl _) ?_, rfl, q2 hx (fun w => z (r2.nil_iff.mpr w)) _ _ (I.hok.fresh (Nat.le_refl _)) rfl⟩
    exact ⟨Heap.get?_push_size _ rfl, by rw [List.length_append]; exact hz, _, r1.append r2, IsTup.new _ _⟩
def rRepF (K : PySem.W.Frag) : R2 := fun x y H Q => ∃ l k xs, x = .ref l ∧ y = .int k ∧ SqT K H l xs ∧ xs ≠ [] ∧ 1 ≤ k ∧ k ≤ 1000 ∧ xs.length ≤ 1000 ∧ (k = 1 → Q (.ref l) H) ∧ (2 ≤ k → ∀ p o, H p = none → o.dict = none → Q (.ref p) (upd H p (.frz o (.tup (List.replicate k.toNat xs).flatten))))
theorem op_repF : OpR X (binaryOp .Mult) (rRepF X.K) := by
  intro pins s σ H x y v u Q I rx ry h
  obtain ⟨l, k, xs, rfl, rfl, hT, hne, h1, h2, hz, q1, q2⟩ := h
  by_cases hk : k = 1
  · subst hk
    exact op_repU pins s σ H _ _ v u Q I rx ry ⟨l, 1, xs, rfl, rfl, hT, hne, h1, h2, hz, q1, fun z => absurd z (by decide)⟩
  · cases rx
    obtain ⟨t, rfl⟩ := ry
    obtain ⟨its, r, ⟨⟨cls, dd, data, sl⟩, ho, hc, n, hd⟩, hs⟩ := I.tuple hT
    simp only at hc hd
    subst hc hd
    have hle : its.length = xs.length := r.length.symm
    have hn : its ≠ [] := fun e => hne (by
      rw [e] at hle
      exact List.eq_nil_of_length_eq_zero hle.symm)
    have hi : its.toArray.isEmpty = false := by
      cases its with
      | nil => exact absurd rfl hn
      | cons a b => rfl
    have hsz0 : its.toArray.size = xs.length := by rw [List.size_toArray, hle]
    have hm : ((its.toArray.size : Nat) : Int) * k ≤ 1000000 := by
      rw [hsz0]
      have a1 : ((xs.length : Nat) : Int) * k ≤ 1000 * k := Int.mul_le_mul_of_nonneg_right (by omega) (by omega)
      omega
    have flen : (List.replicate k.toNat its).flatten.length ≤ sizeLine := by
      rw [PyProof.Rows.lm_len_rep_flat, hle, sizeLine_eq]
      have a1 : k.toNat * xs.length ≤ 1000 * 1000 := Nat.mul_le_mul (by omega) hz
      omega
    have c0 : (decide (k < -(2 ^ 63)) || decide (k ≥ 2 ^ 63)) = false := by
      rw [decide_eq_false (by omega), decide_eq_false (by omega)] <;> rfl
    have c1 : (its.toArray.isEmpty || k == 1) = false := by
      rw [hi, Bool.false_or]
      exact beq_eq_false_iff_ne.mpr (by omega)
    have c2 : (decide (k ≤ 0) || its.toArray.isEmpty) = false := by
      rw [hi, Bool.or_false]
      exact decide_eq_false (by omega)
    have c4 : Builtin.Tuple.tupleTooMany (((its.toArray.size : Nat) : Int) * k) = false := by
      unfold Builtin.Tuple.tupleTooMany
      rw [sizeLine_eq]
      exact decide_eq_false (by omega)
    refine wpAny_binaryOp_repeat_ref (T := "tuple") (U := "int") (by decide) ⟨_, ho, rfl⟩ (fun s' => typeIs_int s' k t) noFill_tuple_mul F.fills_int_mul F.slot_int_rmul repeat_tuple F.slot_int_index.lookup
      (call_meets F.slot_int_rmul (typeIs_int s k t) F.entry_int_rmul (F.args_int_rmul_2 _ _) (int_rmul_tuple k t l its.toArray n dd sl)
        ⟨ho, rfl, ⟨_, ho, rfl⟩, call_meets F.slot_tuple_mul ⟨_, ho, rfl⟩ F.entry_tuple_mul (F.args_tuple_mul_2 _ _) (tuple_mulW l its.toArray n dd sl k t c0 c1 c2 (by omega) c4 (by rw [size_rep, List.size_toArray]; exact flen)) ⟨ho, ?_⟩⟩)
    rw [size_rep]
    refine ⟨.ref s.heap.objs.size, _, I.laid (t' := s.toks) (o := .frz { cls := .type "tuple", data := .seq (List.replicate k.toNat its).flatten.toArray } (.tup (List.replicate k.toNat xs).flatten)) (fun b ob q => Heap.get?_push_of_some _ q) (Nat.le_refl _) ?_, rfl, q2 (by omega) _ _ (I.hok.fresh (Nat.le_refl _)) rfl⟩
    exact ⟨Heap.get?_push_size _ rfl, by rw [PyProof.Rows.lm_len_rep_flat, sizeLine_eq]; have a1 : k.toNat * xs.length ≤ 1000 * 1000 := Nat.mul_le_mul (by omega) hz; omega, _, r.rep k.toNat, IsTup.new _ _⟩
/-- t.index(x) -/
def tTIdx (K : PySem.W.Frag) (to te : TE) : TE := fun σ H Q => to σ H fun x H1 => (∃ p ys, x = .ref p ∧ TF H1 p ys) ∧ te σ H1 fun y H2 => ∃ (p : Addr) (ys : List V) (j : Nat) (z : V), x = .ref p ∧ SqT K H2 p ys ∧ flatV y = true ∧ ys.all flatV = true ∧ ys[j]? = some z ∧ eqV z y = true ∧
    (∀ (m : Nat) (z' : V), m < j → ys[m]? = some z' → eqV z' y = false) ∧ Q (.int (j : Nat)) H2
theorem pe_tindex {o e : Expr} {to te : TE} {apos cpos : Pos} (ho : PE X o to) (he : PE X e te)
    (hbase : attributeBase o "index" X.env (eval o X.env) = eval o X.env := by rfl)
    (hfew : ((backTo cpos (starEach [e] X.env)).all (fun x => !x.1) && (backToKw cpos (keywordEach [] X.env)).all (fun x => x.1.isSome)
      && decide ([e].length + ([] : List Keyword).length + (if ([] : List Keyword).isEmpty then 0 else 1) < 30)) = true := by rfl)
    (hline : (apos.endLine == cpos.line) = true := by rfl) (hs : starEach [e] X.env = (false, eval e X.env) :: starEach [] X.env := by rfl) (hplain : (backTo cpos (starEach [] X.env)).any (·.1) = false := by rfl) :
    PE X (.Call (.Attribute o "index" apos) [e] [] cpos) (tTIdx X.K to te) := by
  refine ⟨fun pins s σ H Q I h => ?_⟩
  refine wpAny_Call_method_late hbase hfew hline rfl (thn (ho.run pins s σ H _ I h) fun v s1 ⟨x, H1, I1, r1, ⟨p, ys, ex, ⟨ob, hob, hdd⟩⟩, q1⟩ => ?_)
  subst ex
  cases r1
  have e1 := (I1.hok p _ hob).1
  obtain ⟨its, rv, pl, hz⟩ := I1.tuple (.inl (.inr ⟨ob, hob⟩))
  refine ⟨"tuple", "tuple.index", PySem.F.plainAttrs_tuple, PySem.F.slot_tuple_index, PySem.F.type_tuple_index, pl.typeIs, fun a ea => by cases ea; exact ⟨ob, e1, hdd⟩, ?_⟩
  have hA := (pa_cons he pa_nil hs).run cpos pins s1 σ H1 (fun vs H2 => match vs with
    | [y] => ∃ (p' : Addr) (ys : List V) (j : Nat) (z : V), V.ref p = .ref p' ∧ SqT X.K H2 p' ys ∧ flatV y = true ∧ ys.all flatV = true ∧ ys[j]? = some z ∧ eqV z y = true ∧
      (∀ (m : Nat) (z' : V), m < j → ys[m]? = some z' → eqV z' y = false) ∧ Q (.int (j : Nat)) H2
    | _ => False) I1 q1
  rw [hs] at hA ⊢
  refine Calls.callWith_builtin (by show (false || (backTo cpos (starEach [] X.env)).any (·.1)) = false; rw [hplain] <;> rfl) (Calls.evalArgs_plain ?_)
  refine thn hA fun us s2 ⟨vs, H2, I2, r2, hh⟩ => ?_
  match vs, r2, hh with
  | [y], r2, ⟨p', ys', j, z, ep, a1, a2, a3, a4, a5, a6, q⟩ =>
    cases ep
    exact mt_tindex pins s2 σ H2 (.ref p) [y] (.ref p) us Q I2 rfl r2 ⟨p, ys', y, j, z, rfl, rfl, a1, a2, a3, a4, a5, a6, q⟩
end
end L2
/-! Small data: what can be shown and compared; values that are brought -/
namespace Fp
open PySem PySem.Spec PyProof.Rows L2
theorem ite_no {c : Bool} {A B : Prop} (hc : c = false) (h : B) : if c = true then A else B := by
  rw [hc]; exact iteF h
theorem ite_yes {c : Bool} {A B : Prop} (hc : c = true) (h : A) : if c = true then A else B := by
  rw [hc]; exact iteT h
theorem get_lt {α : Type} {l : List α} {i : Nat} {x : α} (h : l[i]? = some x) : i < l.length := (List.getElem?_eq_some_iff.mp h).1
theorem u66 {k : Nat} {A : Around} (r : Room k A) : A.units + 66 < cLine := by have := r.un; omega
theorem szl {n : Nat} (h : n ≤ 10000000) : n ≤ sizeLine := by rw [sizeLine_eq]; omega
theorem szt {n : Nat} (h : n < 10000000) : n < sizeLine := by rw [sizeLine_eq]; omega
/-- data that can be shown and compared: at most so deep, at most so much -/
structure Sm (k n : Nat) (d : PyData) : Prop where
  sh : d.showable = true
  lay : d.canLay0 = true
  lv : d.leavesShort 13 = true
  blk : d.bulk ≤ n
  dep : d.depth ≤ k
theorem Sm.mono {k n k' n' : Nat} {d : PyData} (h : Sm k n d) (hk : k ≤ k') (hn : n ≤ n') : Sm k' n' d := ⟨h.sh, h.lay, h.lv, Nat.le_trans h.blk hn, Nat.le_trans h.dep hk⟩
structure Sms (k n : Nat) (ds : List PyData) : Prop where
  sh : PyData.showableAll ds = true
  lay : PyData.canLayAll0 ds = true
  lv : PyData.leavesShortAll 13 ds = true
  blk : PyData.bulkAll ds ≤ n
  dep : PyData.depthAll ds ≤ k
theorem Sms.nil {k n : Nat} : Sms k n [] := ⟨by simp [PyData.showableAll], by simp [PyData.canLayAll0], by simp [PyData.leavesShortAll], by simp [PyData.bulkAll], by simp [PyData.depthAll]⟩
theorem Sms.cons {k a b : Nat} {d : PyData} {ds : List PyData} (h : Sm k a d) (t : Sms k b ds) : Sms k (a + 1 + b) (d :: ds) :=
  ⟨by simp [PyData.showableAll, h.sh, t.sh], by simp [PyData.canLayAll0, h.lay, t.lay], by simp [PyData.leavesShortAll, h.lv, t.lv], by have := h.blk; have := t.blk; simp only [PyData.bulkAll]; omega, by have := h.dep; have := t.dep; simp only [PyData.depthAll]; omega⟩
theorem Sms.mono {k n k' n' : Nat} {d : List PyData} (h : Sms k n d) (hk : k ≤ k') (hn : n ≤ n') : Sms k' n' d := ⟨h.sh, h.lay, h.lv, Nat.le_trans h.blk hn, Nat.le_trans h.dep hk⟩
theorem Sms.all {k n : Nat} : ∀ {ds : List PyData}, (∀ d ∈ ds, Sm k n d) → Sms k ((n + 1) * ds.length) ds
  | [], _ => Sms.nil
  | d :: ds, h => (Sms.cons (h d (by simp)) (Sms.all fun e he => h e (List.mem_cons_of_mem _ he))).mono (Nat.le_refl _) (by
    rw [List.length_cons, Nat.mul_succ]; omega)
theorem Sms.tup {k n : Nat} {ds : List PyData} (h : Sms k n ds) : Sm (k + 1) n (.tuple ds) :=
  ⟨by simpa [PyData.showable] using h.sh, by simpa [PyData.canLay0] using h.lay, by simpa [PyData.leavesShort] using h.lv, by have := h.blk; simpa only [PyData.bulk] using this, by have := h.dep; simp only [PyData.depth]; omega⟩
theorem Sms.lst {k n : Nat} {ds : List PyData} (h : Sms k n ds) : Sm (k + 1) n (.list ds) :=
  ⟨by simpa [PyData.showable] using h.sh, by simpa [PyData.canLay0] using h.lay, by simpa [PyData.leavesShort] using h.lv, by have := h.blk; simpa only [PyData.bulk] using this, by have := h.dep; simp only [PyData.depth]; omega⟩
theorem Sm.non : Sm 1 0 .none := ⟨by simp [PyData.showable], by simp [PyData.canLay0], by simp [PyData.leavesShort], by simp [PyData.bulk], by simp [PyData.depth]⟩
theorem Sm.str {z : Str} {n : Nat} (hz : z.cps.size ≤ n) (hc : (z.cps.toList.all fun c => decide (c < 16 ^ 8)) = true) (ho : PyData.strOk z = true) : Sm 1 n (.str z) :=
  ⟨by simp [PyData.showable], by simp [PyData.canLay0, ho], by simpa only [PyData.leavesShort] using hc, by simpa only [PyData.bulk] using hz, by simp [PyData.depth]⟩
theorem log2_lt {i : Int} (h0 : -99999 ≤ i) (h1 : i ≤ 99999) : i.natAbs.log2 < 1920 := by
  by_cases h : i.natAbs = 0
  · rw [h]; decide
  · have : i.natAbs.log2 < 17 := (Nat.log2_lt h).mpr (show i.natAbs < 2 ^ 17 by omega)
    omega
theorem Sm.int {i : Int} (h0 : -9999 ≤ i) (h1 : i ≤ 9999) : Sm 1 0 (.int i) := by
  refine ⟨?_, by simp [PyData.canLay0], ?_, by simp [PyData.bulk], by simp [PyData.depth]⟩
  · simp only [PyData.showable, decide_eq_true_eq]
    exact log2_lt (by omega) (by omega)
  · simp only [PyData.leavesShort, decide_eq_true_eq]
    exact PyData.shown_int_le (by omega)
theorem Sm.fits {k n : Nat} {d : PyData} (h : Sm k n d) (hn : n ≤ 1000000) : d.shown.length ≤ sizeLine := PyData.shown_fits_bulk (B := 13) (by decide) (by decide) h.lv (Nat.le_trans h.blk (Nat.le_trans hn (by decide)))
theorem Sm.shaped {k n : Nat} {d : PyData} (h : Sm k n d) (hk : k ≤ 64) : SeqAt.shaped d = true := by
  unfold SeqAt.shaped
  rw [h.lay, Bool.true_and]
  exact decide_eq_true (Nat.le_trans h.dep hk)
/-! ### repr of any data -/
section
variable {X : Cx}
theorem wpAny_repr {prog : Program} {w : World} {A : Around} {E : Value → Shared → Prop} {s : Shared} {Q : Value → Shared → Prop} {v : Value} {d : PyData} {as : List Addr} (r : Reads s.heap v d as) (hs : d.showable = true) (hd : d.hasDict = false) (hz : d.shown.length ≤ sizeLine)
    (hg : A.guards = some []) (hu : A.units + (d.depth + 1) < cLine) (hQ : ∀ h' u tk, (∀ b o, s.heap.get? b = some o → h'.get? b = some o) → Q (.str d.shown u) { s with heap := h', toks := tk }) : wpAny (model prog w) A (call (.builtin "repr") [v]) Q E s := by
  cases r with
  | none => exact PySem.P.repr_of_none (hQ _ _ _ fun _ _ e => e)
  | bool b => exact PySem.P.repr_of_bool (hQ _ _ _ fun _ _ e => e)
  | int i t => exact PySem.P.repr_of_int (by simpa only [PyData.showable, decide_eq_true_eq] using hs) (by simpa only [PyData.shown] using hQ _ _ _ fun _ _ e => e)
  | str x t => exact PySem.P.repr_of_str (by simpa only [PyData.shown] using hQ _ _ _ fun _ _ e => e) (by simpa only [PyData.shown] using hz)
  | list a b c e => exact repr_of_reads' (.list a b c e) hs (fun z => by rw [hd] at z; cases z) hg hu (fun _ _ z => z) hQ hz
  | tuple a b c e => exact repr_of_reads' (.tuple a b c e) hs (fun z => by rw [hd] at z; cases z) hg hu (fun _ _ z => z) hQ hz
  | dict a b c e f => simp [PyData.hasDict] at hd
/-- repr(x), x any data -/
theorem call_reprA (hgu : X.A.guards = some []) (hu : X.A.units + 66 < cLine) : CallR X (.builtin "repr") (fun xs H Q => ∃ (x : V) (d : PyData) (k n : Nat), xs = [x] ∧ Dp X.K H x d ∧ Sm k n d ∧ k ≤ 64 ∧ n ≤ 1000000 ∧ Q (.str d.shown) H) := by
  intro pins s σ H xs us Q I r h
  obtain ⟨x, d, k, n, rfl, hd, sm, hk, hn, q⟩ := h
  obtain ⟨u, rfl, rx⟩ := vals1 r
  obtain ⟨as, rd⟩ := Dp.reads I d _ u hd rx
  have hdp := sm.dep
  exact wpAny_repr rd sm.sh (PyData.hasDict_of_canLay _ sm.lay) (sm.fits hn) hgu (by omega) (fun h' u tk k => ⟨.str d.shown, H, I.kept (t' := tk) k, ⟨_, rfl⟩, q⟩)
end
/-! ### values that are brought: None, integers, tuples of at most three such, at most so deep -/
inductive VOk : Nat → PyData → Prop where
  | non {n} : VOk n .none
  | int {n i} : -9999 ≤ i → i ≤ 9999 → VOk n (.int i)
  | tup {n ds} : (∀ d ∈ ds, VOk n d) → ds.length ≤ 3 → VOk (n + 1) (.tuple ds)
mutual
inductive VAt (H : Hp) : V → PyData → Prop where
  | non : VAt H .non .none
  | int (i : Int) : VAt H (.int i) (.int i)
  | tup {a : Addr} {xs : List V} {ds : List PyData} : H a = some (.tup xs) → VsAt H xs ds → VAt H (.ref a) (.tuple ds)
inductive VsAt (H : Hp) : List V → List PyData → Prop where
  | nil : VsAt H [] []
  | cons {v vs d ds} : VAt H v d → VsAt H vs ds → VsAt H (v :: vs) (d :: ds)
end
/-- tuples stay -/
def IsT : Option HO → Prop
  | some (.tup _) => True
  | some (.frz _ (.tup _)) => True
  | _ => False
def TK (H H' : Hp) : Prop := ∀ a, IsT (H a) → H' a = H a
theorem TK.refl (H : Hp) : TK H H := fun _ _ => rfl
theorem TK.trans {H H1 H2 : Hp} (a : TK H H1) (b : TK H1 H2) : TK H H2 := fun x h => (b x (by rw [a x h]; exact h)).trans (a x h)
theorem TK.of {H H' : Hp} (g : Same H H') : TK H H' := fun a h => by
  cases e : H a with
  | none => rw [e] at h; exact h.elim
  | some o => exact g a _ e
theorem TK.but {S : List Addr} {H H' : Hp} (g : But S H H') (h : ∀ a ∈ S, ¬ IsT (H a)) : TK H H' := fun a n => by
  cases e : H a with
  | none => rw [e] at n; exact n.elim
  | some o => exact g a _ (fun m => h a m n) e
theorem TK.put {H : Hp} {p : Addr} {o u : HO} (h : H p = some o) (n : ¬ IsT (some o)) : TK H (upd H p u) := fun a e => by
  rw [upd_ne (fun z => n (by rw [← h, ← z]; exact e))]
theorem TK.t {H H' : Hp} (g : TK H H') {a : Addr} {xs : List V} (h : H a = some (.tup xs)) : H' a = some (.tup xs) := by
  rw [g a (by rw [h]; trivial), h]
theorem TK.f {H H' : Hp} (g : TK H H') {a : Addr} {xs : List V} (h : TF H a xs) : TF H' a xs := by
  obtain ⟨o, h, d⟩ := h
  exact ⟨o, by rw [g a (by rw [h]; trivial), h], d⟩
mutual
theorem VAt.mono {H H' : Hp} (g : TK H H') : ∀ {v : V} {d : PyData}, VAt H v d → VAt H' v d
  | _, _, .non => .non
  | _, _, .int i => .int i
  | _, _, .tup a b => .tup (g.t a) (VsAt.mono g b)
theorem VsAt.mono {H H' : Hp} (g : TK H H') : ∀ {v : List V} {d : List PyData}, VsAt H v d → VsAt H' v d
  | _, _, .nil => .nil
  | _, _, .cons a b => .cons (VAt.mono g a) (VsAt.mono g b)
end
mutual
theorem VAt.dp {K : PySem.W.Frag} {H : Hp} : ∀ {v : V} {d : PyData}, VAt H v d → Dp K H v d
  | _, _, .non => .non
  | _, _, .int i => .int i
  | _, _, .tup a b => .tup (.of a) (VsAt.dp b)
theorem VsAt.dp {K : PySem.W.Frag} {H : Hp} : ∀ {v : List V} {d : List PyData}, VsAt H v d → DpAll K H v d
  | _, _, .nil => .nil
  | _, _, .cons a b => .cons (VAt.dp a) (VsAt.dp b)
end
theorem VOk.up {n : Nat} {d : PyData} (h : VOk n d) : VOk (n + 1) d := by
  induction h with
  | non => exact .non
  | int a b => exact .int a b
  | tup a b ih => exact .tup (fun d hd => ih d hd) b
def vb : Nat → Nat
  | 0 => 0
  | n + 1 => (vb n + 1) * 3
theorem VOk.sm : ∀ {n : Nat} {d : PyData}, VOk n d → Sm (n + 1) (vb n) d := by
  intro n d h
  induction h with
  | non => exact Sm.non.mono (by omega) (by omega)
  | int a b => exact (Sm.int a b).mono (by omega) (by omega)
  | tup a b ih => exact (Sms.all ih).tup.mono (Nat.le_refl _) (Nat.mul_le_mul_left _ b)
theorem VsAt.snoc {H : Hp} {v : V} {d : PyData} (h : VAt H v d) : ∀ {vs : List V} {ds : List PyData}, VsAt H vs ds → VsAt H (vs ++ [v]) (ds ++ [d])
  | _, _, .nil => .cons h .nil
  | _, _, .cons a b => .cons a (VsAt.snoc h b)
theorem VsAt.len {H : Hp} : ∀ {vs : List V} {ds : List PyData}, VsAt H vs ds → vs.length = ds.length
  | _, _, .nil => rfl
  | _, _, .cons _ b => congrArg (· + 1) b.len
theorem VsAt.get {H : Hp} : ∀ {xs : List V} {b : List PyData} {i : Nat} {x : V}, VsAt H xs b → xs[i]? = some x → ∃ it, b[i]? = some it ∧ VAt H x it
  | _, _, 0, _, .cons h _, e => by cases e; exact ⟨_, rfl, h⟩
  | _, _, i + 1, x, .cons _ r, e => VsAt.get (i := i) r e
  | _, _, _, _, .nil, e => by cases e
end Fp
/-! A door, as a plain thing -/
namespace Fp
open PySem PySem.Spec PyProof.Rows L2
abbrev Lv := Option Int
def lvV : Lv → V
  | none => .non
  | some i => .int i
structure Deed where
  stp : Bool
  p : Nat
  x : V
structure DS where
  came : List (Option V)
  lev : List Lv
  heard : List (Option V)
  seen : List (Option (List Lv))
  deeds : List Deed
inductive Told where
  | level (i : Int) | look (l : List Lv) | wait | word (v : V)
theorem getD_set {α : Type} (l : List (Option α)) (p q : Nat) (x : Option α) : (l.set p x).getD q none = if p = q ∧ p < l.length then x else l.getD q none := by
  simp only [List.getD_eq_getElem?_getD, List.getElem?_set]
  by_cases h : p = q
  · subst h
    by_cases h2 : p < l.length
    · simp [h2]
    · have e : l[p]? = none := List.getElem?_eq_none (by omega)
      simp [h2, e]
  · simp [h]
theorem getD_none_of {α : Type} {l : List (Option α)} {q : Nat} {x : α} (h : l.getD q none = some x) : q < l.length ∧ l[q]? = some (some x) := by
  rw [List.getD_eq_getElem?_getD] at h
  cases e : l[q]? with
  | none => rw [e] at h; cases h
  | some y =>
    rw [e] at h
    have h' : y = some x := h
    exact ⟨(List.getElem?_eq_some_iff.mp e).1, by rw [h']⟩
theorem getD_of {α : Type} {l : List (Option α)} {q : Nat} {y : Option α} (h : l[q]? = some y) : l.getD q none = y := by
  rw [List.getD_eq_getElem?_getD, h]; rfl
theorem mem_getD {α : Type} {l : List (Option α)} {x : α} : some x ∈ l ↔ ∃ q, l.getD q none = some x := by
  constructor
  · intro h
    obtain ⟨q, hq⟩ := List.getElem?_of_mem h
    exact ⟨q, getD_of hq⟩
  · rintro ⟨q, hq⟩
    exact List.mem_of_getElem? (getD_none_of hq).2
namespace DS
def new (n : Nat) : DS := ⟨List.replicate n none, List.replicate n none, List.replicate n none, List.replicate n none, []⟩
def cm (s : DS) (p : Nat) : Option V := s.came.getD p none
def lv (s : DS) (p : Nat) : Lv := s.lev.getD p none
def sn (s : DS) (p : Nat) : Option (List Lv) := s.seen.getD p none
def stgOf (a : Lv) (b : Option (List Lv)) : Nat := match a with
  | none => 0
  | some i => if i = 1 then (if b.isSome then 2 else 1) else 3
def stg (s : DS) (p : Nat) : Nat := stgOf (s.lv p) (s.sn p)
def kindOf : Nat → Str
  | 1 => "look" | 3 => "ask" | _ => "level"
def next (s : DS) (p : Nat) : Option Str := if (s.cm p).isSome then some (kindOf (s.stg p)) else none
def isTwo (a : Lv) : Bool := decide (a = some 2)
def two (s : DS) : Nat := s.lev.findIdx isTwo
def saw (s : DS) (p : Nat) : Bool := decide (some 2 ∈ (s.sn p).getD [])
def wr (s : DS) (p : Nat) : Int := if s.saw p then 0 else 2
def come (s : DS) (p : Nat) (v : V) : DS := { s with came := s.came.set p (some v), deeds := s.deeds ++ [⟨false, p, v⟩] }
def told (s : DS) (p : Nat) : Told := match s.stg p with
  | 0 => .level 1
  | 1 => .look s.lev
  | 2 => .level (s.wr p)
  | _ => if some 1 ∈ s.lev then .wait else .word ((s.cm s.two).getD .non)
def step (s : DS) (p : Nat) : DS := match s.stg p with
  | 0 => { s with deeds := s.deeds ++ [⟨true, p, .str "level"⟩], lev := s.lev.set p (some 1) }
  | 1 => { s with deeds := s.deeds ++ [⟨true, p, .str "look"⟩], seen := s.seen.set p (some s.lev) }
  | 2 => { s with deeds := s.deeds ++ [⟨true, p, .str "level"⟩], lev := s.lev.set p (some (s.wr p)) }
  | _ => if some 1 ∈ s.lev then { s with deeds := s.deeds ++ [⟨true, p, .str "ask"⟩] } else { s with deeds := s.deeds ++ [⟨true, p, .str "ask"⟩], heard := s.heard.set p (s.cm s.two) }
structure WF (s : DS) : Prop where
  n1 : 1 ≤ s.lev.length
  n5 : s.lev.length ≤ 5
  lc : s.came.length = s.lev.length
  lh : s.heard.length = s.lev.length
  ls : s.seen.length = s.lev.length
  vals : ∀ p x, s.lv p = some x → x = 0 ∨ x = 1 ∨ x = 2
  cmv : ∀ p, s.lv p ≠ none → s.cm p ≠ none
  snv : ∀ p, s.sn p ≠ none → s.lv p ≠ none
  lok : ∀ p x, s.lv p = some x → x ≠ 1 → s.sn p ≠ none
  z2 : ∀ p, s.lv p = some 0 → ∃ q, s.lv q = some 2
  s2 : ∀ p l, s.sn p = some l → some 2 ∈ l → ∃ q, s.lv q = some 2
theorem rep_none {α : Type} (n p : Nat) : (List.replicate n (none : Option α)).getD p none = none := by
  rw [List.getD_eq_getElem?_getD, List.getElem?_replicate]; split <;> rfl
theorem lv_new (n p : Nat) : (new n).lv p = none := rep_none n p
theorem sn_new (n p : Nat) : (new n).sn p = none := rep_none n p
theorem cm_new (n p : Nat) : (new n).cm p = none := rep_none n p
theorem WF.new {n : Nat} (h1 : 1 ≤ n) (h5 : n ≤ 5) : (new n).WF := by
  refine ⟨by simpa [DS.new] using h1, by simpa [DS.new] using h5, by simp [DS.new], by simp [DS.new], by simp [DS.new], ?_, ?_, ?_, ?_, ?_, ?_⟩ <;> intro p <;> simp only [lv_new, sn_new, cm_new] <;> simp
section
variable {s : DS} {p : Nat} {v : V}
theorem lv_come (q : Nat) : (s.come p v).lv q = s.lv q := rfl
theorem sn_come (q : Nat) : (s.come p v).sn q = s.sn q := rfl
theorem cm_come (q : Nat) : (s.come p v).cm q = if p = q ∧ p < s.came.length then some v else s.cm q := getD_set _ _ _ _
theorem WF.come (h : s.WF) : (s.come p v).WF := by
  refine ⟨h.n1, h.n5, by simp [DS.come, h.lc], h.lh, h.ls, h.vals, fun q hq => ?_, h.snv, h.lok, h.z2, h.s2⟩
  rw [cm_come]
  split
  · simp
  · exact h.cmv q hq
theorem stg_lt (s : DS) (p : Nat) : s.stg p ≤ 3 := by
  unfold stg stgOf
  split
  · omega
  · split
    · split <;> omega
    · omega
theorem stg0 : s.stg p = 0 ↔ s.lv p = none := by
  unfold stg stgOf
  cases s.lv p with
  | none => simp
  | some i => simp only; split <;> (try split) <;> simp
theorem stg1 : s.stg p = 1 ↔ s.lv p = some 1 ∧ s.sn p = none := by
  unfold stg stgOf
  cases s.lv p with
  | none => simp
  | some i =>
    simp only
    cases s.sn p <;> by_cases hi : i = 1 <;> simp [hi]
theorem stg2 : s.stg p = 2 ↔ s.lv p = some 1 ∧ s.sn p ≠ none := by
  unfold stg stgOf
  cases s.lv p with
  | none => simp
  | some i =>
    simp only
    cases s.sn p <;> by_cases hi : i = 1 <;> simp [hi]
theorem stg3 : s.stg p = 3 ↔ ∃ x, s.lv p = some x ∧ x ≠ 1 := by
  unfold stg stgOf
  cases s.lv p with
  | none => simp
  | some i =>
    simp only
    cases s.sn p <;> by_cases hi : i = 1 <;> simp [hi]
/-- the step by its stage -/
theorem step0 (h : s.stg p = 0) : s.step p = { s with deeds := s.deeds ++ [⟨true, p, .str "level"⟩], lev := s.lev.set p (some 1) } := by simp only [step, h]
theorem step1 (h : s.stg p = 1) : s.step p = { s with deeds := s.deeds ++ [⟨true, p, .str "look"⟩], seen := s.seen.set p (some s.lev) } := by simp only [step, h]
theorem step2 (h : s.stg p = 2) : s.step p = { s with deeds := s.deeds ++ [⟨true, p, .str "level"⟩], lev := s.lev.set p (some (s.wr p)) } := by simp only [step, h]
theorem step3 (h : s.stg p = 3) : s.step p = if some 1 ∈ s.lev then { s with deeds := s.deeds ++ [⟨true, p, .str "ask"⟩] } else { s with deeds := s.deeds ++ [⟨true, p, .str "ask"⟩], heard := s.heard.set p (s.cm s.two) } := by simp only [step, h]
theorem told0 (h : s.stg p = 0) : s.told p = .level 1 := by simp only [told, h]
theorem told1 (h : s.stg p = 1) : s.told p = .look s.lev := by simp only [told, h]
theorem told2 (h : s.stg p = 2) : s.told p = .level (s.wr p) := by simp only [told, h]
theorem told3 (h : s.stg p = 3) : s.told p = if some 1 ∈ s.lev then .wait else .word ((s.cm s.two).getD .non) := by simp only [told, h]
theorem cm_step (q : Nat) : (s.step p).cm q = s.cm q := by
  unfold step
  split <;> (try split) <;> rfl
theorem came_step : (s.step p).came = s.came := by
  unfold step
  split <;> (try split) <;> rfl
theorem len_step : (s.step p).lev.length = s.lev.length := by
  unfold step
  split <;> (try split) <;> simp
theorem two_lev (h : ∃ q, s.lv q = some 2) : s.two < s.lev.length ∧ s.lv s.two = some 2 ∧ ∀ m, m < s.two → s.lv m ≠ some 2 := by
  obtain ⟨q, hq⟩ := h
  obtain ⟨hl, he⟩ := getD_none_of hq
  have hm : ∃ x ∈ s.lev, isTwo x = true := ⟨some 2, List.mem_of_getElem? he, by simp [isTwo]⟩
  have h1 : s.two < s.lev.length := List.findIdx_lt_length_of_exists hm
  refine ⟨h1, ?_, fun m hlt => ?_⟩
  · have e : isTwo s.lev[s.two] = true := List.findIdx_getElem (p := isTwo) (xs := s.lev) (w := h1)
    have e' : s.lev[s.two] = some 2 := by simpa [isTwo] using e
    exact getD_of (by rw [List.getElem?_eq_getElem h1, e'])
  · intro z
    have hml : m < s.lev.length := by omega
    have e : isTwo s.lev[m] = false := by simpa using List.not_of_lt_findIdx (p := isTwo) (xs := s.lev) hlt
    have z' : s.lev[m] = some 2 := by
      obtain ⟨_, z2⟩ := getD_none_of z
      rw [List.getElem?_eq_getElem hml] at z2
      exact Option.some.inj z2
    rw [z'] at e
    simp [isTwo] at e
theorem findIdx_ext {α : Type} {f g : α → Bool} : ∀ {l m : List α}, l.length = m.length → (∀ (i : Nat) x y, l[i]? = some x → m[i]? = some y → f x = g y) → l.findIdx f = m.findIdx g
  | [], [], _, _ => rfl
  | [], _ :: _, h, _ => by simp at h
  | _ :: _, [], h, _ => by simp at h
  | a :: l, b :: m, h, hp => by
    have e := hp 0 a b rfl rfl
    rw [List.findIdx_cons, List.findIdx_cons, e, findIdx_ext (l := l) (m := m) (by simpa using h) fun i x y hx hy => hp (i + 1) x y (by simpa using hx) (by simpa using hy)]
theorem two_same {s t : DS} (hl : t.lev.length = s.lev.length) (h : ∀ q, t.lv q = some 2 ↔ s.lv q = some 2) : t.two = s.two := by
  refine findIdx_ext hl fun i x y hx hy => ?_
  have h1 := h i
  rw [show t.lv i = x from getD_of hx, show s.lv i = y from getD_of hy] at h1
  unfold isTwo
  exact decide_eq_decide.mpr h1
theorem lv_step0 (h : s.stg p = 0) (hp : p < s.lev.length) (q : Nat) : (s.step p).lv q = if p = q then some 1 else s.lv q := by
  rw [step0 h]
  show (s.lev.set p (some 1)).getD q none = _
  rw [getD_set]
  by_cases e : p = q <;> simp [e, hp, lv] <;> omega
theorem lv_step1 (h : s.stg p = 1) (q : Nat) : (s.step p).lv q = s.lv q := by rw [step1 h]; rfl
theorem lv_step2 (h : s.stg p = 2) (hp : p < s.lev.length) (q : Nat) : (s.step p).lv q = if p = q then some (s.wr p) else s.lv q := by
  rw [step2 h]
  show (s.lev.set p (some (s.wr p))).getD q none = _
  rw [getD_set]
  by_cases e : p = q
  · subst e; simp [hp]
  · simp [e, lv]
theorem lv_step3 (h : s.stg p = 3) (q : Nat) : (s.step p).lv q = s.lv q := by rw [step3 h]; split <;> rfl
theorem sn_step1 (h : s.stg p = 1) (hp : p < s.seen.length) (q : Nat) : (s.step p).sn q = if p = q then some s.lev else s.sn q := by
  rw [step1 h]
  show (s.seen.set p (some s.lev)).getD q none = _
  rw [getD_set]
  by_cases e : p = q
  · subst e; simp [hp]
  · simp [e, sn]
theorem sn_stepN (h : s.stg p ≠ 1) (q : Nat) : (s.step p).sn q = s.sn q := by
  unfold step
  split <;> (try split) <;> first | rfl | (rename_i e; exact absurd e h)
theorem wr02 (s : DS) (p : Nat) : s.wr p = 0 ∧ s.saw p = true ∨ s.wr p = 2 ∧ s.saw p = false := by
  unfold wr
  cases s.saw p <;> simp
theorem saw_iff : s.saw p = true ↔ ∃ l, s.sn p = some l ∧ some 2 ∈ l := by
  unfold saw
  rw [decide_eq_true_iff]
  cases s.sn p with
  | none => simp
  | some l => simp
theorem lt_of_cm (h : s.WF) (hc : s.cm p ≠ none) : p < s.lev.length := by
  cases e : s.cm p with
  | none => exact absurd e hc
  | some v => rw [← h.lc]; exact (getD_none_of e).1
theorem has2_step (h : s.WF) (hc : s.cm p ≠ none) (h2 : ∃ q, s.lv q = some 2) : ∃ q, (s.step p).lv q = some 2 := by
  obtain ⟨q, hq⟩ := h2
  refine ⟨q, ?_⟩
  have hp := lt_of_cm h hc
  have := stg_lt s p
  rcases (show s.stg p = 0 ∨ s.stg p = 1 ∨ s.stg p = 2 ∨ s.stg p = 3 by omega) with e | e | e | e
  · rw [lv_step0 e hp, if_neg]; exact hq
    intro z; subst z; rw [stg0.mp e] at hq; cases hq
  · rw [lv_step1 e]; exact hq
  · rw [lv_step2 e hp, if_neg]; exact hq
    intro z; subst z; rw [(stg2.mp e).1] at hq; cases hq
  · rw [lv_step3 e]; exact hq
theorem WF.step (h : s.WF) (hc : s.cm p ≠ none) : (s.step p).WF := by
  have hp := lt_of_cm h hc
  have hps : p < s.seen.length := by rw [h.ls]; exact hp
  have h4 := stg_lt s p
  have hlen := len_step (s := s) (p := p)
  have k2 := has2_step h hc
  have lens : (s.step p).came.length = (s.step p).lev.length ∧ (s.step p).heard.length = (s.step p).lev.length ∧ (s.step p).seen.length = (s.step p).lev.length := by
    rw [hlen, came_step]
    refine ⟨h.lc, ?_, ?_⟩
    · unfold DS.step; split <;> (try split) <;> simp [h.lh]
    · unfold DS.step; split <;> (try split) <;> simp [h.ls]
  rcases (show s.stg p = 0 ∨ s.stg p = 1 ∨ s.stg p = 2 ∨ s.stg p = 3 by omega) with e | e | e | e
  · have L := lv_step0 e hp
    have S : ∀ q, (s.step p).sn q = s.sn q := sn_stepN (by omega)
    refine ⟨by rw [hlen]; exact h.n1, by rw [hlen]; exact h.n5, lens.1, lens.2.1, lens.2.2, fun q x hq => ?_, fun q hq => ?_, fun q hq => ?_, fun q x hq hx => ?_, fun q hq => ?_, fun q l hq hl => ?_⟩
    · rw [L] at hq; split at hq
      · cases hq; omega
      · exact h.vals q x hq
    · rw [cm_step]; rw [L] at hq; split at hq
      · rename_i z; subst z; exact hc
      · exact h.cmv q hq
    · rw [S] at hq; rw [L]; split
      · simp
      · exact h.snv q hq
    · rw [S]; rw [L] at hq; split at hq
      · cases hq; exact absurd rfl hx
      · exact h.lok q x hq hx
    · rw [L] at hq; split at hq
      · cases hq
      · exact k2 (h.z2 q hq)
    · rw [S] at hq; exact k2 (h.s2 q l hq hl)
  · have L := lv_step1 e
    have S := sn_step1 e hps
    obtain ⟨e1, e2⟩ := stg1.mp e
    refine ⟨by rw [hlen]; exact h.n1, by rw [hlen]; exact h.n5, lens.1, lens.2.1, lens.2.2, fun q x hq => h.vals q x (by rw [← L]; exact hq), fun q hq => ?_, fun q hq => ?_, fun q x hq hx => ?_, fun q hq => ?_, fun q l hq hl => ?_⟩
    · rw [cm_step]; exact h.cmv q (by rw [← L]; exact hq)
    · rw [L]; rw [S] at hq; split at hq
      · rename_i z; subst z; rw [e1]; simp
      · exact h.snv q hq
    · rw [S]; split
      · simp
      · exact h.lok q x (by rw [← L]; exact hq) hx
    · exact k2 (h.z2 q (by rw [← L]; exact hq))
    · rw [S] at hq; split at hq
      · cases hq; exact k2 (mem_getD.mp hl)
      · exact k2 (h.s2 q l hq hl)
  · have L := lv_step2 e hp
    have S : ∀ q, (s.step p).sn q = s.sn q := sn_stepN (by omega)
    obtain ⟨e1, e2⟩ := stg2.mp e
    have w2 := wr02 s p
    refine ⟨by rw [hlen]; exact h.n1, by rw [hlen]; exact h.n5, lens.1, lens.2.1, lens.2.2, fun q x hq => ?_, fun q hq => ?_, fun q hq => ?_, fun q x hq hx => ?_, fun q hq => ?_, fun q l hq hl => ?_⟩
    · rw [L] at hq; split at hq
      · cases hq; omega
      · exact h.vals q x hq
    · rw [cm_step]; rw [L] at hq; split at hq
      · rename_i z; subst z; exact hc
      · exact h.cmv q hq
    · rw [S] at hq; rw [L]; split
      · simp
      · exact h.snv q hq
    · rw [S]; rw [L] at hq; split at hq
      · rename_i z; subst z; exact e2
      · exact h.lok q x hq hx
    · rw [L] at hq; split at hq
      · rename_i z; subst z
        rcases w2 with ⟨_, w⟩ | ⟨w, _⟩
        · obtain ⟨l, hl, hl2⟩ := saw_iff.mp w
          exact k2 (h.s2 _ l hl hl2)
        · rw [w] at hq; cases hq
      · exact k2 (h.z2 q hq)
    · rw [S] at hq; exact k2 (h.s2 q l hq hl)
  · have L := lv_step3 e
    have S : ∀ q, (s.step p).sn q = s.sn q := sn_stepN (by omega)
    exact ⟨by rw [hlen]; exact h.n1, by rw [hlen]; exact h.n5, lens.1, lens.2.1, lens.2.2, fun q x hq => h.vals q x (by rw [← L]; exact hq), fun q hq => by rw [cm_step]; exact h.cmv q (by rw [← L]; exact hq), fun q hq => by rw [L]; exact h.snv q (by rw [← S]; exact hq),
      fun q x hq hx => by rw [S]; exact h.lok q x (by rw [← L]; exact hq) hx, fun q hq => k2 (h.z2 q (by rw [← L]; exact hq)), fun q l hq hl => k2 (h.s2 q l (by rw [← S]; exact hq) hl)⟩
/-- who asks while nobody stands at 1 finds somebody at 2, who came -/
theorem ask_two (h : s.WF) (e : s.stg p = 3) : ∃ q, s.lv q = some 2 := by
  obtain ⟨x, hx, h1⟩ := stg3.mp e
  rcases h.vals p x hx with rfl | rfl | rfl
  · exact h.z2 p hx
  · exact absurd rfl h1
  · exact ⟨p, hx⟩
theorem two_came (h : s.WF) (e : ∃ q, s.lv q = some 2) : ∃ v, s.cm s.two = some v := by
  obtain ⟨_, h2, _⟩ := two_lev e
  cases c : s.cm s.two with
  | none => exact absurd c (h.cmv _ (by rw [h2]; simp))
  | some v => exact ⟨v, rfl⟩
/-! ### going on -/
theorem stg_step (h : s.WF) (hc : s.cm p ≠ none) (q : Nat) : (s.step p).stg q = if p = q then min 3 (s.stg p + 1) else s.stg q := by
  have hp := lt_of_cm h hc
  have hps : p < s.seen.length := by rw [h.ls]; exact hp
  have h4 := stg_lt s p
  rcases (show s.stg p = 0 ∨ s.stg p = 1 ∨ s.stg p = 2 ∨ s.stg p = 3 by omega) with e | e | e | e
  · by_cases z : p = q
    · subst z
      have hsn : s.sn p = none := by
        cases c : s.sn p with
        | none => rfl
        | some l => exact absurd (stg0.mp e) (h.snv p (by rw [c]; simp))
      rw [if_pos rfl, e]
      exact stg1.mpr ⟨by rw [lv_step0 e hp, if_pos rfl], by rw [sn_stepN (by omega)]; exact hsn⟩
    · rw [if_neg z]; unfold stg; rw [lv_step0 e hp, if_neg z, sn_stepN (by omega)]
  · by_cases z : p = q
    · subst z
      rw [if_pos rfl, e]
      exact stg2.mpr ⟨by rw [lv_step1 e]; exact (stg1.mp e).1, by rw [sn_step1 e hps, if_pos rfl]; simp⟩
    · rw [if_neg z]; unfold stg; rw [lv_step1 e, sn_step1 e hps, if_neg z]
  · by_cases z : p = q
    · subst z
      rw [if_pos rfl, e]
      refine stg3.mpr ⟨s.wr p, by rw [lv_step2 e hp, if_pos rfl], ?_⟩
      rcases wr02 s p with ⟨w, _⟩ | ⟨w, _⟩ <;> rw [w] <;> decide
    · rw [if_neg z]; unfold stg; rw [lv_step2 e hp, if_neg z, sn_stepN (by omega)]
  · have : (s.step p).stg q = s.stg q := by unfold stg; rw [lv_step3 e, sn_stepN (by omega)]
    rw [this]
    by_cases z : p = q
    · subst z; rw [if_pos rfl, e]; rfl
    · rw [if_neg z]
theorem stg_come (q : Nat) : (s.come p v).stg q = s.stg q := rfl
theorem no_one (h : ∀ q, s.stg q = 0 ∨ s.stg q = 3) : some 1 ∉ s.lev := fun m => by
  obtain ⟨q, hq⟩ := mem_getD.mp m
  have hq : s.lv q = some 1 := hq
  rcases h q with e | e
  · rw [stg0.mp e] at hq; cases hq
  · obtain ⟨x, hx, hx1⟩ := stg3.mp e
    rw [hq] at hx
    cases hx
    exact hx1 rfl
end
end DS
end Fp
/-! A door in the heap; promises of the program's defs -/
namespace Fp
open PySem PySem.Spec PyProof.Rows L2
def dfl (n : Int) (a b c e f : Addr) : List (Str × V) := [("many", .int n), ("came", .ref a), ("levels", .ref b), ("heard", .ref c), ("seen", .ref e), ("deeds", .ref f)]
structure DC (K : PySem.W.Frag) (C : Addr) : Prop where
  cl : Cls K C
  nM : NoAttr K C "many"
  nC : NoAttr K C "came"
  nL : NoAttr K C "levels"
  nH : NoAttr K C "heard"
  nS : NoAttr K C "seen"
  nD : NoAttr K C "deeds"
section
variable {n n' : Int} {a b c e f a' b' c' e' f' : Addr}
theorem d_many : (dfl n a b c e f).lookup ("many" : Str) = some (.int n) := by kernel_rfl
theorem d_came : (dfl n a b c e f).lookup ("came" : Str) = some (.ref a) := by kernel_rfl
theorem d_lev : (dfl n a b c e f).lookup ("levels" : Str) = some (.ref b) := by kernel_rfl
theorem d_heard : (dfl n a b c e f).lookup ("heard" : Str) = some (.ref c) := by kernel_rfl
theorem d_seen : (dfl n a b c e f).lookup ("seen" : Str) = some (.ref e) := by kernel_rfl
theorem d_deeds : (dfl n a b c e f).lookup ("deeds" : Str) = some (.ref f) := by kernel_rfl
theorem dp_came : putF "came" (.ref a') (dfl n a b c e f) = dfl n a' b c e f := by kernel_rfl
theorem dp_lev : putF "levels" (.ref b') (dfl n a b c e f) = dfl n a b' c e f := by kernel_rfl
theorem dp_heard : putF "heard" (.ref c') (dfl n a b c e f) = dfl n a b c' e f := by kernel_rfl
theorem dp_seen : putF "seen" (.ref e') (dfl n a b c e f) = dfl n a b c e' f := by kernel_rfl
theorem dp_deeds : putF "deeds" (.ref f') (dfl n a b c e f) = dfl n a b c e f' := by kernel_rfl
theorem d_all : putF "deeds" (.ref f) (putF "seen" (.ref e) (putF "heard" (.ref c) (putF "levels" (.ref b) (putF "came" (.ref a) (putF "many" (.int n) []))))) = dfl n a b c e f := by kernel_rfl
theorem no_check : (dfl n a b c e f).lookup ("check_player" : Str) = none := by kernel_rfl
theorem no_next : (dfl n a b c e f).lookup ("next" : Str) = none := by kernel_rfl
theorem no_shows : (dfl n a b c e f).lookup ("shows_level" : Str) = none := by kernel_rfl
theorem no_asks : (dfl n a b c e f).lookup ("asks" : Str) = none := by kernel_rfl
theorem no_step : (dfl n a b c e f).lookup ("step" : Str) = none := by kernel_rfl
theorem no_come : (dfl n a b c e f).lookup ("come" : Str) = none := by kernel_rfl
theorem no_copy : (dfl n a b c e f).lookup ("copy" : Str) = none := by kernel_rfl
end
/-- (VALUE,), or None -/
def One (H : Hp) (x : V) : Option V → Prop
  | none => x = .non
  | some v => ∃ p, x = .ref p ∧ H p = some (.tup [v])
def SeenAt (H : Hp) (x : V) : Option (List Lv) → Prop
  | none => x = .non
  | some l => ∃ p, x = .ref p ∧ TF H p (l.map lvV)
def DeedAt (H : Hp) (x : V) (d : Deed) : Prop := ∃ p, x = .ref p ∧ H p = some (.tup [.str (if d.stp then "step" else "come"), .int (d.p : Nat), d.x])
theorem One.mono {H H' : Hp} (g : TK H H') {x : V} {o : Option V} (h : One H x o) : One H' x o := by
  cases o with
  | none => exact h
  | some v => obtain ⟨p, e, q⟩ := h; exact ⟨p, e, g.t q⟩
theorem SeenAt.mono {H H' : Hp} (g : TK H H') {x : V} {o : Option (List Lv)} (h : SeenAt H x o) : SeenAt H' x o := by
  cases o with
  | none => exact h
  | some v => obtain ⟨p, e, q⟩ := h; exact ⟨p, e, g.f q⟩
theorem DeedAt.mono {H H' : Hp} (g : TK H H') {x : V} {o : Deed} (h : DeedAt H x o) : DeedAt H' x o := by
  obtain ⟨p, e, q⟩ := h; exact ⟨p, e, g.t q⟩
theorem pr_imp {α β : Type} {F G : α → β → Prop} (f : ∀ a b, F a b → G a b) : ∀ {l : List α} {m : List β}, Paired F l m → Paired G l m
  | _, _, .nil => .nil
  | _, _, .cons a b => .cons (f _ _ a) (pr_imp f b)
theorem pr_len {α β : Type} {F : α → β → Prop} : ∀ {l : List α} {m : List β}, Paired F l m → l.length = m.length
  | _, _, .nil => rfl
  | _, _, .cons _ b => congrArg (· + 1) (pr_len b)
theorem pr_at {α β : Type} {F : α → β → Prop} : ∀ {l : List α} {m : List β} {i : Nat} {y : β}, Paired F l m → m[i]? = some y → ∃ x, l[i]? = some x ∧ F x y
  | _, _, 0, _, .cons h _, e => by cases e; exact ⟨_, rfl, h⟩
  | _, _, i + 1, x, .cons _ r, e => pr_at (i := i) r e
  | _, _, _, _, .nil, e => by cases e
theorem pr_set {α β : Type} {F : α → β → Prop} {x : α} {y : β} (h : F x y) : ∀ {l : List α} {m : List β} (i : Nat), Paired F l m → Paired F (l.set i x) (m.set i y)
  | _, _, _, .nil => .nil
  | _, _, 0, .cons _ r => .cons h r
  | _, _, i + 1, .cons a r => .cons a (pr_set h i r)
theorem pr_snoc {α β : Type} {F : α → β → Prop} {a : α} {b : β} (h : F a b) : ∀ {l : List α} {m : List β}, Paired F l m → Paired F (l ++ [a]) (m ++ [b])
  | _, _, .nil => .cons h .nil
  | _, _, .cons k r => .cons k (pr_snoc h r)
theorem pr_rep {α β : Type} {F : α → β → Prop} {x : α} {y : β} (h : F x y) : ∀ n : Nat, Paired F (List.replicate n x) (List.replicate n y)
  | 0 => .nil
  | n + 1 => .cons h (pr_rep h n)
/-- values that may be brought -/
def Good (H : Hp) (v : V) : Prop := ∃ d, VAt H v d ∧ VOk 3 d
theorem Good.mono {H H' : Hp} (g : TK H H') {v : V} (h : Good H v) : Good H' v := by obtain ⟨d, a, b⟩ := h; exact ⟨d, a.mono g, b⟩
structure DoorIn (C : Addr) (H : Hp) (d : Addr) (s : DS) (dx a b c e f : Addr) (cv hv sv dv : List V) : Prop where
  obj : H d = some (.ins C dx (dfl (s.lev.length : Nat) a b c e f))
  own : H dx = some (.own d)
  came : TF H a cv
  cameP : Paired (One H) cv s.came
  lev : TF H b (s.lev.map lvV)
  heard : TF H c hv
  heardP : Paired (One H) hv s.heard
  seen : TF H e sv
  seenP : Paired (SeenAt H) sv s.seen
  deeds : H f = some (.tup dv)
  deedsP : Paired (DeedAt H) dv s.deeds
  good : ∀ p v, s.cm p = some v → Good H v
  wf : s.WF
def DoorAt (C : Addr) (H : Hp) (d : Addr) (s : DS) : Prop := ∃ dx a b c e f cv hv sv dv, DoorIn C H d s dx a b c e f cv hv sv dv
theorem DoorIn.mono {C : Addr} {H H' : Hp} {d : Addr} {s : DS} {dx a b c e f : Addr} {cv hv sv dv : List V} (h : DoorIn C H d s dx a b c e f cv hv sv dv) (g : TK H H') (g1 : ∀ o, H d = some o → H' d = some o) (g2 : H' dx = H dx) : DoorIn C H' d s dx a b c e f cv hv sv dv :=
  ⟨g1 _ h.obj, by rw [g2]; exact h.own, g.f h.came, pr_imp (fun _ _ => One.mono g) h.cameP, g.f h.lev, g.f h.heard, pr_imp (fun _ _ => One.mono g) h.heardP, g.f h.seen, pr_imp (fun _ _ => SeenAt.mono g) h.seenP, g.t h.deeds, pr_imp (fun _ _ => DeedAt.mono g) h.deedsP, fun p v hv => (h.good p v hv).mono g, h.wf⟩
theorem DoorAt.same {C : Addr} {H H' : Hp} {d : Addr} {s : DS} (h : DoorAt C H d s) (g : Same H H') : DoorAt C H' d s := by
  obtain ⟨dx, a, b, c, e, f, cv, hv, sv, dv, h⟩ := h
  exact ⟨dx, a, b, c, e, f, cv, hv, sv, dv, h.mono (.of g) (fun o q => g _ _ q) (by rw [g _ _ h.own]; exact h.own.symm)⟩
/-- what is not an instance, an own dict or a tuple may change -/
theorem DoorAt.but {C : Addr} {H H' : Hp} {d : Addr} {s : DS} {S : List Addr} (h : DoorAt C H d s) (g : But S H H') (n : ∀ x ∈ S, (∃ xs, H x = some (.lst xs)) ∨ ∃ kvs, H x = some (.dK kvs)) : DoorAt C H' d s := by
  obtain ⟨dx, a, b, c, e, f, cv, hv, sv, dv, h⟩ := h
  have nd : d ∉ S := fun m => by
    rcases n d m with ⟨xs, z⟩ | ⟨xs, z⟩ <;> rw [h.obj] at z <;> cases z
  have nx : dx ∉ S := fun m => by
    rcases n dx m with ⟨xs, z⟩ | ⟨xs, z⟩ <;> rw [h.own] at z <;> cases z
  refine ⟨dx, a, b, c, e, f, cv, hv, sv, dv, h.mono (TK.but g fun x m z => ?_) (fun o q => g _ _ nd q) (by rw [g _ _ nx h.own]; exact h.own.symm)⟩
  rcases n x m with ⟨ys, z'⟩ | ⟨ys, z'⟩ <;> rw [z'] at z <;> exact z
theorem DoorAt.wf {C : Addr} {H : Hp} {d : Addr} {s : DS} (h : DoorAt C H d s) : s.WF := by
  obtain ⟨dx, a, b, c, e, f, cv, hv, sv, dv, h⟩ := h
  exact h.wf
theorem getD_at {α : Type} {l : List (Option α)} {p : Nat} (h : p < l.length) : l[p]? = some (l.getD p none) := by
  rw [List.getElem?_eq_getElem h]; exact congrArg some (getD_of (List.getElem?_eq_getElem h)).symm
theorem DS.WF.acm {s : DS} (W : s.WF) {p : Nat} (h : p < s.lev.length) : s.came[p]? = some (s.cm p) := getD_at (by rw [W.lc]; exact h)
theorem DS.WF.asn {s : DS} (W : s.WF) {p : Nat} (h : p < s.lev.length) : s.seen[p]? = some (s.sn p) := getD_at (by rw [W.ls]; exact h)
theorem alv {s : DS} {p : Nat} (h : p < s.lev.length) : s.lev[p]? = some (s.lv p) := getD_at h
theorem alvV {s : DS} {p : Nat} (h : p < s.lev.length) : (s.lev.map lvV)[p]? = some (lvV (s.lv p)) := by rw [List.getElem?_map, alv h]; rfl
theorem One.is {H : Hp} {x : V} {o : Option V} (h : One H x o) : decide (x = .non) = o.isNone := by
  cases o with
  | none => rw [show x = .non from h]; rfl
  | some v => obtain ⟨p, e, _⟩ := h; rw [e]; rfl
theorem SeenAt.is {H : Hp} {x : V} {o : Option (List Lv)} (h : SeenAt H x o) : decide (x = .non) = o.isNone := by
  cases o with
  | none => rw [show x = .non from h]; rfl
  | some v => obtain ⟨p, e, _⟩ := h; rw [e]; rfl
theorem lv_flat : ∀ l : List Lv, (l.map lvV).all flatV = true
  | [] => rfl
  | none :: l => by rw [List.map_cons, List.all_cons, lv_flat l]; rfl
  | some i :: l => by rw [List.map_cons, List.all_cons, lv_flat l]; rfl
theorem eqV_lv (i : Int) (a : Lv) : eqV (lvV a) (.int i) = decide (a = some i) := by
  cases a with
  | none => rfl
  | some j =>
    show (j == i) = _
    rw [Bool.eq_iff_iff]; simp
theorem inV_lv (i : Int) (l : List Lv) : inV (.int i) (l.map lvV) = decide (some i ∈ l) := by
  unfold inV
  rw [List.any_map, Bool.eq_iff_iff, List.any_eq_true, decide_eq_true_iff]
  constructor
  · rintro ⟨x, hx, e⟩
    have e' : eqV (lvV x) (.int i) = true := e
    rw [eqV_lv, decide_eq_true_iff] at e'
    exact e' ▸ hx
  · intro h
    exact ⟨some i, h, by show eqV (lvV (some i)) (.int i) = true; rw [eqV_lv]; simp⟩
def DS.log (s : DS) (p : Nat) : DS := { s with deeds := s.deeds ++ [⟨true, p, .str (DS.kindOf (s.stg p))⟩] }
theorem DS.log_step (s : DS) (p : Nat) : { (s.log p).step p with deeds := (s.log p).deeds } = s.step p := by
  have h4 := DS.stg_lt s p
  have e0 : (s.log p).stg p = s.stg p := rfl
  rcases (show s.stg p = 0 ∨ s.stg p = 1 ∨ s.stg p = 2 ∨ s.stg p = 3 by omega) with e | e | e | e
  · rw [DS.step0 e, DS.step0 (e0.trans e)]; unfold DS.log; rw [e]; rfl
  · rw [DS.step1 e, DS.step1 (e0.trans e)]; unfold DS.log; rw [e]; rfl
  · rw [DS.step2 e, DS.step2 (e0.trans e)]; unfold DS.log; rw [e]; rfl
  · rw [DS.step3 e, DS.step3 (e0.trans e)]; unfold DS.log; rw [e]; split <;> rfl
theorem DS.WF.log {s : DS} {p : Nat} (W : s.WF) : (s.log p).WF := ⟨W.n1, W.n5, W.lc, W.lh, W.ls, W.vals, W.cmv, W.snv, W.lok, W.z2, W.s2⟩
/-- a tuple, of either kind -/
def TT (H : Hp) (a : Addr) (xs : List V) : Prop := H a = some (.tup xs) ∨ TF H a xs
theorem TT.sq {K : PySem.W.Frag} {H : Hp} {a : Addr} {xs : List V} (h : TT H a xs) : SqT K H a xs := h.elim (fun h => .of h) fun h => h.sq
theorem TK.tt {H H' : Hp} (g : TK H H') {a : Addr} {xs : List V} (h : TT H a xs) : TT H' a xs := h.imp (fun h => g.t h) fun h => g.f h
/-- what a step tells -/
def ToldAt (H : Hp) (t : Addr) : Told → Prop
  | .level i => H t = some (.tup [.str "level", .int i])
  | .look l => ∃ q, H t = some (.tup [.str "look", .ref q]) ∧ TT H q (l.map lvV)
  | .wait => H t = some (.tup [.str "wait"])
  | .word v => H t = some (.tup [.str "word", v])
theorem ToldAt.mono {H H' : Hp} (g : TK H H') {t : Addr} {x : Told} (h : ToldAt H t x) : ToldAt H' t x := by
  cases x with
  | level i => exact g.t h
  | look l => obtain ⟨q, a, b⟩ := h; exact ⟨q, g.t a, g.tt b⟩
  | wait => exact g.t h
  | word v => exact g.t h
/-! ### the law's own door -/
def odict (l1 l2 l3 l4 l5 : Addr) (k : Int) : List (Key × V) := [(.inr "came", .ref l1), (.inr "levels", .ref l2), (.inr "stages", .ref l3), (.inr "won", .ref l4), (.inr "heard", .ref l5), (.inr "steps", .int k)]
section
variable {l1 l2 l3 l4 l5 : Addr} {k k' : Int}
theorem o_came : valV (odict l1 l2 l3 l4 l5 k) (.inr "came") = some (.ref l1) := by kernel_rfl
theorem o_lev : valV (odict l1 l2 l3 l4 l5 k) (.inr "levels") = some (.ref l2) := by kernel_rfl
theorem o_stg : valV (odict l1 l2 l3 l4 l5 k) (.inr "stages") = some (.ref l3) := by kernel_rfl
theorem o_won : valV (odict l1 l2 l3 l4 l5 k) (.inr "won") = some (.ref l4) := by kernel_rfl
theorem o_heard : valV (odict l1 l2 l3 l4 l5 k) (.inr "heard") = some (.ref l5) := by kernel_rfl
theorem o_steps : valV (odict l1 l2 l3 l4 l5 k) (.inr "steps") = some (.int k) := by kernel_rfl
theorem op_steps : putK (odict l1 l2 l3 l4 l5 k) (.inr "steps") (.int k') = odict l1 l2 l3 l4 l5 k' := by kernel_rfl
theorem o_merge : mergeK [] (odict l1 l2 l3 l4 l5 k) = odict l1 l2 l3 l4 l5 k := by kernel_rfl
theorem og_came {H : Hp} {o : Addr} (h : H o = some (.dK (odict l1 l2 l3 l4 l5 k))) : DGet H o (.str "came") (some (.ref l1)) := by
  have := DGet.k (k := .inr "came") h; rw [o_came] at this; exact this
theorem og_lev {H : Hp} {o : Addr} (h : H o = some (.dK (odict l1 l2 l3 l4 l5 k))) : DGet H o (.str "levels") (some (.ref l2)) := by
  have := DGet.k (k := .inr "levels") h; rw [o_lev] at this; exact this
theorem og_stg {H : Hp} {o : Addr} (h : H o = some (.dK (odict l1 l2 l3 l4 l5 k))) : DGet H o (.str "stages") (some (.ref l3)) := by
  have := DGet.k (k := .inr "stages") h; rw [o_stg] at this; exact this
theorem og_won {H : Hp} {o : Addr} (h : H o = some (.dK (odict l1 l2 l3 l4 l5 k))) : DGet H o (.str "won") (some (.ref l4)) := by
  have := DGet.k (k := .inr "won") h; rw [o_won] at this; exact this
theorem og_heard {H : Hp} {o : Addr} (h : H o = some (.dK (odict l1 l2 l3 l4 l5 k))) : DGet H o (.str "heard") (some (.ref l5)) := by
  have := DGet.k (k := .inr "heard") h; rw [o_heard] at this; exact this
theorem og_steps {H : Hp} {o : Addr} (h : H o = some (.dK (odict l1 l2 l3 l4 l5 k))) : DGet H o (.str "steps") (some (.int k)) := by
  have := DGet.k (k := .inr "steps") h; rw [o_steps] at this; exact this
theorem oput_steps {H : Hp} {o : Addr} (h : H o = some (.dK (odict l1 l2 l3 l4 l5 k))) : DPut H o (.str "steps") (.int k') (upd H o (.dK (odict l1 l2 l3 l4 l5 k'))) := by
  have := DPut.k (k := .inr "steps") (v := .int k') h (szt (by show 6 < _; decide)); rw [op_steps] at this; exact this
end
theorem ixn {n j : Nat} (h : j < n) : ixN n (j : Int) = some j := by
  unfold ixN
  rw [if_pos (by omega), if_pos (by omega)] <;> simp
def DS.won (s : DS) (p : Nat) : Bool := match s.sn p with
  | none => false
  | some l => !decide (some 2 ∈ l)
structure OwnIn (H : Hp) (o l1 l2 l3 l4 l5 : Addr) (s : DS) (cv hv : List V) (k : Int) : Prop where
  dict : H o = some (.dK (odict l1 l2 l3 l4 l5 k))
  came : H l1 = some (.lst cv)
  cameP : Paired (One H) cv s.came
  lev : H l2 = some (.lst (s.lev.map lvV))
  stg : H l3 = some (.lst ((List.range s.lev.length).map fun p => V.int (s.stg p : Nat)))
  won : H l4 = some (.lst ((List.range s.lev.length).map fun p => V.bl (s.won p)))
  heard : H l5 = some (.lst hv)
  heardP : Paired (One H) hv s.heard
  nd : [o, l1, l2, l3, l4, l5].Nodup
def OwnAt (H : Hp) (o : Addr) (L : List Addr) (s : DS) (k : Int) : Prop := ∃ l1 l2 l3 l4 l5 cv hv, L = [o, l1, l2, l3, l4, l5] ∧ OwnIn H o l1 l2 l3 l4 l5 s cv hv k
theorem OwnAt.but {H H' : Hp} {o : Addr} {L S : List Addr} {s : DS} {k : Int} (h : OwnAt H o L s k) (g : But S H H') (n : ∀ x ∈ S, x ∉ L) (tk : TK H H') : OwnAt H' o L s k := by
  obtain ⟨l1, l2, l3, l4, l5, cv, hv, rfl, h⟩ := h
  have w : ∀ x ∈ [o, l1, l2, l3, l4, l5], x ∉ S := fun x hx m => n x m hx
  exact ⟨l1, l2, l3, l4, l5, cv, hv, rfl, g _ _ (w o (by simp)) h.dict, g _ _ (w l1 (by simp)) h.came, pr_imp (fun _ _ => One.mono tk) h.cameP, g _ _ (w l2 (by simp)) h.lev, g _ _ (w l3 (by simp)) h.stg, g _ _ (w l4 (by simp)) h.won, g _ _ (w l5 (by simp)) h.heard, pr_imp (fun _ _ => One.mono tk) h.heardP, h.nd⟩
theorem OwnAt.same {H H' : Hp} {o : Addr} {L : List Addr} {s : DS} {k : Int} (h : OwnAt H o L s k) (g : Same H H') : OwnAt H' o L s k := h.but (S := []) (.of g) (fun _ m => by cases m) (.of g)
/-- what stands at its places -/
theorem OwnAt.kind {H : Hp} {o : Addr} {L : List Addr} {s : DS} {k : Int} (h : OwnAt H o L s k) : ∀ x ∈ L, (∃ xs, H x = some (.lst xs)) ∨ ∃ kvs, H x = some (.dK kvs) := by
  obtain ⟨l1, l2, l3, l4, l5, cv, hv, rfl, h⟩ := h
  intro x hx
  simp only [List.mem_cons, List.not_mem_nil, or_false] at hx
  rcases hx with rfl | rfl | rfl | rfl | rfl | rfl
  · exact .inr ⟨_, h.dict⟩
  · exact .inl ⟨_, h.came⟩
  · exact .inl ⟨_, h.lev⟩
  · exact .inl ⟨_, h.stg⟩
  · exact .inl ⟨_, h.won⟩
  · exact .inl ⟨_, h.heard⟩
theorem none0 {P : Program} {w : World} {K : PySem.W.Frag} {mg : Str → Option Value} {base : Heap} {f : Addr} {fd : FuncData} {sp : Sp} {ps : List Str} (h : ∀ vs H Q E, ¬ sp vs H Q E) : FnOk P w K mg base CX0 0 f fd ps sp :=
  ⟨fun vs H Q E q => absurd q (h vs H Q E), fun A outer s H args us vs Q E _ _ _ _ q => absurd q (h vs H Q E)⟩
/-! ### promises -/
def vc : Nat → Nat
  | 0 => 2
  | n + 1 => 2 + 3 * vc n
def spVal (n : Nat) : Sp := fun vs H Q _ => ∃ (p : Addr) (deep m : Nat), vs = [.ref p, .int deep] ∧ deep < n ∧ deep ≤ 2 ∧ m + vc deep ≤ 900000 ∧ PotAt H p m ∧ ∀ v d H', But [p] H H' → VAt H' v d → VOk deep d → PotAt H' p (m + vc deep) → Q v H'
def spODoor : Sp := fun vs H Q _ => ∃ n : Nat, vs = [.int n] ∧ n ≤ 5 ∧ ∀ o L H', Same H H' → (∀ x ∈ L, H x = none) → OwnAt H' o L (DS.new n) 0 → Q (.ref o) H'
def spOCome : Sp := fun vs H Q _ => ∃ (o : Addr) (L : List Addr) (p : Nat) (v : V) (s : DS) (k : Int), vs = [.ref o, .int p, v] ∧ OwnAt H o L s k ∧ p < s.lev.length ∧ s.WF ∧ ∀ H', But L H H' → OwnAt H' o L (s.come p v) k → Q .non H'
def spOStep : Sp := fun vs H Q _ => ∃ (o : Addr) (L : List Addr) (p : Nat) (s : DS) (k : Int), vs = [.ref o, .int p] ∧ OwnAt H o L s k ∧ s.cm p ≠ none ∧ s.WF ∧ ∀ t H', But L H H' → ToldAt H' t (s.told p) → OwnAt H' o L (s.step p) (k + 1) → Q (.ref t) H'
/-- a drawn deed: a coming (None as long as the player is here), or a step -/
def spDeed : Sp := fun vs H Q _ => ∃ (pt o : Addr) (L : List Addr) (s : DS) (k : Int) (m : Nat), vs = [.ref pt, .ref o] ∧ OwnAt H o L s k ∧ s.WF ∧ pt ∉ L ∧ PotAt H pt m ∧ m < 800000 ∧
  ∀ (t : Addr) (p : Nat) (H' : Hp), But [pt] H H' → PotAt H' pt (m + 100) → p < s.lev.length →
    ((s.cm p = none ∧ ∃ q v, H' t = some (.tup [.int (p : Nat), .ref q]) ∧ H' q = some (.tup [v]) ∧ ∃ d, VAt H' v d ∧ VOk 2 d) ∨ (s.cm p ≠ none ∧ H' t = some (.tup [.int (p : Nat), .non]))) → Q (.ref t) H'
def spIsWhole : Sp := fun vs H Q _ => ∃ i : Int, vs = [.int i] ∧ Q (.bl true) H
def spBelow : Sp := fun vs H Q _ => ∃ i n : Int, vs = [.int i, .int n] ∧ Q (.bl (decide (0 ≤ i ∧ i < n))) H
def spExch (K : PySem.W.Frag) : Sp := fun vs H Q _ => ∃ (a : Addr) (xs : List V) (p : Nat) (v : V), vs = [.ref a, .int p, v] ∧ SqT K H a xs ∧ p < xs.length ∧ xs.length ≤ 1000 ∧ ∀ q H', Same H H' → TF H' q (xs.set p v) → Q (.ref q) H'
def spSmW (n : Nat) : Sp := fun vs H Q _ => ∃ (v : V) (d : PyData) (m : Nat) (deep : Int), vs = [v, .int deep] ∧ VAt H v d ∧ VOk m d ∧ m < n ∧ (m : Int) ≤ deep ∧ ∀ H', Same H H' → Q (.bl true) H'
def spSmall : Sp := fun vs H Q _ => ∃ v : V, vs = [v] ∧ Good H v ∧ ∀ H', Same H H' → Q (.bl true) H'
def spDInit (C : Addr) : Sp := fun vs H Q _ => ∃ (d dx : Addr) (n : Nat), vs = [.ref d, .int n] ∧ 1 ≤ n ∧ n ≤ 5 ∧ H d = some (.ins C dx []) ∧ H dx = some (.own d) ∧
  ∀ H', But [d] H H' → DoorAt C H' d (DS.new n) → Q .non H'
def spCheck (C : Addr) : Sp := fun vs H Q _ => ∃ (d : Addr) (p : Nat) (s : DS), vs = [.ref d, .int p] ∧ DoorAt C H d s ∧ p < s.lev.length ∧ Q .non H
def optS : Option Str → V
  | none => .non
  | some z => .str z
def spNext (C : Addr) : Sp := fun vs H Q _ => ∃ (d : Addr) (p : Nat) (s : DS), vs = [.ref d, .int p] ∧ DoorAt C H d s ∧ p < s.lev.length ∧ ∀ H', Same H H' → Q (optS (s.next p)) H'
def spShows (C : Addr) : Sp := fun vs H Q _ => ∃ (d : Addr) (p : Nat) (s : DS), vs = [.ref d, .int p] ∧ DoorAt C H d s ∧ p < s.lev.length ∧ (s.stg p = 0 ∨ s.stg p = 2) ∧ s.cm p ≠ none ∧
  ∀ t H', But [d] H H' → ToldAt H' t (s.told p) → DoorAt C H' d { s.step p with deeds := s.deeds } → Q (.ref t) H'
def spAsks (C : Addr) : Sp := fun vs H Q _ => ∃ (d : Addr) (p : Nat) (s : DS), vs = [.ref d, .int p] ∧ DoorAt C H d s ∧ p < s.lev.length ∧ s.stg p = 3 ∧ s.cm p ≠ none ∧
  ∀ t H', But [d] H H' → ToldAt H' t (s.told p) → DoorAt C H' d { s.step p with deeds := s.deeds } → Q (.ref t) H'
def spStep (C : Addr) : Sp := fun vs H Q _ => ∃ (d : Addr) (p : Nat) (s : DS), vs = [.ref d, .int p] ∧ DoorAt C H d s ∧ s.cm p ≠ none ∧ s.deeds.length < 100000 ∧
  ∀ t H', But [d] H H' → ToldAt H' t (s.told p) → DoorAt C H' d (s.step p) → Q (.ref t) H'
def spCome (C : Addr) : Sp := fun vs H Q _ => ∃ (d : Addr) (p : Nat) (v : V) (s : DS), vs = [.ref d, .int p, v] ∧ DoorAt C H d s ∧ p < s.lev.length ∧ s.cm p = none ∧ Good H v ∧ s.deeds.length < 100000 ∧
  ∀ H', But [d] H H' → DoorAt C H' d (s.come p v) → Q .non H'
def DS.held (s : DS) : List Nat := (List.range s.lev.length).filter fun p => decide (s.lv p = some 1)
def spHeld (C : Addr) : Sp := fun vs H Q _ => ∃ (d : Addr) (s : DS), vs = [.ref d] ∧ DoorAt C H d s ∧ ∀ t H', Same H H' → H' t = some (.tup (s.held.map fun (p : Nat) => V.int (p : Int))) → Q (.ref t) H'
end Fp
namespace Fp
open PySem PySem.Spec PyProof.Rows L2
theorem u65 {k : Nat} {A : Around} (r : Room k A) : A.units + 65 < cLine := by have := r.un; omega
/-! ### rules that may stand within a comprehension -/
theorem op_eqDK {X : Cx} {K : PySem.W.Frag} (hu : X.A.units + 64 < cLine) (e : X.K = K := by rfl) : OpR X (compareOp .Eq) (rEqD K) := by subst e; exact op_eqD hu
theorem op_neDK {X : Cx} {K : PySem.W.Frag} (hu : X.A.units + 64 < cLine) (e : X.K = K := by rfl) : OpR X (compareOp .NotEq) (rNeD K) := by subst e; exact op_neD hu
theorem ix_tupK {X : Cx} {K : PySem.W.Frag} (e : X.K = K := by rfl) : IxR X (rIxT K) := by subst e; exact ix_tup
theorem ix_listK {X : Cx} {K : PySem.W.Frag} (e : X.K = K := by rfl) : IxR X (rIxL K) := by subst e; exact ix_list
def rRepr (K : PySem.W.Frag) : List V → Hp → VK → Prop := fun xs H Q => ∃ (x : V) (d : PyData) (k n : Nat), xs = [x] ∧ Dp K H x d ∧ Sm k n d ∧ k ≤ 64 ∧ n ≤ 1000000 ∧ Q (.str d.shown) H
theorem call_reprK {X : Cx} {K : PySem.W.Frag} (hgu : X.A.guards = some []) (hu : X.A.units + 66 < cLine) (e : X.K = K := by rfl) : CallR X (.builtin "repr") (rRepr K) := by subst e; exact call_reprA hgu hu
theorem pe_fldK {X : Cx} {K : PySem.W.Frag} {o : Expr} {f : Str} {pos : Pos} {to : TE} (h : PE X (.Attribute o f pos) (tFld X.K to f)) (e : X.K = K := by rfl) : PE X (.Attribute o f pos) (tFld K to f) := by subst e; exact h
/-! ### what is told, as data -/
def TOk (H : Hp) : Told → Prop
  | .level i => 0 ≤ i ∧ i ≤ 2
  | .look l => l.length ≤ 5 ∧ ∀ x, some x ∈ l → 0 ≤ x ∧ x ≤ 2
  | .wait => True
  | .word v => Good H v
theorem TOk.mono {H H' : Hp} (g : TK H H') {x : Told} (h : TOk H x) : TOk H' x := by
  cases x with
  | level i => exact h
  | look l => exact h
  | wait => exact h
  | word v => exact Good.mono g h
theorem DS.WF.small {s : DS} (W : s.WF) : s.lev.length ≤ 5 ∧ ∀ x, some x ∈ s.lev → 0 ≤ x ∧ x ≤ 2 := ⟨W.n5, fun x h => by
  obtain ⟨q, hq⟩ := mem_getD.mp h
  rcases W.vals q x hq with rfl | rfl | rfl <;> decide⟩
theorem DoorAt.tok {C : Addr} {H : Hp} {d : Addr} {s : DS} {p : Nat} (h : DoorAt C H d s) : TOk H (s.told p) := by
  obtain ⟨dx, a, b, c, e, f, cv, hv, sv, dv, D⟩ := h
  have W := D.wf
  have h4 := DS.stg_lt s p
  rcases (show s.stg p = 0 ∨ s.stg p = 1 ∨ s.stg p = 2 ∨ s.stg p = 3 by omega) with z | z | z | z
  · rw [DS.told0 z]; exact ⟨by decide, by decide⟩
  · rw [DS.told1 z]; exact W.small
  · rw [DS.told2 z]; rcases DS.wr02 s p with ⟨e, _⟩ | ⟨e, _⟩ <;> rw [e] <;> exact ⟨by decide, by decide⟩
  · rw [DS.told3 z]; split
    · trivial
    · obtain ⟨v, hv⟩ := DS.two_came W (DS.ask_two W z)
      rw [hv]
      exact D.good _ _ hv
def lvD : Lv → PyData
  | none => .none
  | some i => .int i
theorem lv_dp {K : PySem.W.Frag} {H : Hp} : ∀ l : List Lv, DpAll K H (l.map lvV) (l.map lvD)
  | [] => .nil
  | none :: l => .cons .non (lv_dp l)
  | some i :: l => .cons (.int i) (lv_dp l)
theorem lv_sms {l : List Lv} (h : ∀ x, some x ∈ l → 0 ≤ x ∧ x ≤ 2) (hl : l.length ≤ 5) : Sms 1 5 (l.map lvD) := by
  refine (Sms.all (k := 1) (n := 0) fun d hd => ?_).mono (Nat.le_refl _) (by rw [List.length_map]; omega)
  obtain ⟨x, hx, rfl⟩ := List.mem_map.mp hd
  cases x with
  | none => exact Sm.non
  | some i => have := h i hx; exact Sm.int (by omega) (by omega)
theorem Good.dp {K : PySem.W.Frag} {H : Hp} {v : V} (h : Good H v) : ∃ d, Dp K H v d ∧ Sm 4 39 d := by
  obtain ⟨d, a, b⟩ := h
  exact ⟨d, a.dp, b.sm⟩
theorem sm_word (z : Str) (h : (decide (z.cps.size ≤ 10) && z.cps.toList.all (fun c => decide (c < 16 ^ 8)) && PyData.strOk z) = true) : Sm 1 10 (.str z) := by
  rw [Bool.and_eq_true, Bool.and_eq_true] at h
  exact Sm.str (of_decide_eq_true h.1.1) h.1.2 h.2
/-- what is told, as one data, wherever it stands -/
theorem told_data {H : Hp} {x : Told} (o : TOk H x) : ∃ d, Sm 6 100 d ∧ ∀ (K : PySem.W.Frag) (H' : Hp) (t : Addr), TK H H' → ToldAt H' t x → Dp K H' (.ref t) d := by
  cases x with
  | level i =>
    refine ⟨.tuple [.str "level", .int i], ?_, fun K H' t _ h => .tup (.of h) (.cons (.str _) (.cons (.int _) .nil))⟩
    exact (Sms.tup (.cons (sm_word _ (by decide +kernel)) (.cons ((Sm.int (i := i) (by have := o.1; omega) (by have := o.2; omega)).mono (Nat.le_refl 1) (Nat.le_refl 0)) (Sms.nil (n := 0))))).mono (by decide) (by decide)
  | look l =>
    refine ⟨.tuple [.str "look", .tuple (l.map lvD)], ?_, fun K H' t _ h => by obtain ⟨q, a, b⟩ := h; exact .tup (.of a) (.cons (.str _) (.cons (.tup b.sq (lv_dp l)) .nil))⟩
    exact (Sms.tup (.cons ((sm_word "look" (by decide +kernel)).mono (by decide : 1 ≤ 2) (Nat.le_refl 10)) (.cons (lv_sms o.2 o.1).tup (Sms.nil (n := 0))))).mono (by decide) (by decide)
  | wait =>
    refine ⟨.tuple [.str "wait"], ?_, fun K H' t _ h => .tup (.of h) (.cons (.str _) .nil)⟩
    exact (Sms.tup (.cons (sm_word "wait" (by decide +kernel)) (Sms.nil (n := 0)))).mono (by decide) (by decide)
  | word v =>
    obtain ⟨d, hd, ho⟩ := o
    refine ⟨.tuple [.str "word", d], ?_, fun K H' t g h => .tup (.of h) (.cons (.str _) (.cons (hd.mono g).dp .nil))⟩
    exact (Sms.tup (.cons ((sm_word "word" (by decide +kernel)).mono (by decide : 1 ≤ 4) (Nat.le_refl 10)) (.cons ho.sm (Sms.nil (n := 0))))).mono (by decide) (by decide)
/-- two tellings of one thing are one in data -/
theorem told_two {K : PySem.W.Frag} {H : Hp} {t1 t2 : Addr} {x : Told} (h1 : ToldAt H t1 x) (h2 : ToldAt H t2 x) (o : TOk H x) : ∃ d, Dp K H (.ref t1) d ∧ Dp K H (.ref t2) d ∧ Sm 6 100 d := by
  cases x with
  | level i =>
    refine ⟨.tuple [.str "level", .int i], .tup (.of h1) (.cons (.str _) (.cons (.int _) .nil)), .tup (.of h2) (.cons (.str _) (.cons (.int _) .nil)), ?_⟩
    exact (Sms.tup (.cons (sm_word _ (by decide +kernel)) (.cons ((Sm.int (i := i) (by have := o.1; omega) (by have := o.2; omega)).mono (Nat.le_refl 1) (Nat.le_refl 0)) (Sms.nil (n := 0))))).mono (by decide) (by decide)
  | look l =>
    obtain ⟨q1, a1, b1⟩ := h1
    obtain ⟨q2, a2, b2⟩ := h2
    refine ⟨.tuple [.str "look", .tuple (l.map lvD)], .tup (.of a1) (.cons (.str _) (.cons (.tup b1.sq (lv_dp l)) .nil)), .tup (.of a2) (.cons (.str _) (.cons (.tup b2.sq (lv_dp l)) .nil)), ?_⟩
    exact (Sms.tup (.cons ((sm_word "look" (by decide +kernel)).mono (by decide : 1 ≤ 2) (Nat.le_refl 10)) (.cons (lv_sms o.2 o.1).tup (Sms.nil (n := 0))))).mono (by decide) (by decide)
  | wait =>
    refine ⟨.tuple [.str "wait"], .tup (.of h1) (.cons (.str _) .nil), .tup (.of h2) (.cons (.str _) .nil), ?_⟩
    exact (Sms.tup (.cons (sm_word "wait" (by decide +kernel)) (Sms.nil (n := 0)))).mono (by decide) (by decide)
  | word v =>
    obtain ⟨d, hd, sm⟩ := Good.dp (K := K) o
    refine ⟨.tuple [.str "word", d], .tup (.of h1) (.cons (.str _) (.cons hd .nil)), .tup (.of h2) (.cons (.str _) (.cons hd .nil)), ?_⟩
    exact (Sms.tup (.cons ((sm_word "word" (by decide +kernel)).mono (by decide : 1 ≤ 4) (Nat.le_refl 10)) (.cons sm (Sms.nil (n := 0))))).mono (by decide) (by decide)
/-! ### lots of players -/
def natV (l : List Nat) : List V := l.map fun (p : Nat) => V.int (p : Int)
theorem natV_dp {K : PySem.W.Frag} {H : Hp} : ∀ l : List Nat, DpAll K H (natV l) (l.map fun (p : Nat) => PyData.int (p : Int))
  | [] => .nil
  | p :: l => .cons (.int _) (natV_dp l)
theorem natV_sm {l : List Nat} (h : ∀ p ∈ l, p ≤ 5) (hl : l.length ≤ 5) : Sm 2 5 (.tuple (l.map fun (p : Nat) => PyData.int (p : Int))) := by
  refine (Sms.all (k := 1) (n := 0) fun d hd => ?_).tup.mono (Nat.le_refl _) (by rw [List.length_map]; omega)
  obtain ⟨x, hx, rfl⟩ := List.mem_map.mp hd
  have := h x hx
  exact Sm.int (by omega) (by omega)
theorem held_small {s : DS} (W : s.WF) : (∀ p ∈ s.held, p ≤ 5) ∧ s.held.length ≤ 5 := by
  have h5 := W.n5
  refine ⟨fun p hp => ?_, ?_⟩
  · have := List.mem_range.mp (List.mem_filter.mp hp).1
    omega
  · have := List.length_filter_le (fun p => decide (s.lv p = some 1)) (List.range s.lev.length)
    rw [List.length_range] at this
    unfold DS.held
    omega
/-! ### a law's state: a door, an own door, a pot -/
theorem But.into {S T : List Addr} {H0 H H' : Hp} (a : But S H0 H) (b : But T H H') (h : ∀ x ∈ T, H0 x = none ∨ x ∈ S) : But S H0 H' := fun c o n e => b c o (fun m => by
  rcases h c m with z | z
  · rw [z] at e; cases e
  · exact n z) (a c o n e)
theorem But.free {pt d : Addr} {H H1 : Hp} (g : But [pt] H H1) (hp : H1 pt ≠ none) (h : H1 d = none) : H d = none := by
  cases e : H d with
  | none => rfl
  | some o =>
    have := g d o (by simp only [List.mem_singleton]; intro z; exact hp (z ▸ h)) e
    rw [h] at this; cases this
theorem PotAt.ne0 {H : Hp} {p : Addr} {n : Nat} (h : PotAt H p n) : H p ≠ none := by
  obtain ⟨xs, e⟩ := h.there
  rw [e]; simp
structure Sta (C : Addr) (H0 : Hp) (pt d o : Addr) (L : List Addr) (H : Hp) (s1 s2 : DS) (m : Nat) (q : Nat) : Prop where
  fr : But [pt] H0 H
  door : DoorAt C H d s1
  own : ∃ k, OwnAt H o L s2 k
  pot : PotAt H pt m
  p0 : H0 pt ≠ none
  d0 : H0 d = none
  L0 : ∀ x ∈ L, H0 x = none
  dl : s1.deeds.length ≤ q
theorem DoorAt.ins {C : Addr} {H : Hp} {d : Addr} {s : DS} (h : DoorAt C H d s) : ∃ dx fs, H d = some (.ins C dx fs) := by
  obtain ⟨dx, a, b, c, e, f, cv, hv, sv, dv, D⟩ := h
  exact ⟨_, _, D.obj⟩
theorem DoorAt.tk {C : Addr} {H H' : Hp} {d : Addr} {s : DS} (h : DoorAt C H d s) (g : But [d] H H') : TK H H' := TK.but g fun a ha z => by
  obtain ⟨dx, fs, e⟩ := h.ins
  rw [List.mem_singleton.mp ha, e] at z
  exact z
theorem PotAt.tk {H H' : Hp} {pt : Addr} {m : Nat} (h : PotAt H pt m) (g : But [pt] H H') : TK H H' := TK.but g fun a ha z => by
  obtain ⟨xs, e⟩ := h.there
  rw [List.mem_singleton.mp ha, e] at z
  exact z
theorem OwnAt.tk {H H' : Hp} {o : Addr} {L : List Addr} {s : DS} {k : Int} (h : OwnAt H o L s k) (g : But L H H') : TK H H' := TK.but g fun a ha z => by
  rcases h.kind a ha with ⟨xs, e⟩ | ⟨xs, e⟩ <;> rw [e] at z <;> exact z
theorem PotAt.but {H H' : Hp} {pt : Addr} {m : Nat} {S : List Addr} (h : PotAt H pt m) (g : But S H H') (n : pt ∉ S) : PotAt H' pt m := by
  obtain ⟨a, b, c, e, r⟩ := h
  exact ⟨a, b, c, g _ _ n e, r⟩
section
variable {C : Addr} {H0 H H' : Hp} {pt d o : Addr} {L : List Addr} {s1 s2 s' : DS} {m m' q q' : Nat}
theorem Sta.ptL (S : Sta C H0 pt d o L H s1 s2 m q) : pt ∉ L := fun z => S.p0 (S.L0 _ z)
theorem Sta.dL (S : Sta C H0 pt d o L H s1 s2 m q) : d ∉ L := fun z => by
  obtain ⟨k, O⟩ := S.own
  obtain ⟨dx, fs, e⟩ := S.door.ins
  rcases O.kind d z with ⟨xs, e2⟩ | ⟨xs, e2⟩ <;> rw [e] at e2 <;> cases e2
theorem Sta.ptd (S : Sta C H0 pt d o L H s1 s2 m q) : pt ≠ d := fun z => S.p0 (by rw [z]; exact S.d0)
theorem Sta.same (S : Sta C H0 pt d o L H s1 s2 m q) (g : Same H H') : Sta C H0 pt d o L H' s1 s2 m q :=
  ⟨S.fr.trans (.of g), S.door.same g, let ⟨k, O⟩ := S.own; ⟨k, O.same g⟩, S.pot.but (.of (S := []) g) (by simp), S.p0, S.d0, S.L0, S.dl⟩
theorem Sta.take (S : Sta C H0 pt d o L H s1 s2 m q) (g : But [pt] H H') (hp : PotAt H' pt m') : Sta C H0 pt d o L H' s1 s2 m' q :=
  ⟨S.fr.trans g, S.door.but g fun x hx => by rw [List.mem_singleton.mp hx]; exact .inl S.pot.there, let ⟨k, O⟩ := S.own; ⟨k, O.but g (fun x hx => by rw [List.mem_singleton.mp hx]; exact S.ptL) (S.pot.tk g)⟩, hp, S.p0, S.d0, S.L0, S.dl⟩
theorem Sta.stepD (S : Sta C H0 pt d o L H s1 s2 m q) (g : But [d] H H') (hd : DoorAt C H' d s') (hl : s'.deeds.length ≤ q') : Sta C H0 pt d o L H' s' s2 m q' :=
  ⟨S.fr.into g fun x hx => by rw [List.mem_singleton.mp hx]; exact .inl S.d0, hd, let ⟨k, O⟩ := S.own; ⟨k, O.but g (fun x hx => by rw [List.mem_singleton.mp hx]; exact S.dL) (S.door.tk g)⟩, S.pot.but g (by simpa using S.ptd), S.p0, S.d0, S.L0, hl⟩
theorem Sta.stepO (S : Sta C H0 pt d o L H s1 s2 m q) (g : But L H H') {k : Int} (ho : OwnAt H' o L s' k) : Sta C H0 pt d o L H' s1 s' m q :=
  ⟨S.fr.into g fun x hx => .inl (S.L0 x hx), let ⟨k, O⟩ := S.own; S.door.but g O.kind, ⟨k, ho⟩, S.pot.but g S.ptL, S.p0, S.d0, S.L0, S.dl⟩
end
theorem deeds_step {s : DS} {p : Nat} : (s.step p).deeds.length = s.deeds.length + 1 := by
  unfold DS.step
  split <;> (try split) <;> simp
theorem deeds_come {s : DS} {p : Nat} {v : V} : (s.come p v).deeds.length = s.deeds.length + 1 := by simp [DS.come]
theorem DoorAt.ob {C : Addr} {H : Hp} {d : Addr} {s : DS} (h : DoorAt C H d s) : ∃ dx fs, H d = some (.ins C dx fs) ∧ fs.lookup ("step" : Str) = none ∧ fs.lookup ("come" : Str) = none ∧ fs.lookup ("next" : Str) = none ∧ fs.lookup ("copy" : Str) = none := by
  obtain ⟨dx, a, b, c, e, f, cv, hv, sv, dv, D⟩ := h
  exact ⟨_, _, D.obj, no_step, no_come, no_next, no_copy⟩
theorem DS.lv_other {s : DS} {p q : Nat} (W : s.WF) (hc : s.cm p ≠ none) (h : p ≠ q) : (s.step p).lv q = s.lv q := by
  have hp := DS.lt_of_cm W hc
  have h4 := DS.stg_lt s p
  rcases (show s.stg p = 0 ∨ s.stg p = 1 ∨ s.stg p = 2 ∨ s.stg p = 3 by omega) with e | e | e | e
  · rw [DS.lv_step0 e hp, if_neg h]
  · rw [DS.lv_step1 e]
  · rw [DS.lv_step2 e hp, if_neg h]
  · rw [DS.lv_step3 e]
theorem natV_rep (n : Nat) (l : List Nat) : (List.replicate n (natV l)).flatten = natV (List.replicate n l).flatten := by
  unfold natV
  rw [List.map_flatten, List.map_replicate]
theorem count_rep (n p : Nat) (l : List Nat) (h : p ∈ l) : n ≤ (List.replicate n l).flatten.count p := by
  induction n with
  | zero => omega
  | succ n ih =>
    rw [List.replicate_succ, List.flatten_cons, List.count_append]
    have := List.count_pos_iff.mpr h
    omega
theorem mem_rep {n p : Nat} {l : List Nat} (h : p ∈ (List.replicate n l).flatten) : p ∈ l := by
  obtain ⟨x, hx, hp⟩ := List.mem_flatten.mp h
  rw [(List.mem_replicate.mp hx).2] at hp
  exact hp
theorem natV_get {l : List Nat} {i : Nat} {x : V} (h : (natV l)[i]? = some x) : ∃ p, l[i]? = some p ∧ x = .int (p : Int) := by
  unfold natV at h
  rw [List.getElem?_map] at h
  cases e : l[i]? with
  | none => rw [e] at h; cases h
  | some p => rw [e] at h; cases h; exact ⟨p, rfl, rfl⟩
theorem take_snoc {l : List Nat} {i p : Nat} (h : l[i]? = some p) : l.take (i + 1) = l.take i ++ [p] := by
  rw [List.take_add_one, h]; rfl
theorem rep_len (n : Nat) (l : List Nat) : (List.replicate n l).flatten.length = n * l.length := by simp
theorem two_str {a b : Str} (h : a = b) : (!decide (V.str a = V.str b)) = false := by rw [h]; simp
theorem Fst {H : Hp} {t : Addr} {x : Told} (h : ToldAt H t x) : ∃ ys, H t = some (.tup (.str (match x with | .level _ => "level" | .look _ => "look" | .wait => "wait" | .word _ => "word") :: ys)) := by
  cases x with
  | level i => exact ⟨_, h⟩
  | look l => obtain ⟨q, h, _⟩ := h; exact ⟨_, h⟩
  | wait => exact ⟨_, h⟩
  | word v => exact ⟨_, h⟩
theorem stg_ge {s : DS} {p q : Nat} {l : List Nat} (W : s.WF) (hc : s.cm p ≠ none) (h : min 3 (l.count q) ≤ s.stg q) : min 3 ((l ++ [p]).count q) ≤ (s.step p).stg q := by
  rw [DS.stg_step W hc, List.count_append, List.count_singleton]
  by_cases e : p = q
  · subst e; simp; omega
  · rw [if_neg e]; simp [e]; omega
/-- a door and an own door are made -/
theorem Sta.make {C : Addr} {H H1 H2 H3 : Hp} {pt d dx o : Addr} {L : List Addr} {N m : Nat} (hP : PotAt H pt 0) (g1 : But [pt] H H1) (hP1 : PotAt H1 pt m) (hd : H1 d = none) (hdx : H1 dx = none) (hne : dx ≠ d)
    (b : But [d] (upd (upd H1 dx (.own d)) d (.ins C dx [])) H2) (D : DoorAt C H2 d (DS.new N)) (g3 : Same H2 H3) (hL : ∀ x ∈ L, H2 x = none) (O : OwnAt H3 o L (DS.new N) 0) : Sta C H pt d o L H3 (DS.new N) (DS.new N) m 0 := by
  have g2 : Same H1 (upd (upd H1 dx (.own d)) d (.ins C dx [])) := (same_new hdx _).trans (same_new (by rw [upd_ne (Ne.symm hne)]; exact hd) _)
  have pd : pt ≠ d := fun z => hP1.ne0 (by rw [z]; exact hd)
  have fr2 : But [pt] H H2 := (g1.trans (.of g2)).into b fun x hx => by rw [List.mem_singleton.mp hx]; exact .inl (g1.free hP1.ne0 hd)
  have hP2 : PotAt H2 pt m := (hP1.but (.of (S := []) g2) (by simp)).but b (by simpa using pd)
  exact ⟨fr2.trans (.of g3), D.same g3, ⟨_, O⟩, hP2.but (.of (S := []) g3) (by simp), hP.ne0, g1.free hP1.ne0 hd, fun x hx => fr2.free hP2.ne0 (hL x hx), Nat.le_refl _⟩
theorem filter_one : ∀ N, N ≤ 5 → ∀ st, st < N → (List.range N).filter (fun p => decide (p = st)) = [st] := by decide
theorem eqv_self_nat (l : List Nat) : PyData.eqv (.tuple (l.map fun (p : Nat) => PyData.int (p : Int))) (.tuple (l.map fun (p : Nat) => PyData.int (p : Int))) = true := by
  have h : ∀ l : List Nat, PyData.eqvAll (l.map fun (p : Nat) => PyData.int (p : Int)) (l.map fun (p : Nat) => PyData.int (p : Int)) = true := fun l => by
    induction l with
    | nil => simp [PyData.eqvAll]
    | cons a r ih => simp [PyData.eqvAll, PyData.eqv, ih]
  simp only [PyData.eqv]
  exact h l
theorem held_none {s : DS} (h : ∀ p, p < s.lev.length → s.lv p ≠ some 1) : s.held = [] := by
  unfold DS.held
  rw [List.filter_eq_nil_iff]
  intro p hp
  simpa using h p (List.mem_range.mp hp)
theorem held_only {s : DS} (W : s.WF) {st : Nat} (hst : st < s.lev.length) (h1 : s.lv st = some 1) (h : ∀ p, p < s.lev.length → p ≠ st → s.lv p ≠ some 1) : s.held = [st] := by
  unfold DS.held
  rw [← filter_one _ W.n5 st hst]
  refine List.filter_congr fun p hp => ?_
  rw [decide_eq_decide]
  constructor
  · intro z
    by_cases e : p = st
    · exact e
    · exact absurd z (h p (List.mem_range.mp hp) e)
  · intro z; rw [z]; exact h1
theorem lv_of3 {s : DS} {p : Nat} (h : s.stg p = 3) : s.lv p ≠ some 1 := by
  obtain ⟨x, hx, h1⟩ := DS.stg3.mp h
  rw [hx]; intro z; injection z with z; exact h1 z
theorem Sta.put {C : Addr} {H0 H : Hp} {pt d o D : Addr} {L : List Addr} {s1 s2 : DS} {m q : Nat} {xs ys : List V} (S : Sta C H0 pt d o L H s1 s2 m q) (h : H D = some (.lst xs)) (n0 : H0 D = none) (nL : D ∉ L) : Sta C H0 pt d o L (upd H D (.lst ys)) s1 s2 m q := by
  have g : But [D] H (upd H D (.lst ys)) := (But.refl _ _).put (by simp)
  have np : pt ≠ D := fun z => S.p0 (by rw [z]; exact n0)
  have tk : TK H (upd H D (.lst ys)) := .put h fun z => z
  exact ⟨S.fr.into g fun x hx => by rw [List.mem_singleton.mp hx]; exact .inl n0, S.door.but g fun x hx => by rw [List.mem_singleton.mp hx]; exact .inl ⟨_, h⟩,
    let ⟨k, O⟩ := S.own; ⟨k, O.but g (fun x hx => by rw [List.mem_singleton.mp hx]; exact nL) tk⟩, S.pot.but g (by simpa using np), S.p0, S.d0, S.L0, S.dl⟩
/-- an address that is new is none of the state's -/
theorem Sta.new {C : Addr} {H0 H : Hp} {pt d o D : Addr} {L : List Addr} {s1 s2 : DS} {m q : Nat} (S : Sta C H0 pt d o L H s1 s2 m q) (h : H D = none) : H0 D = none ∧ D ∉ L ∧ D ≠ d ∧ D ≠ pt := by
  obtain ⟨k, O⟩ := S.own
  refine ⟨S.fr.free S.pot.ne0 h, fun z => ?_, fun z => ?_, fun z => S.pot.ne0 (by rw [← z]; exact h)⟩
  · rcases O.kind D z with ⟨ys, e⟩ | ⟨ys, e⟩ <;> rw [e] at h <;> cases h
  · obtain ⟨dx', fs, e⟩ := S.door.ins; rw [z, e] at h; cases h
theorem Sta.up {C : Addr} {H0 H : Hp} {pt d o : Addr} {L : List Addr} {s1 s2 : DS} {m q m' q' : Nat} (S : Sta C H0 pt d o L H s1 s2 m q) (hm : m ≤ m') (hq : q ≤ q') : Sta C H0 pt d o L H s1 s2 m' q' :=
  ⟨S.fr, S.door, S.own, S.pot.mono hm, S.p0, S.d0, S.L0, Nat.le_trans S.dl hq⟩
/-! ### one word -/
def DS.hd (s : DS) (p : Nat) : Option V := s.heard.getD p none
def DS.Closed (s : DS) : Prop := (∃ q, s.lv q = some 2) ∧ ∀ p, s.stg p = 2 → s.saw p = true
section
variable {s : DS} {p : Nat} {v : V}
theorem DS.hd_new (n p : Nat) : (DS.new n).hd p = none := DS.rep_none n p
theorem DS.hd_come (q : Nat) : (s.come p v).hd q = s.hd q := rfl
theorem DS.hd_step (W : s.WF) (hc : s.cm p ≠ none) (q : Nat) : (s.step p).hd q = if p = q ∧ s.stg p = 3 ∧ some 1 ∉ s.lev then s.cm s.two else s.hd q := by
  have hp := DS.lt_of_cm W hc
  have h4 := DS.stg_lt s p
  rcases (show s.stg p = 0 ∨ s.stg p = 1 ∨ s.stg p = 2 ∨ s.stg p = 3 by omega) with e | e | e | e
  · rw [if_neg (by omega)]; unfold DS.hd; rw [DS.step0 e]
  · rw [if_neg (by omega)]; unfold DS.hd; rw [DS.step1 e]
  · rw [if_neg (by omega)]; unfold DS.hd; rw [DS.step2 e]
  · unfold DS.hd
    rw [DS.step3 e]
    by_cases z : some 1 ∈ s.lev
    · rw [if_pos z, if_neg (by intro h; exact h.2.2 z)]
    · rw [if_neg z]
      show (s.heard.set p (s.cm s.two)).getD q none = _
      rw [getD_set]
      by_cases h : p = q
      · rw [if_pos ⟨h, by rw [W.lh]; exact hp⟩, if_pos ⟨h, e, z⟩]
      · rw [if_neg (fun h' => h h'.1), if_neg (fun h' => h h'.1)]
theorem closed_of (h : ∃ q, s.lv q = some 2) (n : some 1 ∉ s.lev) : s.Closed := ⟨h, fun p hp => absurd (mem_getD.mpr ⟨p, (DS.stg2.mp hp).1⟩) n⟩
theorem DS.Closed.step (c : s.Closed) (W : s.WF) (hc : s.cm p ≠ none) : (s.step p).Closed ∧ (s.step p).two = s.two := by
  have hp := DS.lt_of_cm W hc
  have hps : p < s.seen.length := by rw [W.ls]; exact hp
  have h4 := DS.stg_lt s p
  have k2 := DS.has2_step W hc c.1
  rcases (show s.stg p = 0 ∨ s.stg p = 1 ∨ s.stg p = 2 ∨ s.stg p = 3 by omega) with e | e | e | e
  · refine ⟨⟨k2, fun q hq => ?_⟩, DS.two_same DS.len_step fun q => ?_⟩
    · rw [DS.stg_step W hc] at hq
      have hne : p ≠ q := by intro z; rw [if_pos z, e] at hq; cases hq
      rw [if_neg hne] at hq
      unfold DS.saw; rw [DS.sn_stepN (by omega)]; exact c.2 q hq
    · rw [DS.lv_step0 e hp]; split
      · rename_i z; subst z; rw [DS.stg0.mp e]; simp
      · rfl
  · refine ⟨⟨k2, fun q hq => ?_⟩, DS.two_same DS.len_step fun q => by rw [DS.lv_step1 e]⟩
    rw [DS.stg_step W hc] at hq
    unfold DS.saw; rw [DS.sn_step1 e hps]
    by_cases z : p = q
    · rw [if_pos z]; exact decide_eq_true (mem_getD.mpr c.1)
    · rw [if_neg z] at hq ⊢; exact c.2 q hq
  · have sw := c.2 p e
    have ew : s.wr p = 0 := by unfold DS.wr; rw [if_pos sw]
    refine ⟨⟨k2, fun q hq => ?_⟩, DS.two_same DS.len_step fun q => ?_⟩
    · rw [DS.stg_step W hc] at hq
      have hne : p ≠ q := by intro z; rw [if_pos z, e] at hq; cases hq
      rw [if_neg hne] at hq
      unfold DS.saw; rw [DS.sn_stepN (by omega)]; exact c.2 q hq
    · rw [DS.lv_step2 e hp]; split
      · rename_i z; subst z; rw [ew, (DS.stg2.mp e).1]; simp
      · rfl
  · refine ⟨⟨k2, fun q hq => ?_⟩, DS.two_same DS.len_step fun q => by rw [DS.lv_step3 e]⟩
    rw [DS.stg_step W hc] at hq
    have hne : p ≠ q := by intro z; rw [if_pos z, e] at hq; cases hq
    rw [if_neg hne] at hq
    unfold DS.saw; rw [DS.sn_stepN (by omega)]; exact c.2 q hq
theorem DS.Closed.come (c : s.Closed) : (s.come p v).Closed ∧ (s.come p v).two = s.two := ⟨c, rfl⟩
theorem stg_out (W : s.WF) (h : s.cm p = none) : s.stg p = 0 := by
  refine DS.stg0.mpr ?_
  cases e : s.lv p with
  | none => rfl
  | some x => exact absurd h (W.cmv p (by rw [e]; simp))
end
/-! ### lists of players -/
def unV : V → Nat
  | .int i => i.toNat
  | _ => 0
theorem natV_perm {ys : List V} {R : List Nat} (h : ys.Perm (natV R)) : ∃ Y : List Nat, ys = natV Y ∧ Y.Perm R := by
  refine ⟨ys.map unV, ?_, ?_⟩
  · unfold natV
    rw [List.map_map]
    conv => lhs; rw [← List.map_id ys]
    refine List.map_congr_left fun x hx => ?_
    have := h.mem_iff.mp hx
    unfold natV at this
    obtain ⟨p, _, rfl⟩ := List.mem_map.mp this
    show V.int p = V.int ((unV (V.int p) : Nat) : Int)
    unfold unV
    simp
  · have := h.map unV
    refine this.trans ?_
    have e : (natV R).map unV = R := by
      unfold natV
      rw [List.map_map]
      conv => rhs; rw [← List.map_id R]
      refine List.map_congr_left fun x _ => ?_
      show unV (V.int x) = x
      unfold unV
      simp
    rw [e]
/-! ### a door and a pot -/
structure Dn (C : Addr) (H : Hp) (pt d : Addr) (s : DS) (m q : Nat) : Prop where
  door : DoorAt C H d s
  pot : PotAt H pt m
  dl : s.deeds.length ≤ q
section
variable {C : Addr} {H H' : Hp} {pt d D : Addr} {s s' : DS} {m m' q q' : Nat}
theorem Dn.ptd (S : Dn C H pt d s m q) : pt ≠ d := fun z => by
  obtain ⟨dx, fs, e⟩ := S.door.ins
  obtain ⟨xs, e2⟩ := S.pot.there
  rw [z, e] at e2; cases e2
theorem Dn.same (S : Dn C H pt d s m q) (g : Same H H') : Dn C H' pt d s m q := ⟨S.door.same g, S.pot.but (.of (S := []) g) (by simp), S.dl⟩
theorem Dn.take (S : Dn C H pt d s m q) (g : But [pt] H H') (hp : PotAt H' pt m') : Dn C H' pt d s m' q := ⟨S.door.but g fun x hx => by rw [List.mem_singleton.mp hx]; exact .inl S.pot.there, hp, S.dl⟩
theorem Dn.stepD (S : Dn C H pt d s m q) (g : But [d] H H') (hd : DoorAt C H' d s') (hl : s'.deeds.length ≤ q') : Dn C H' pt d s' m q' := ⟨hd, S.pot.but g (by simpa using S.ptd), hl⟩
theorem Dn.put {xs ys : List V} (S : Dn C H pt d s m q) (h : H D = some (.lst xs)) (n : D ≠ pt) : Dn C (upd H D (.lst ys)) pt d s m q := by
  have g : But [D] H (upd H D (.lst ys)) := (But.refl _ _).put (by simp)
  exact ⟨S.door.but g fun x hx => by rw [List.mem_singleton.mp hx]; exact .inl ⟨_, h⟩, S.pot.but g (by simpa using n.symm), S.dl⟩
theorem Dn.new (S : Dn C H pt d s m q) (h : H D = none) : D ≠ d ∧ D ≠ pt := ⟨fun z => (by obtain ⟨dx', fs, e⟩ := S.door.ins; rw [z, e] at h; cases h), fun z => S.pot.ne0 (by rw [← z]; exact h)⟩
theorem Dn.up (S : Dn C H pt d s m q) (hm : m ≤ m') (hq : q ≤ q') : Dn C H pt d s m' q' := ⟨S.door, S.pot.mono hm, Nat.le_trans S.dl hq⟩
end
/-- how often a place was asked from lap 8 on -/
def laps (e j i : Nat) : Nat := ((List.range i).filter fun l => decide (8 ≤ l ∧ l % e = j)).length
theorem laps_succ (e j i : Nat) : laps e j (i + 1) = laps e j i + if 8 ≤ i ∧ i % e = j then 1 else 0 := by
  unfold laps
  rw [List.range_succ, List.filter_append, List.length_append]
  congr 1
  by_cases h : 8 ≤ i ∧ i % e = j <;> simp [h]
theorem laps_20 : ∀ e, e ≤ 4 → ∀ j, j < e → 3 ≤ laps e j 20 := by decide
theorem word_data {dv : PyData} (ho : VOk 3 dv) : Sm 5 60 (.tuple [dv]) := (Sms.tup (.cons ho.sm (Sms.nil (n := 0)))).mono (by decide) (by decide)
theorem word_dp {K : PySem.W.Frag} {H0 H : Hp} {v : V} {dv : PyData} {t : Addr} (hv : VAt H0 v dv) (g : TK H0 H) (ht : H t = some (.tup [v])) : Dp K H (.ref t) (.tuple [dv]) := .tup (.of ht) (.cons (hv.mono g).dp .nil)
theorem sm_level {i : Int} (h0 : 0 ≤ i) (h2 : i ≤ 2) : Sm 6 100 (.tuple [.str "level", .int i]) := (Sms.tup (.cons (sm_word _ (by decide +kernel)) (.cons ((Sm.int (i := i) (by omega) (by omega)).mono (Nat.le_refl 1) (Nat.le_refl 0)) (Sms.nil (n := 0))))).mono (by decide) (by decide)
theorem sm_wait : Sm 6 100 (.tuple [.str "wait"]) := (Sms.tup (.cons (sm_word "wait" (by decide +kernel)) (Sms.nil (n := 0)))).mono (by decide) (by decide)
theorem sm_wordD {dv : PyData} (ho : VOk 3 dv) : Sm 6 100 (.tuple [.str "word", dv]) := (Sms.tup (.cons ((sm_word "word" (by decide +kernel)).mono (by decide : 1 ≤ 4) (Nat.le_refl 10)) (.cons ho.sm (Sms.nil (n := 0))))).mono (by decide) (by decide)
theorem DS.Closed.win {s : DS} (c : s.Closed) {w : Nat} (h : w = s.two ∨ (s.lv w = some 1 ∧ s.won w = true)) : w = s.two := by
  rcases h with h | ⟨h1, h2⟩
  · exact h
  · exfalso
    unfold DS.won at h2
    cases e : s.sn w with
    | none => rw [e] at h2; cases h2
    | some l =>
      rw [e] at h2
      have h2 : (!decide (some 2 ∈ l)) = true := h2
      have := c.2 w (DS.stg2.mpr ⟨h1, by rw [e]; simp⟩)
      unfold DS.saw at this
      rw [e] at this
      simp only [Option.getD_some] at this
      rw [this] at h2; cases h2
theorem DoorAt.heard {C : Addr} {H : Hp} {d : Addr} {s : DS} {K : PySem.W.Frag} (h : DoorAt C H d s) (hC : DC K C) : ∃ dx fs hv c, H d = some (.ins C dx fs) ∧ fs.lookup ("heard" : Str) = some (.ref c) ∧ TF H c hv ∧ Paired (One H) hv s.heard := by
  obtain ⟨dx, a, b, c, e, f, cv, hv, sv, dv, D⟩ := h
  exact ⟨dx, _, hv, c, D.obj, d_heard, D.heard, D.heardP⟩
theorem stg_keep {s : DS} {p q : Nat} (W : s.WF) (hc : s.cm p ≠ none) (h : p ≠ q) : (s.step p).stg q = s.stg q := by rw [DS.stg_step W hc, if_neg h]
theorem stg_self {s : DS} {p : Nat} (W : s.WF) (hc : s.cm p ≠ none) : (s.step p).stg p = min 3 (s.stg p + 1) := by rw [DS.stg_step W hc, if_pos rfl]
theorem hd_keep {s : DS} {p q : Nat} (W : s.WF) (hc : s.cm p ≠ none) (h : s.stg p ≠ 3 ∨ some 1 ∈ s.lev) : (s.step p).hd q = s.hd q := by
  rw [DS.hd_step W hc, if_neg]
  rintro ⟨_, a, b⟩
  rcases h with h | h
  · exact h a
  · exact b h
theorem hd_self {s : DS} {p : Nat} (W : s.WF) (hc : s.cm p ≠ none) (h : s.stg p = 3) (h1 : some 1 ∉ s.lev) : (s.step p).hd p = s.cm s.two := by rw [DS.hd_step W hc, if_pos ⟨rfl, h, h1⟩]
theorem lv_none_of {s : DS} {q : Nat} (h : s.stg q = 0 ∨ s.stg q = 3) : s.lv q ≠ some 1 := by
  rcases h with h | h
  · rw [DS.stg0.mp h]; simp
  · exact lv_of3 h
theorem told_lvl {H : Hp} {t : Addr} {i : Int} (h : ToldAt H t (.level i)) : H t = some (.tup [.str "level", .int i]) := h
theorem told_word {s : DS} {p : Nat} {v : V} (h : s.told p = .word v) : s.stg p = 3 ∧ some 1 ∉ s.lev ∧ v = (s.cm s.two).getD .non := by
  have h4 := DS.stg_lt s p
  rcases (show s.stg p = 0 ∨ s.stg p = 1 ∨ s.stg p = 2 ∨ s.stg p = 3 by omega) with z | z | z | z
  · rw [DS.told0 z] at h; cases h
  · rw [DS.told1 z] at h; cases h
  · rw [DS.told2 z] at h; cases h
  · rw [DS.told3 z] at h
    split at h
    · cases h
    · rename_i h1; injection h with h; exact ⟨z, h1, h.symm⟩
theorem cut_word (v : V) : cutV [V.str "word", v] (some 1) none = [v] := rfl
end Fp
/-! len(set(xs)), xs a list of texts that are all the same one -/
namespace Fp
open PySem PySem.Spec PyProof.Rows L2
/-- the set of the text z once something was put in -/
def onlyZ (z : Str) (i : Nat) (k : Str) : Bool := decide (0 < i ∧ k = z)
section
variable {prog : Program} {w : World} {A : Around} {R : Result → Shared → Prop} {I : Addr} {fp wr : List Addr} {G : Array GenState → Array GenState → Prop} {n : Nat} {P : Nat → Value → Prop} {St : Nat → Shared → Prop}
theorem SetOf_move {h h' : Heap} {a : Addr} {S : Str → Bool} {m : Nat} (e : ∀ o, h.get? a = some o → h'.get? a = some o) (hS : h.SetOf (PySem.strKind prog w) a S m) : h'.SetOf (PySem.strKind prog w) a S m := by
  obtain ⟨o, es, ep, t, ho, rest⟩ := hS
  exact ⟨o, es, ep, t, e _ ho, rest⟩
theorem onlyZ_add {h : Heap} {a : Addr} {z : Str} {i : Nat} (hS : h.SetOf (PySem.strKind prog w) a (fun k' => onlyZ z i k' || decide (k' = z)) (if onlyZ z i z = true then min i 1 else min i 1 + 1)) : h.SetOf (PySem.strKind prog w) a (onlyZ z (i + 1)) (min (i + 1) 1) := by
  refine SetOf_congr hS (fun k' => ?_) ?_
  · unfold onlyZ
    by_cases e : k' = z <;> by_cases c : 0 < i <;> simp [e, c]
  · unfold onlyZ
    by_cases c : 0 < i
    · rw [if_pos (by simp [c])]; omega
    · rw [if_neg (by simp [c])]; omega
/-- the putting in, from the i-th on -/
theorem fill_same (W : WalksS prog w A.in1 I fp wr G n P St) (D : Addr) (hD : D ∉ fp) (z : Str) (hv : ∀ i v, P i v → ∃ t, v = .str z t) (j : Nat) :
    ∀ (i : Nat) (s : Shared), i + j = n → St i s → s.heap.SetOf (PySem.strKind prog w) D (onlyZ z i) (min i 1) →
      (∀ s', Moved (D :: wr) G s s' → s'.heap.SetOf (PySem.strKind prog w) D (onlyZ z n) (min n 1) → R (.ok (.ret .none)) s') →
      codeAny (model prog w) A (.builtin "set.update.loop" ⟨[.ref D, .ref I], []⟩) R s := by
  have nw : D ∉ wr := fun h => hD (W.sub _ h)
  have more : ∀ b ∈ wr, b ∈ D :: wr := fun b hb => List.mem_cons_of_mem _ hb
  induction j with
  | zero =>
    intro i s hi st hS q
    obtain rfl : i = n := hi
    refine codeAny_builtin PyProof.Rows.F.entry_set_update_loop ?_
    rw [Around.under_plainId PyProof.Rows.F.plain_set_update_loop _]
    show wpAny _ A.in1 (pyNext (.ref I) >>= _) _ _ s
    refine wpAny_bind (W.done s _ _ st fun s' m => ?_)
    exact wpAny_pure (q s' (m.mono more) (SetOf_move (fun o e => m.heap D o nw e) hS))
  | succ j ih =>
    intro i s hi st hS q
    refine codeAny_builtin PyProof.Rows.F.entry_set_update_loop ?_
    rw [Around.under_plainId PyProof.Rows.F.plain_set_update_loop _]
    show wpAny _ A.in1 (pyNext (.ref I) >>= _) _ _ s
    refine wpAny_bind (W.item i s _ _ (by omega) st fun v s' pv st' m => ?_)
    obtain ⟨t, rfl⟩ := hv i v pv
    have hS' := SetOf_move (fun o e => m.heap D o nw e) hS
    refine wpAny_bind (wpAny_holding ?_)
    unfold setAdd
    refine wpAny_holding (wpAny_bind ((PySem.strKind prog w).pyHash (k := z) (strKind_is _ _ _ _) ?_))
    refine wpAny_setAddHashed_of (knd := PySem.strKind prog w) (s := { s' with toks := s'.toks + 1 }) (strKind_is _ _ _ _) rfl hS' (by unfold scanBound; omega) fun h' sb hS2 => ?_
    refine wpAny_pure ⟨plainId_quiet PyProof.Rows.F.plain_set_update_loop _, ih (i + 1) _ (by omega) (W.frame _ s' _ _ st' (Nat.le_succ _) fun b hb o e => ?_) (onlyZ_add hS2) fun s2 m2 hS3 => q s2 (Moved.trans W.gtrans ((m.mono more).then_heap (Nat.le_succ _) fun b o hb e => ?_) m2) hS3⟩
    · exact (sb.2 b fun (z : b = D) => hD (z ▸ hb)).trans e
    · exact (sb.2 b fun (z : b = D) => hb (by rw [z]; exact List.mem_cons_self)).trans e
end
section
variable {prog : Program} {w : World} {A : Around} {E : Value → Shared → Prop} {s : Shared}
/-- the set's object as it is made, empty -/
def setO (led : Bool) : Obj := { cls := .type "set", dict := none, data := .set #[] 0 (.fresh 0 0 led) }
set_option maxHeartbeats 3200000 in
theorem init_same {l : Addr} {its : Array Value} {z : Str} {led : Bool} (hh : A.handled = none) (hl : s.heap.IsList l its) (hz : ∀ v ∈ its.toList, ∃ t, v = .str z t) :
    codeAny (model prog w) A (.call (.builtin "set.__init__") ⟨[.ref s.heap.objs.size, .ref l], []⟩) (wants (fun r s₂ => r = .none ∧ ∃ h' tk, s₂ = { s with heap := h', toks := tk } ∧
      h'.SetOf (PySem.strKind prog w) s.heap.objs.size (onlyZ z its.size) (min its.size 1) ∧ (∀ b o, b < s.heap.objs.size → s.heap.get? b = some o → h'.get? b = some o)) E) { s with heap := s.heap.push (setO led) } := by
  have top : (s.heap.push (setO led)).get? s.heap.objs.size = some (setO led) := Heap.get?_push_size _ rfl
  have hT : Shared.TypeIs { s with heap := s.heap.push (setO led) } (.ref s.heap.objs.size) "set" := ⟨_, top, rfl⟩
  refine codeAny_call_builtin PySem.F.called_set.init.plain PySem.F.entry_set_init (check_set_init_1 hT ?_)
  obtain ⟨⟨cls, odict, odata, oslots⟩, hol, hcl, nl, hdl⟩ := hl
  simp only at hcl hdl
  subst hcl; subst hdl
  have hol' : (s.heap.push (setO led)).get? l = some { cls := .type "list", dict := odict, data := .seq its nl, slots := oslots } := Heap.get?_push_of_some _ hol
  have f1 := PySem.F.sub_list_set
  have f2 := PySem.F.sub_list_frozenset
  have f3 : (Value.type "list" == Value.type "dict") = false := by decide
  have hl1 : (s.heap.push (setO led)).IsList l its := ⟨_, hol', rfl, nl, rfl⟩
  have lt := Heap.lt_size hol
  unfold Builtin.«set.__init__» noKeywords Builtin.Frozenset.updateFrom
  generalize hPI : pyIter = PI
  wp_walk
  subst hPI
  refine wpAny_pyIter_list hl1 (wpAny_bind (wpAny_runValue ?_))
  have nI : l ≠ (s.heap.push (setO led)).objs.size := by rw [Heap.size_push]; exact Nat.ne_of_lt (Nat.lt_succ_of_lt lt)
  refine fill_same ((Walks.list (by simp [hh]) _ l nI its).toS) s.heap.objs.size ?_ z (fun i v e => hz v (Array.mem_toList_iff.mpr (Array.mem_of_getElem? e))) its.size 0 _ (Nat.zero_add _) ⟨⟨_, Heap.get?_push_size _ rfl, rfl, rfl⟩, (hl1.push _)⟩ ?_ ?_
  · rw [Heap.size_push]; simp only [List.mem_cons, List.mem_singleton, List.not_mem_nil, or_false, not_or]; exact ⟨Nat.ne_of_lt (Nat.lt_succ_self _), Nat.ne_of_gt lt⟩
  · exact SetOf_congr (n := 0) ((setObjOf_fresh (knd := PySem.strKind prog w) led).setOf (Heap.get?_push_of_some _ top) (by decide)) (fun k => by simp [onlyZ]) rfl
  · rintro ⟨h', g', d', tk', os'⟩ m hS
    obtain rfl : g' = s.gens := m.gens
    obtain rfl : d' = s.drawn := m.drawn
    obtain rfl : os' = s.os := m.os
    show wpAny _ _ _ _ _ _
    refine wpAny_pure ?_
    show wpAny _ _ (ret Value.none) _ _ _
    refine wpAny_pure ⟨rfl, h', tk', rfl, hS, fun b o hb e => m.heap b o ?_ (Heap.get?_push_of_some _ (Heap.get?_push_of_some _ e))⟩
    have b1 : b ≠ s.heap.objs.size := Nat.ne_of_lt hb
    have b2 : b ≠ (s.heap.push (setO led)).objs.size := by rw [Heap.size_push]; omega
    simp only [List.mem_cons, List.mem_singleton, List.not_mem_nil, or_false, not_or]
    exact ⟨b1, b2⟩
set_option maxHeartbeats 3200000 in
theorem call_set_same {l : Addr} {its : Array Value} {z : Str} {Q : Value → Shared → Prop} (hh : A.handled = none) (hl : s.heap.IsList l its) (hz : ∀ v ∈ its.toList, ∃ t, v = .str z t)
    (h : ∀ (h' : Heap) (tk : Nat), h'.SetOf (PySem.strKind prog w) s.heap.objs.size (onlyZ z its.size) (min its.size 1) → (∀ b o, b < s.heap.objs.size → s.heap.get? b = some o → h'.get? b = some o) → Q (.ref s.heap.objs.size) { s with heap := h', toks := tk }) :
    wpAny (model prog w) A (call (.type "set") [.ref l]) Q E s := by
  obtain ⟨c, tl, e1⟩ := PySem.F.called_set.mro
  have e2 := PySem.F.called_set.made
  have e3 := PySem.F.called_set.sub
  have e4 := PySem.F.called_set.notType
  have e5 := PySem.F.called_set.canCreate
  have e6 := PySem.F.typeCall_set_1 (.ref l)
  have e7 := PySem.F.called_set.init.lookup
  refine wpAny_call (codeAny_of_tree ?_)
  show wpAny _ _ (callAny (.type "set") _) _ _ _
  refine wpAny_pure ⟨Code.quiet_builtin _ (by decide +kernel), codeAny_builtin PySem.F.entry_type_call ?_⟩
  rw [Around.under_plain (weight_type_call_type "set" [.ref l] []) rfl]
  repeat (any_goals (first | assumption | wp_step))
  refine codeAny_mono (code_set_new_1 (.ref l) (E := E) (Q₁ := fun x s₁ => ∃ led : Bool, x = .ref s.heap.objs.size ∧ s₁ = { s with heap := s.heap.push (setO led) }) fun led => ⟨led, rfl, rfl⟩) fun r s₁ hr => ?_
  cases r with
  | error e => exact hr
  | ok fl =>
    cases fl with
    | ret x =>
      obtain ⟨led, rfl, rfl⟩ := hr
      have top : (s.heap.push (setO led)).get? s.heap.objs.size = some (setO led) := Heap.get?_push_size _ rfl
      have hT : Shared.TypeIs { s with heap := s.heap.push (setO led) } (.ref s.heap.objs.size) "set" := ⟨_, top, rfl⟩
      have e8 := PySem.F.called_set.init.bind (.ref s.heap.objs.size)
      repeat (any_goals (first | assumption | wp_step))
      refine codeAny_mono (init_same (A := A.in1) (E := E) (by simp [hh]) hl hz) fun r₂ s₂ hr₂ => ?_
      cases r₂ with
      | error e => exact hr₂
      | ok fl₂ =>
        cases fl₂ with
        | ret r =>
          obtain ⟨rfl, h', tk, rfl, hS, hk⟩ := hr₂
          repeat (any_goals (first | assumption | wp_step))
          exact h _ _ hS hk
        | _ => exact hr₂.elim
    | _ => exact hr.elim
end
section
variable {X : Cx}
theorem same_vals {z : Str} : ∀ {xs : List V} {us : List Value}, Vals xs us → (∀ x ∈ xs, x = .str z) → ∀ v ∈ us, ∃ t, v = .str z t
  | _, _, .nil, _ => fun v hv => absurd hv (by simp)
  | x :: xs, _, .cons r t, h => by
    have e := h x List.mem_cons_self
    subst e
    obtain ⟨k, rfl⟩ := r
    intro v hv
    rcases List.mem_cons.mp hv with e | hv
    · exact ⟨k, e⟩
    · exact same_vals t (fun y hy => h y (List.mem_cons_of_mem _ hy)) v hv
def tLenSame (K : PySem.W.Frag) (ta : TE) : TE := fun σ H Q => ta σ H fun x H1 => ∃ (l : Addr) (xs : List V) (z : Str), x = .ref l ∧ SqL K H1 l xs ∧ (∀ x ∈ xs, x = .str z) ∧ xs ≠ [] ∧ Q (.int 1) H1
theorem pe_lenSame {a : Expr} {ta : TE} {p p2 q pos : Pos} (hc : X.calm = true) (hg : Gl X "len") (hm : X.mg "len" = none) (hg2 : Gl X "set") (hm2 : X.mg "set" = none) (ha : PE X a ta)
    (na : starEach [a] X.env = (false, eval a X.env) :: starEach [] X.env := by rfl) : PE X (.Call (.Name "len" p) [.Call (.Name "set" p2) [a] [] q] [] pos) (tLenSame X.K ta) := by
  refine ⟨fun pins s σ H Q I h => Call_ (ld_blt I hg hm boot_len (callWith_builtin1 (args_cons (Call_ (ld_blt I hg2 hm2 boot_set (callWith_type1 (args_cons (thn (ha.run pins s σ H _ I h) fun v s1 ⟨x, H1, I1, r1, q1⟩ => args_nil ?_) na) na rfl))) rfl) rfl rfl))⟩
  obtain ⟨l, xs, z, rfl, hs, hx, hne, q1⟩ := q1
  cases r1
  obtain ⟨its, r, pl, hz⟩ := I1.list hs
  have one : min its.toArray.size 1 = 1 := by
    have : 0 < xs.length := List.length_pos_iff.mpr hne
    have := r.length
    rw [List.size_toArray]; omega
  refine call_set_same (I1.ok.hd hc) pl.isList (by simpa using same_vals r hx) fun h' tk hS hk => args_nil ?_
  rw [one] at hS
  obtain ⟨o, es, ep, t, ho, hex, hd, _, _, _, hf, hn⟩ := hS
  have I2 : Inv X pins σ H1 { s1 with heap := h', toks := tk } := I1.kept fun b o e => hk b o (Heap.lt_size e) e
  exact call_len_set ho hex hd hf (by rw [hn] <;> omega) ⟨.int 1, H1, I2.tok _, ⟨_, by rw [hn] <;> rfl⟩, q1⟩
end
end Fp
/-! set(xs), xs a list of integers; tuple(sorted(set(xs))) -/
namespace Fp
open PySem PySem.Spec PyProof.Rows L2
section
variable {prog : Program} {w : World} {A : Around} {E : Value → Shared → Prop} {s : Shared}
set_option maxHeartbeats 3200000 in
theorem init_ints {l : Addr} {its : Array Value} {ns : List Int} (hh : A.handled = none) (hl : s.heap.IsList l its) (hi : IntsAre its.toList ns) (hb : ns.length + 1 < scanBound) :
    codeAny (model prog w) A (.call (.builtin "set.__init__") ⟨[.ref s.heap.objs.size, .ref l], []⟩) (wants (fun r s₂ => r = .none ∧ ∃ h' tk c, s₂ = { s with heap := h', toks := tk } ∧
      SetR w h' s.heap.objs.size (fun j => decide (j ∈ ns)) c ∧ c ≤ ns.length ∧ (∀ b o, b < s.heap.objs.size → s.heap.get? b = some o → h'.get? b = some o)) E) { s with heap := s.heap.push (setO (!w.params.followText "set-order")) } := by
  generalize hled : (!w.params.followText "set-order") = led
  have top : (s.heap.push (setO led)).get? s.heap.objs.size = some (setO led) := Heap.get?_push_size _ rfl
  have hT : Shared.TypeIs { s with heap := s.heap.push (setO led) } (.ref s.heap.objs.size) "set" := ⟨_, top, rfl⟩
  have hsz : its.size = ns.length := by
    have q := hi.length
    rwa [Array.length_toList] at q
  refine codeAny_call_builtin PySem.F.called_set.init.plain PySem.F.entry_set_init (check_set_init_1 hT ?_)
  obtain ⟨⟨cls, odict, odata, oslots⟩, hol, hcl, nl, hdl⟩ := hl
  simp only at hcl hdl
  subst hcl; subst hdl
  have hol' : (s.heap.push (setO led)).get? l = some { cls := .type "list", dict := odict, data := .seq its nl, slots := oslots } := Heap.get?_push_of_some _ hol
  have f1 := PySem.F.sub_list_set
  have f2 := PySem.F.sub_list_frozenset
  have f3 : (Value.type "list" == Value.type "dict") = false := by decide
  have hl1 : (s.heap.push (setO led)).IsList l its := ⟨_, hol', rfl, nl, rfl⟩
  have lt := Heap.lt_size hol
  unfold Builtin.«set.__init__» noKeywords Builtin.Frozenset.updateFrom
  generalize hPI : pyIter = PI
  wp_walk
  subst hPI
  refine wpAny_pyIter_list hl1 (wpAny_bind (wpAny_runValue ?_))
  have nI : l ≠ (s.heap.push (setO led)).objs.size := by rw [Heap.size_push]; exact Nat.ne_of_lt (Nat.lt_succ_of_lt lt)
  refine set_update_ints ((Walks.list (by simp [hh]) _ l nI its).toS) s.heap.objs.size ?_ ns hsz hb (fun i v e => ?_) its.size 0 _ (Nat.sub_zero _) (Nat.zero_le _) ⟨⟨_, Heap.get?_push_size _ rfl, rfl, rfl⟩, (hl1.push _)⟩ ⟨0, Nat.le_refl 0, setR_new_at (w := w) ?_⟩ ?_
  · rw [Heap.size_push]; simp only [List.mem_cons, List.mem_singleton, List.not_mem_nil, or_false, not_or]; exact ⟨Nat.ne_of_lt (Nat.lt_succ_self _), Nat.ne_of_gt lt⟩
  · have hin : i < ns.length := by rw [← hsz]; exact (Array.getElem?_eq_some_iff.mp e).1
    obtain ⟨t, et⟩ := IntsAre.int_at hi i v (by rw [Array.getElem?_toList]; exact e)
    refine ⟨ns[i], t, List.getElem?_eq_getElem hin, ?_⟩
    rw [et, List.getD_eq_getElem?_getD, List.getElem?_eq_getElem hin] <;> rfl
  · rw [hled]
    exact Heap.get?_push_of_some _ top
  · rintro ⟨h', g', d', tk', os'⟩ c m hc hS
    obtain rfl : g' = s.gens := m.gens
    obtain rfl : d' = s.drawn := m.drawn
    obtain rfl : os' = s.os := m.os
    show wpAny _ _ _ _ _ _
    refine wpAny_pure ?_
    show wpAny _ _ (ret Value.none) _ _ _
    refine wpAny_pure ⟨rfl, h', tk', c, rfl, hS, by omega, fun b o hb e => m.heap b o ?_ (Heap.get?_push_of_some _ (Heap.get?_push_of_some _ e))⟩
    have b1 : b ≠ s.heap.objs.size := Nat.ne_of_lt hb
    have b2 : b ≠ (s.heap.push (setO led)).objs.size := by rw [Heap.size_push]; omega
    simp only [List.mem_cons, List.mem_singleton, List.not_mem_nil, or_false, not_or]
    exact ⟨b1, b2⟩
set_option maxHeartbeats 3200000 in
theorem call_set_ints {l : Addr} {its : Array Value} {ns : List Int} {Q : Value → Shared → Prop} (hh : A.handled = none) (hl : s.heap.IsList l its) (hi : IntsAre its.toList ns) (hb : ns.length + 1 < scanBound)
    (h : ∀ (h' : Heap) (tk c : Nat), SetR w h' s.heap.objs.size (fun j => decide (j ∈ ns)) c → c ≤ ns.length → (∀ b o, b < s.heap.objs.size → s.heap.get? b = some o → h'.get? b = some o) → Q (.ref s.heap.objs.size) { s with heap := h', toks := tk }) :
    wpAny (model prog w) A (call (.type "set") [.ref l]) Q E s := by
  obtain ⟨c, tl, e1⟩ := PySem.F.called_set.mro
  have e2 := PySem.F.called_set.made
  have e3 := PySem.F.called_set.sub
  have e4 := PySem.F.called_set.notType
  have e5 := PySem.F.called_set.canCreate
  have e6 := PySem.F.typeCall_set_1 (.ref l)
  have e7 := PySem.F.called_set.init.lookup
  refine wpAny_call (codeAny_of_tree ?_)
  show wpAny _ _ (callAny (.type "set") _) _ _ _
  refine wpAny_pure ⟨Code.quiet_builtin _ (by decide +kernel), codeAny_builtin PySem.F.entry_type_call ?_⟩
  rw [Around.under_plain (weight_type_call_type "set" [.ref l] []) rfl]
  repeat (any_goals (first | assumption | wp_step))
  refine codeAny_mono (code_set_led1 (.ref l) (E := E) (Q₁ := fun x s₁ => x = .ref s.heap.objs.size ∧ s₁ = { s with heap := s.heap.push (setO (!w.params.followText "set-order")) }) ⟨rfl, rfl⟩) fun r s₁ hr => ?_
  cases r with
  | error e => exact hr
  | ok fl =>
    cases fl with
    | ret x =>
      obtain ⟨rfl, rfl⟩ := hr
      have top : (s.heap.push (setO (!w.params.followText "set-order"))).get? s.heap.objs.size = some (setO (!w.params.followText "set-order")) := Heap.get?_push_size _ rfl
      have hT : Shared.TypeIs { s with heap := s.heap.push (setO (!w.params.followText "set-order")) } (.ref s.heap.objs.size) "set" := ⟨_, top, rfl⟩
      have e8 := PySem.F.called_set.init.bind (.ref s.heap.objs.size)
      repeat (any_goals (first | assumption | wp_step))
      refine codeAny_mono (init_ints (A := A.in1) (E := E) (by simp [hh]) hl hi hb) fun r₂ s₂ hr₂ => ?_
      cases r₂ with
      | error e => exact hr₂
      | ok fl₂ =>
        cases fl₂ with
        | ret r =>
          obtain ⟨rfl, h', tk, c, rfl, hS, hc, hk⟩ := hr₂
          repeat (any_goals (first | assumption | wp_step))
          exact h _ _ _ hS hc hk
        | _ => exact hr₂.elim
    | _ => exact hr.elim
end
theorem ints_vals : ∀ {ns : List Int} {us : List Value}, Vals (ns.map V.int) us → IntsAre us ns
  | [], _, .nil => .nil
  | n :: ns, _, .cons r t => by
    obtain ⟨k, rfl⟩ := r
    exact .cons n k (ints_vals t)
/-- set(xs) of a list of integers -/
def rSetI (K : PySem.W.Frag) (w : World) : List V → Hp → VK → Prop := fun xs H Q => ∃ (l : Addr) (ns : List Int), xs = [.ref l] ∧ SqL K H l (ns.map V.int) ∧ ns.length ≤ 1000 ∧ ∀ a c, c ≤ ns.length → H a = none → Q (.ref a) (upd H a (SetO w a (fun j => decide (j ∈ ns)) c))
section
variable {X : Cx}
theorem cr_setI (hc : X.calm = true) : CallR X (.type "set") (rSetI X.K X.w) := by
  intro pins s σ H xs us Q I r h
  obtain ⟨l, ns, rfl, hs, hl, q⟩ := h
  rw [Vals.ref1 r]
  obtain ⟨its, rv, pl, hz⟩ := I.list hs
  refine call_set_ints (ns := ns) (I.ok.hd hc) pl.isList (by simpa using ints_vals rv) (by unfold scanBound; omega) fun h' tk c hS hcl hk => ?_
  exact ⟨.ref s.heap.objs.size, _, I.laid (t' := tk) (fun b u e => hk b u (Heap.lt_size e) e) (Nat.le_refl _) (setO_new hS), rfl, q _ c hcl (I.hok.fresh (Nat.le_refl _))⟩
end
end Fp
/-! A stair of levels, as a plain thing -/
namespace Fp
open PySem PySem.Spec PyProof.Rows L2
theorem countP_same {α : Type} {f g : α → Bool} : ∀ {l : List α}, (∀ x ∈ l, f x = true → g x = true) → l.countP g ≤ l.countP f → ∀ x ∈ l, g x = true → f x = true
  | [], _, _, x, hx, _ => absurd hx (by simp)
  | a :: l, h, e, x, hx, hg => by
    have hm := List.countP_mono_left (l := l) fun y hy => h y (List.mem_cons_of_mem _ hy)
    have ha := h a List.mem_cons_self
    rw [List.countP_cons, List.countP_cons] at e
    by_cases fa : f a = true
    · have ga := ha fa
      rw [if_pos fa, if_pos ga] at e
      rcases List.mem_cons.mp hx with z | z
      · rw [z]; exact fa
      · exact countP_same (fun y hy => h y (List.mem_cons_of_mem _ hy)) (by omega) x z hg
    · rw [if_neg fa] at e
      by_cases ga : g a = true
      · rw [if_pos ga] at e; omega
      · rw [if_neg ga] at e
        rcases List.mem_cons.mp hx with z | z
        · rw [z] at hg; exact absurd hg ga
        · exact countP_same (fun y hy => h y (List.mem_cons_of_mem _ hy)) (by omega) x z hg
theorem countP_more {α : Type} [DecidableEq α] {f g : α → Bool} : ∀ {l : List α}, (∀ x ∈ l, f x = true → g x = true) → ∀ x ∈ l, f x = false → g x = true → l.countP f < l.countP g := fun {l} h x hx hf hg => by
  rcases Nat.lt_or_ge (l.countP f) (l.countP g) with z | z
  · exact z
  · have := countP_same h z x hx hg
    rw [hf] at this; cases this
theorem countP_range (n : Nat) (f : Nat → Bool) : (List.range n).countP f ≤ n := by
  have := List.countP_le_length (p := f) (l := List.range n)
  rwa [List.length_range] at this
inductive Due where
  | wr (l : Int) | look
structure LS where
  lev : List Lv
  vw : List (Option (List Nat))
  lk : List Bool
  run : List PyData
namespace LS
def new (n : Nat) : LS := ⟨List.replicate n none, List.replicate n none, List.replicate n false, []⟩
def n (s : LS) : Nat := s.lev.length
def lv (s : LS) (p : Nat) : Lv := s.lev.getD p none
def vi (s : LS) (p : Nat) : Option (List Nat) := s.vw.getD p none
def lo (s : LS) (p : Nat) : Bool := s.lk.getD p false
def le (a : Lv) (l : Int) : Bool := match a with
  | none => false
  | some x => decide (x ≤ l)
def below (s : LS) (l : Int) : List Nat := (List.range s.n).filter fun p => le (s.lv p) l
def next (s : LS) (p : Nat) : Option Due := if (s.vi p).isSome then none else if s.lo p then some .look else some (.wr (match s.lv p with
  | none => (s.n : Nat)
  | some l => l - 1))
def own (s : LS) (p : Nat) : Int := (s.lv p).getD 0
def seen (s : LS) (p : Nat) : Option (List Nat) := if s.own p ≤ (s.below (s.own p)).length then some (s.below (s.own p)) else none
def wrote (s : LS) (p : Nat) (l : Int) : LS := { s with lev := s.lev.set p (some l), lk := s.lk.set p true, run := s.run ++ [.tuple [.int (p : Nat), .str "write", .int l]] }
def looked (s : LS) (p : Nat) : LS := { s with vw := s.vw.set p (s.seen p), lk := s.lk.set p false, run := s.run ++ [.tuple [.int (p : Nat), .str "look", .tuple (s.lev.map lvD)]] }
def step (s : LS) (p : Nat) : LS := match s.next p with
  | none => s
  | some (.wr l) => s.wrote p l
  | some .look => s.looked p
/-- at l or below, or coming there -/
def inS (s : LS) (l : Nat) (p : Nat) : Bool := le (s.lv p) l
def inD (s : LS) (l : Nat) (p : Nat) : Bool := decide (s.lv p = some ((l : Int) + 1)) && !s.lo p && (s.vi p).isNone
structure WF (s : LS) : Prop where
  n1 : 1 ≤ s.n
  n5 : s.n ≤ 5
  lw : s.vw.length = s.n
  ll : s.lk.length = s.n
  rng : ∀ p l, s.lv p = some l → 1 ≤ l ∧ l ≤ s.n
  lkl : ∀ p, s.lo p = true → s.lv p ≠ none
  vil : ∀ p v, s.vi p = some v → ∃ l : Nat, s.lv p = some (l : Int) ∧ v = s.below l ∧ (s.below l).length = l
  vlk : ∀ p, s.vi p ≠ none → s.lo p = false
  few : ∀ l : Nat, l < s.n → (List.range s.n).countP (fun p => s.inS l p || s.inD l p) ≤ l
section
variable {s : LS} {p q : Nat} {l : Int}
theorem lv_new (n p : Nat) : (new n).lv p = none := DS.rep_none n p
theorem vi_new (n p : Nat) : (new n).vi p = none := DS.rep_none n p
theorem getB_set (l : List Bool) (p q : Nat) (x : Bool) : (l.set p x).getD q false = if p = q ∧ p < l.length then x else l.getD q false := by
  simp only [List.getD_eq_getElem?_getD, List.getElem?_set]
  by_cases h : p = q
  · subst h
    by_cases h2 : p < l.length
    · simp [h2]
    · have e : l[p]? = none := List.getElem?_eq_none (by omega)
      simp [h2, e]
  · simp [h]
theorem lo_new (n p : Nat) : (new n).lo p = false := by
  show (List.replicate n false).getD p false = false
  rw [List.getD_eq_getElem?_getD, List.getElem?_replicate]; split <;> rfl
theorem WF.new {n : Nat} (h1 : 1 ≤ n) (h5 : n ≤ 5) : (LS.new n).WF := by
  have hn : (LS.new n).n = n := by simp [LS.new, LS.n]
  refine ⟨by omega, by omega, by simp [LS.new, LS.n], by simp [LS.new, LS.n], ?_, ?_, ?_, ?_, fun l hl => ?_⟩
  · intro p l h; rw [lv_new] at h; cases h
  · intro p h; rw [lo_new] at h; cases h
  · intro p v h; rw [vi_new] at h; cases h
  · intro p h; rw [vi_new] at h; exact absurd rfl h
  · have : (List.range (LS.new n).n).countP (fun p => (LS.new n).inS l p || (LS.new n).inD l p) = 0 := by
      rw [List.countP_eq_zero]
      intro p _
      unfold inS inD
      rw [lv_new]
      simp [le]
    omega
theorem mem_below : q ∈ s.below l ↔ q < s.n ∧ le (s.lv q) l = true := by
  unfold below
  rw [List.mem_filter, List.mem_range]
theorem below_len : (s.below l).length = (List.range s.n).countP fun p => le (s.lv p) l := by
  unfold below
  rw [List.countP_eq_length_filter]
theorem le_some {x : Int} (h : s.lv q = some x) : le (s.lv q) l = decide (x ≤ l) := by rw [h]; rfl
theorem lt_of_lv {x : Int} (h : s.lv q = some x) : q < s.n := (getD_none_of h).1
theorem WF.below_le (W : s.WF) (l : Nat) (h : l ≤ s.n) : (s.below l).length ≤ l := by
  rw [below_len]
  by_cases e : l < s.n
  · refine Nat.le_trans (List.countP_mono_left fun x _ hx => ?_) (W.few l e)
    show (s.inS l x || s.inD l x) = true
    rw [show s.inS l x = true from hx]; rfl
  · have : l = s.n := by omega
    rw [this]; exact countP_range _ _
theorem n_wrote : (s.wrote p l).n = s.n := by simp [wrote, n]
theorem n_looked : (s.looked p).n = s.n := rfl
theorem n_step : (s.step p).n = s.n := by
  unfold step
  split
  · rfl
  · exact n_wrote
  · rfl
theorem lv_wrote (hp : p < s.n) : (s.wrote p l).lv q = if p = q then some l else s.lv q := by
  show (s.lev.set p (some l)).getD q none = _
  rw [getD_set]
  by_cases e : p = q
  · rw [if_pos ⟨e, hp⟩, if_pos e]
  · rw [if_neg (fun z => e z.1), if_neg e]; rfl
theorem vi_wrote : (s.wrote p l).vi q = s.vi q := rfl
theorem lo_wrote (W : s.WF) (hp : p < s.n) : (s.wrote p l).lo q = if p = q then true else s.lo q := by
  show (s.lk.set p true).getD q false = _
  rw [getB_set]
  by_cases e : p = q
  · rw [if_pos ⟨e, by rw [W.ll]; exact hp⟩, if_pos e]
  · rw [if_neg (fun z => e z.1), if_neg e]; rfl
theorem lv_looked : (s.looked p).lv q = s.lv q := rfl
theorem vi_looked (W : s.WF) (hp : p < s.n) : (s.looked p).vi q = if p = q then s.seen p else s.vi q := by
  show (s.vw.set p (s.seen p)).getD q none = _
  rw [getD_set]
  by_cases e : p = q
  · rw [if_pos ⟨e, by rw [W.lw]; exact hp⟩, if_pos e]
  · rw [if_neg (fun z => e z.1), if_neg e]; rfl
theorem lo_looked (W : s.WF) (hp : p < s.n) : (s.looked p).lo q = if p = q then false else s.lo q := by
  show (s.lk.set p false).getD q false = _
  rw [getB_set]
  by_cases e : p = q
  · rw [if_pos ⟨e, by rw [W.ll]; exact hp⟩, if_pos e]
  · rw [if_neg (fun z => e z.1), if_neg e]; rfl
theorem below_looked : (s.looked p).below l = s.below l := rfl
/-- nobody comes to a level where as many stand as can -/
theorem WF.full (W : s.WF) {l : Nat} (hl : (s.below l).length = l) (hr : l ≤ s.n) : ∀ q, q < s.n → s.inD l q = false := fun q hq => by
  cases z : s.inD l q with
  | false => rfl
  | true =>
    exfalso
    have hlv : s.lv q = some ((l : Int) + 1) := by
      unfold inD at z
      rw [Bool.and_eq_true, Bool.and_eq_true] at z
      exact of_decide_eq_true z.1.1
    have hle : le (s.lv q) l = false := by rw [le_some hlv]; exact decide_eq_false (by omega)
    have r := (W.rng q _ hlv).2
    have hf := W.few l (by omega)
    have := countP_more (l := List.range s.n) (f := fun p => le (s.lv p) l) (g := fun p => s.inS l p || s.inD l p) (fun x _ hx => by show (s.inS l x || _) = true; rw [show s.inS l x = true from hx]; rfl) q (List.mem_range.mpr hq) hle (by show (s.inS l q || s.inD l q) = true; rw [z]; simp)
    rw [← below_len, hl] at this
    omega
theorem WF.wrote (W : s.WF) (hp : p < s.n) (hv : s.vi p = none) (hk : s.lo p = false) (hl : match s.lv p with | none => l = (s.n : Nat) | some x => l = x - 1) : (s.wrote p l).WF := by
  have L := fun q => lv_wrote (s := s) (l := l) (q := q) hp
  have K := fun q => lo_wrote (l := l) (q := q) W hp
  have low : ∀ x, s.lv p = some x → 2 ≤ x := fun x hx => by
    have h1 := (W.rng p x hx).1
    rcases (show x = 1 ∨ 2 ≤ x by omega) with z | z
    · exfalso
      have hf := W.few 0 (by have := W.n1; omega)
      have hz : (List.range s.n).countP (fun p => s.inS 0 p || s.inD 0 p) = 0 := by omega
      rw [List.countP_eq_zero] at hz
      have := hz p (List.mem_range.mpr hp)
      refine this ?_
      unfold inD
      rw [hx, z, hk, hv]
      simp
    · exact z
  have lr : 1 ≤ l ∧ l ≤ s.n := by
    cases e : s.lv p with
    | none => rw [e] at hl; have := W.n1; simp only at hl; omega
    | some x => rw [e] at hl; have := low x e; have := (W.rng p x e).2; simp only at hl; omega
  -- p is counted only where it was counted
  have key : ∀ k : Nat, k < s.n → l ≤ k → s.inS k p = true ∨ s.inD k p = true := fun k hk' hlk => by
    cases e : s.lv p with
    | none => rw [e] at hl; simp only at hl; omega
    | some x =>
      rw [e] at hl
      simp only at hl
      by_cases z : x ≤ k
      · left; show le (s.lv p) k = true; rw [le_some e]; exact decide_eq_true z
      · right
        unfold inD
        rw [e, hk, hv, show x = (k : Int) + 1 by omega]
        simp
  refine ⟨by rw [n_wrote]; exact W.n1, by rw [n_wrote]; exact W.n5, by rw [n_wrote]; exact W.lw, by rw [n_wrote]; simp [LS.wrote, W.ll], fun q x hq => ?_, fun q hq => ?_, fun q v hq => ?_, fun q hq => ?_, fun k hk' => ?_⟩
  · rw [n_wrote]; rw [L] at hq
    split at hq
    · cases hq; exact lr
    · exact W.rng q x hq
  · rw [K] at hq; rw [L]
    split
    · simp
    · rename_i z; rw [if_neg z] at hq; exact W.lkl q hq
  · rw [vi_wrote] at hq
    obtain ⟨k, h1, h2, h3⟩ := W.vil q v hq
    have pq : p ≠ q := fun z => by rw [← z, hv] at hq; cases hq
    have hkn := (W.rng q _ h1).2
    have e : (s.wrote p l).below k = s.below k := by
      unfold below
      rw [n_wrote]
      refine List.filter_congr fun x hx => ?_
      rw [L]
      split
      · rename_i z
        subst z
        cases hb : le (s.lv p) k with
        | true =>
          cases e : s.lv p with
          | none => rw [e] at hb; cases hb
          | some y =>
            rw [le_some e] at hb
            have := of_decide_eq_true hb
            rw [e] at hl
            simp only at hl
            exact decide_eq_true (by omega)
        | false =>
          refine decide_eq_false fun hlk => ?_
          rcases Nat.lt_or_ge k s.n with c | c
          · have := W.full h3 (by omega) p hp
            rcases key k c (by omega) with w | w
            · have w : le (s.lv p) k = true := w
              rw [hb] at w; cases w
            · rw [this] at w; cases w
          · have kn : k = s.n := by omega
            rw [below_len] at h3
            have := countP_same (l := List.range s.n) (f := fun p => le (s.lv p) k) (g := fun _ => true) (fun _ _ _ => rfl) (by rw [h3, kn]; exact countP_range _ _) p (List.mem_range.mpr hp) rfl
            rw [hb] at this; cases this
      · rfl
    exact ⟨k, by rw [L, if_neg pq]; exact h1, by rw [e]; exact h2, by rw [e]; exact h3⟩
  · rw [vi_wrote] at hq
    rw [K, if_neg]
    · exact W.vlk q hq
    · intro z; rw [← z] at hq; exact hq hv
  · rw [n_wrote] at hk' ⊢
    refine Nat.le_trans (List.countP_mono_left fun x hx h => ?_) (W.few k hk')
    by_cases z : p = x
    · subst z
      have h1 : (s.wrote p l).inD k p = false := by unfold inD; rw [K, if_pos rfl]; simp
      rw [h1, Bool.or_false] at h
      have h : le ((s.wrote p l).lv p) k = true := h
      rw [L, if_pos rfl] at h
      have := of_decide_eq_true (show decide (l ≤ (k : Int)) = true from h)
      rcases key k hk' this with w | w <;> rw [w] <;> simp
    · have h1 : (s.wrote p l).inS k x = s.inS k x := by unfold inS; rw [L, if_neg z]
      have h2 : (s.wrote p l).inD k x = s.inD k x := by unfold inD; rw [L, if_neg z, K, if_neg z]; rfl
      rw [h1, h2] at h; exact h
theorem WF.looked (W : s.WF) (hp : p < s.n) (hk : s.lo p = true) : (s.looked p).WF := by
  have V := fun q => vi_looked (q := q) W hp
  have K := fun q => lo_looked (q := q) W hp
  have hv : s.vi p = none := by
    cases e : s.vi p with
    | none => rfl
    | some v => have := W.vlk p (by rw [e]; simp); rw [hk] at this; cases this
  obtain ⟨x, hx⟩ : ∃ x, s.lv p = some x := by
    cases e : s.lv p with
    | none => exact absurd e (W.lkl p hk)
    | some x => exact ⟨x, rfl⟩
  have ho : s.own p = x := by unfold own; rw [hx]; rfl
  obtain ⟨r1, r2⟩ := W.rng p x hx
  obtain ⟨k, rfl⟩ : ∃ k : Nat, x = k := ⟨x.toNat, by omega⟩
  refine ⟨W.n1, W.n5, by show (s.vw.set p _).length = _; rw [List.length_set]; exact W.lw, by show (s.lk.set p _).length = _; rw [List.length_set]; exact W.ll, W.rng, fun q hq => ?_, fun q v hq => ?_, fun q hq => ?_, fun j hj => ?_⟩
  · rw [K] at hq
    split at hq
    · cases hq
    · exact W.lkl q hq
  · rw [V] at hq
    by_cases z : p = q
    · rw [if_pos z] at hq
      subst z
      unfold seen at hq
      rw [ho] at hq
      split at hq
      · rename_i h
        cases hq
        have := W.below_le k (by omega)
        exact ⟨k, hx, rfl, by show (s.below k).length = k; omega⟩
      · cases hq
    · rw [if_neg z] at hq; exact W.vil q v hq
  · rw [K]
    split
    · rfl
    · rename_i z; rw [V, if_neg z] at hq; exact W.vlk q hq
  · have hj : j < s.n := hj
    show (List.range s.n).countP _ ≤ j
    have oth : ∀ q, p ≠ q → (s.looked p).inD j q = s.inD j q := fun q z => by unfold inD; rw [K, if_neg z, V, if_neg z]; rfl
    by_cases c : k = j + 1 ∧ s.seen p = none
    · obtain ⟨c1, c2⟩ := c
      have hb : (s.below (j + 1 : Nat)).length ≤ j := by
        unfold seen at c2
        rw [ho] at c2
        split at c2
        · cases c2
        · rename_i h; rw [← c1]; omega
      rw [below_len] at hb
      refine Nat.le_trans (List.countP_mono_left fun y hy h => ?_) hb
      rcases Bool.or_eq_true_iff.mp h with w | w
      · have w : le (s.lv y) j = true := w
        cases e : s.lv y with
        | none => rw [e] at w; cases w
        | some z => rw [e] at w; have := of_decide_eq_true (show decide (z ≤ (j : Int)) = true from w); exact decide_eq_true (by omega)
      · unfold inD at w
        rw [Bool.and_eq_true, Bool.and_eq_true] at w
        have := of_decide_eq_true w.1.1
        have this : s.lv y = some ((j : Int) + 1) := this
        rw [this]; exact decide_eq_true (by omega)
    · refine Nat.le_trans (List.countP_mono_left fun y hy h => ?_) (W.few j hj)
      rcases Bool.or_eq_true_iff.mp h with w | w
      · have w : s.inS j y = true := w
        rw [w]; rfl
      · by_cases z : p = y
        · subst z
          exfalso
          unfold inD at w
          rw [Bool.and_eq_true, Bool.and_eq_true] at w
          have h1 := of_decide_eq_true w.1.1
          have h1 : s.lv p = some ((j : Int) + 1) := h1
          rw [hx] at h1
          have h1 := Option.some.inj h1
          have h2 := w.2
          rw [V, if_pos rfl] at h2
          refine c ⟨by omega, ?_⟩
          cases e : s.seen p with
          | none => rfl
          | some v => rw [e] at h2; cases h2
        · rw [oth y z] at w; rw [w]; simp
theorem next_none : s.next p = none ↔ s.vi p ≠ none := by
  unfold next
  cases s.vi p with
  | none => simp; split <;> simp
  | some v => simp
theorem WF.step (W : s.WF) (hp : p < s.n) : (s.step p).WF := by
  unfold LS.step
  cases e : s.next p with
  | none => exact W
  | some du =>
    have hv : s.vi p = none := Classical.byContradiction fun z => by rw [next_none.mpr z] at e; cases e
    unfold LS.next at e
    rw [hv] at e
    simp only [Option.isSome_none, Bool.false_eq_true, if_false] at e
    cases hk : s.lo p with
    | true => rw [hk] at e; cases e; exact W.looked hp hk
    | false =>
      rw [hk] at e
      cases e
      refine W.wrote hp hv hk ?_
      cases s.lv p <;> rfl
/-- views stay -/
theorem vi_keep {v : List Nat} (W : s.WF) (hp : p < s.n) (h : s.vi q = some v) : (s.step p).vi q = some v := by
  unfold LS.step
  cases e : s.next p with
  | none => exact h
  | some du =>
    have hv : s.vi p = none := Classical.byContradiction fun z => by rw [next_none.mpr z] at e; cases e
    have pq : p ≠ q := fun z => by rw [z, h] at hv; cases hv
    cases du with
    | wr l => exact h
    | look => show (s.looked p).vi q = _; rw [vi_looked W hp, if_neg pq]; exact h
/-- how many steps one that goes on alone has still to do, at most -/
def left (s : LS) (p : Nat) : Int := if (s.vi p).isSome then 0 else match s.lv p with
  | none => 2 * (s.n : Nat)
  | some l => if s.lo p then 2 * l - 1 else 2 * l - 2
theorem left_step (W : s.WF) (hp : p < s.n) (h : s.vi p = none) : (s.step p).left p < s.left p ∧ 0 < s.left p := by
  have n1 := W.n1
  have e0 : s.left p = match s.lv p with
    | none => 2 * (s.n : Nat)
    | some l => if s.lo p then 2 * l - 1 else 2 * l - 2 := by unfold left; rw [h]; rfl
  unfold LS.step
  cases hk : s.lo p with
  | true =>
    have en : s.next p = some .look := by unfold next; rw [h, hk]; rfl
    rw [en]
    obtain ⟨x, hx⟩ : ∃ x, s.lv p = some x := by
      cases e : s.lv p with
      | none => exact absurd e (W.lkl p hk)
      | some x => exact ⟨x, rfl⟩
    have r := W.rng p x hx
    rw [hx, hk] at e0
    simp only [if_true] at e0
    rw [e0]
    show (s.looked p).left p < _ ∧ _
    refine ⟨?_, by omega⟩
    unfold left
    rw [vi_looked W hp, if_pos rfl, lo_looked W hp, if_pos rfl, lv_looked, hx]
    split
    · omega
    · simp only [Bool.false_eq_true, if_false]; omega
  | false =>
    cases hl : s.lv p with
    | none =>
      have en : s.next p = some (.wr (s.n : Nat)) := by unfold next; rw [h, hk, hl]; rfl
      rw [en]
      rw [hl] at e0
      simp only at e0
      rw [e0]
      show (s.wrote p (s.n : Nat)).left p < _ ∧ _
      refine ⟨?_, by omega⟩
      unfold left
      rw [vi_wrote, h, lo_wrote W hp, if_pos rfl, lv_wrote hp, if_pos rfl]
      simp only [Option.isSome_none, Bool.false_eq_true, if_false, if_true]
      omega
    | some x =>
      have en : s.next p = some (.wr (x - 1)) := by unfold next; rw [h, hk, hl]; rfl
      rw [en]
      rw [hl, hk] at e0
      simp only [Bool.false_eq_true, if_false] at e0
      rw [e0]
      have r := W.rng p x hl
      have x2 : 2 ≤ x := by
        rcases (show x = 1 ∨ 2 ≤ x by omega) with z | z
        · exfalso
          have hf := W.few 0 (by omega)
          have hz : (List.range s.n).countP (fun p => s.inS 0 p || s.inD 0 p) = 0 := by omega
          rw [List.countP_eq_zero] at hz
          refine hz p (List.mem_range.mpr hp) ?_
          unfold inD
          rw [hl, z, hk, h]
          simp
        · exact z
      show (s.wrote p (x - 1)).left p < _ ∧ _
      refine ⟨?_, by omega⟩
      unfold left
      rw [vi_wrote, h, lo_wrote W hp, if_pos rfl, lv_wrote hp, if_pos rfl]
      simp only [Option.isSome_none, Bool.false_eq_true, if_false, if_true]
      omega
theorem left_top (W : s.WF) : s.left p ≤ 2 * (s.n : Nat) := by
  unfold left
  split
  · omega
  · split
    · omega
    · rename_i l hl
      have := W.rng p l hl
      split <;> omega
/-- a view has its own hand, and all elder views, if the hand was fresh -/
theorem WF.self (W : s.WF) {v : List Nat} (h : s.vi p = some v) : p ∈ v := by
  obtain ⟨l, h1, h2, _⟩ := W.vil p v h
  rw [h2]
  exact mem_below.mpr ⟨lt_of_lv h1, by rw [le_some h1]; exact decide_eq_true (Int.le_refl _)⟩
theorem WF.elder (W : s.WF) {s0 : LS} (W0 : s0.WF) {v w : List Nat} (hf : s0.lv p = none) (h : s.vi p = some v) (hq : s.vi q = some w) (hq0 : s0.vi q = some w) : ∀ x ∈ w, x ∈ v := by
  obtain ⟨l, h1, h2, _⟩ := W.vil p v h
  obtain ⟨k, k1, k2, _⟩ := W.vil q w hq
  obtain ⟨k0, j1, j2, _⟩ := W0.vil q w hq0
  have hpw : p ∉ w := fun z => by
    rw [j2] at z
    have := (mem_below.mp z).2
    rw [hf] at this; cases this
  have hkl : k ≤ l := by
    rcases Nat.lt_or_ge l k with z | z
    · exfalso
      refine hpw ?_
      rw [k2]
      exact mem_below.mpr ⟨lt_of_lv h1, by rw [le_some h1]; exact decide_eq_true (by omega)⟩
    · exact z
  intro x hx
  rw [k2] at hx
  obtain ⟨a, b⟩ := mem_below.mp hx
  rw [h2]
  refine mem_below.mpr ⟨a, ?_⟩
  cases e : s.lv x with
  | none => rw [e] at b; cases b
  | some y => rw [e] at b; have := of_decide_eq_true (show decide (y ≤ (k : Int)) = true from b); exact decide_eq_true (by omega)
end
end LS
end Fp
/-! len of an object with an own __len__; data that stays, whatever lists change; C(k = v) -/
namespace Fp
open PySem PySem.Spec PyProof.Rows L2
structure LenC (P : Program) (w : World) (K : PySem.W.Frag) (mg : Str → Option Value) (base : Heap) (C : Addr) (n : Nat) (ps : List Str) (sp : Sp) : Prop where
  ex : ∃ (f : Addr) (fd : FuncData), PySem.W.findIn K (.ref C) "__len__" = some (some (.ref f)) ∧ PySem.W.isFn K (.ref f) = true ∧ Binds K fd ps [] ∧ FnOk P w K mg base CX0 n f fd ps sp
def rLenO (C : Addr) (sp : Sp) : List V → Hp → VK → Prop := fun xs H Q => ∃ (a dx : Addr) (fs : List (Str × V)), xs = [.ref a] ∧ H a = some (.ins C dx fs) ∧ sp [.ref a] H (fun v H' => ∃ n : Nat, v = .int n ∧ n < 2 ^ 62 ∧ Q (.int n) H') E0
section
variable {X : Cx} {C : Addr} {n : Nat} {ps : List Str} {sp : Sp}
theorem call_lenO (M : LenC X.prog X.w X.K X.mg X.base C n ps sp) (hr : Room (n + 1) X.A) : CallR X (.builtin "len") (rLenO C sp) := by
  intro pins s σ H xs us Q I r h
  obtain ⟨a, dx, fs, rfl, ha, q⟩ := h
  rw [Vals.ref1 r]
  obtain ⟨f, fd, hs, hf, hb, F⟩ := M.ex
  obtain ⟨mA, J, _⟩ := ins_get I.hok ha
  obtain ⟨od, J, _⟩ := J.look
  obtain ⟨m, hF⟩ := I.fr
  refine PySem.W.len_K hF I.ok.mod.kin J hs hf ?_
  have e0 : Env0 X.prog X.w X.K X.mg X.base X.A.in1 X.stack s H := I.env0.in1
  have r2 : Vals ([V.ref a] ++ []) ([Value.ref a] ++ []) := Vals.append (.cons rfl .nil) .nil
  have hsp : sp ([V.ref a] ++ []) H (fun v H' => ∃ n : Nat, v = .int n ∧ n < 2 ^ 62 ∧ Q (.int n) H') E0 := q
  have hl : ([Value.ref a] ++ []).length = ps.length := by rw [← r2.length]; exact F.len _ _ _ _ hsp
  refine wpAny_call (codeAny_mono (F.run X.A.in1 X.stack s H ⟨[.ref a], []⟩ _ _ _ E0 hr.in1 e0 (hb s [.ref a] I.kIn hl) r2 hsp) fun r s' hq => ?_)
  cases r with
  | error e => exact pass0 pins σ H s e s' I hq
  | ok fl =>
    cases fl with
    | ret u =>
      obtain ⟨v, H', I', rv, k, rfl, hk, q'⟩ := I.after hq
      obtain ⟨t, rfl⟩ := rv
      exact ⟨⟨by omega, by omega⟩, .int k, H', I'.tok _, ⟨_, rfl⟩, q'⟩
    | next => exact False.elim hq
    | brk => exact False.elim hq
    | cont => exact False.elim hq
end
/-! ### C(k = v) -/
structure MkK (P : Program) (w : World) (K : PySem.W.Frag) (mg : Str → Option Value) (base : Heap) (x : Str) (C : Addr) (k : Nat) (ps ks : List Str) (sp : Sp) : Prop where
  at_ : mg x = some (.ref C)
  ex : ∃ (f : Addr) (fd : FuncData), Mk K C f ∧ KBn K fd ps 1 ks (fun us ws => us ++ ws) (fun vs zs => vs ++ zs) ∧ FnOk P w K mg base CX0 k f fd ps sp
section
variable {X : Cx} {x : Str} {k : Nat} {ps ks : List Str} {sp : Sp} {C : Addr} {kws : List Keyword} {tk : TA} {p pos : Pos}
theorem pe_mkK (M : MkK X.prog X.w X.K X.mg X.base x C k ps ks sp) (hr : Room (k + 1) X.A) (hg : Gl X x) (hkw : PK X kws tk)
    (hall : (backToKw pos (keywordEach kws X.env)).all (·.1.isSome) = true := by rfl) (hks : (backToKw pos (keywordEach kws X.env)).filterMap (·.1) = ks := by rfl) (hdb : (x == ("__debug__" : Str)) = false := by decide)
    (hpl : ((backTo pos (starEach [] X.env)).any (·.1) || (backToKw pos (keywordEach kws X.env)).any (·.1.isNone)) = false := by rfl) :
    PE X (.Call (.Name x p) [] kws pos) (tMakeK C 0 ks.length sp (fun vs zs => vs ++ zs) E0 tNil tk) := by
  obtain ⟨f, fd, h1, h2, h3⟩ := M.ex
  exact pe_makeK0 h1 h3 hr hg M.at_ h2 pass0 hkw hall hks hdb hpl
end
/-! ### data that stays -/
def SD (K : PySem.W.Frag) (H : Hp) (x : V) (d : PyData) : Prop := ∀ H', TK H H' → Dp K H' x d
section
variable {K : PySem.W.Frag} {H H' : Hp} {x v : V} {d dv : PyData} {t : Addr} {xs : List V} {ds : List PyData}
theorem SD.mono (h : SD K H x d) (g : TK H H') : SD K H' x d := fun _ g2 => h _ (g.trans g2)
theorem SDs.mono (h : Paired (SD K H) xs ds) (g : TK H H') : Paired (SD K H') xs ds := pr_imp (fun _ _ h => SD.mono h g) h
theorem SDs.dp : ∀ {xs : List V} {ds : List PyData}, Paired (SD K H) xs ds → DpAll K H xs ds
  | _, _, .nil => .nil
  | _, _, .cons a b => .cons (a _ (.refl _)) (SDs.dp b)
theorem sd_tup (h : H t = some (.tup xs)) (a : Paired (SD K H) xs ds) : SD K H (.ref t) (.tuple ds) := fun _ g => .tup (.of (g.t h)) (SDs.dp (SDs.mono a g))
theorem sd_int (i : Int) : SD K H (.int i) (.int i) := fun _ _ => .int i
theorem sd_str (z : Str) : SD K H (.str z) (.str z) := fun _ _ => .str z
theorem sd_non : SD K H .non .none := fun _ _ => .non
theorem sd_val (h : VAt H v dv) : SD K H v dv := fun _ g => (h.mono g).dp
/-- what is told, as data, the word's being dv -/
def tdD (dv : PyData) : Told → PyData
  | .level i => .tuple [.str "level", .int i]
  | .look l => .tuple [.str "look", .tuple (l.map lvD)]
  | .wait => .tuple [.str "wait"]
  | .word _ => .tuple [.str "word", dv]
theorem sd_lv : ∀ l : List Lv, Paired (SD K H) (l.map lvV) (l.map lvD)
  | [] => .nil
  | none :: l => .cons sd_non (sd_lv l)
  | some i :: l => .cons (sd_int i) (sd_lv l)
theorem sd_told {x : Told} (h : ToldAt H t x) (hw : ∀ v, x = .word v → VAt H v dv) : SD K H (.ref t) (tdD dv x) := by
  cases x with
  | level i => exact sd_tup h (.cons (sd_str _) (.cons (sd_int _) .nil))
  | look l =>
    obtain ⟨q, a, b⟩ := h
    intro H' g
    exact .tup (.of (g.t a)) (.cons (.str _) (.cons (.tup (g.tt b).sq (SDs.dp (sd_lv l))) .nil))
  | wait => exact sd_tup h (.cons (sd_str _) .nil)
  | word v => exact sd_tup h (.cons (sd_str _) (.cons (sd_val (hw v rfl)) .nil))
end
/-- how many steps were done -/
def DS.stps (s : DS) : Nat := (s.deeds.filter (·.stp)).length
def spDLen (C : Addr) : Sp := fun vs H Q _ => ∃ (d : Addr) (s : DS), vs = [.ref d] ∧ DoorAt C H d s ∧ s.deeds.length < 100000 ∧ ∀ H', Same H H' → Q (.int (s.stps : Nat)) H'
end Fp
namespace Fp
open PySem PySem.Spec PyProof.Rows L2
/-! ### steps one by one -/
section
variable {C : Addr} {H H1 H2 : Hp} {d : Addr} {s : DS} {c h : List (Option V)} {l : List Lv} {sn : List (Option (List Lv))} {ds : List Deed} {p n m : Nat} {x : V}
theorem nx_step (e1 : ds.length = n) (e2 : (ds.filter (·.stp)).length = m) (D : DoorAt C H d (DS.mk c l h sn (ds ++ [⟨true, p, x⟩]))) :
    ∃ ds' : List Deed, ds'.length = n + 1 ∧ (ds'.filter (·.stp)).length = m + 1 ∧ DoorAt C H d ⟨c, l, h, sn, ds'⟩ := ⟨_, by rw [List.length_append, e1]; rfl, by rw [List.filter_append, List.length_append, e2]; rfl, D⟩
theorem nx_come (e1 : ds.length = n) (e2 : (ds.filter (·.stp)).length = m) (D : DoorAt C H d (DS.mk c l h sn (ds ++ [⟨false, p, x⟩]))) :
    ∃ ds' : List Deed, ds'.length = n + 1 ∧ (ds'.filter (·.stp)).length = m ∧ DoorAt C H d ⟨c, l, h, sn, ds'⟩ := ⟨_, by rw [List.length_append, e1]; rfl, by rw [List.filter_append, List.length_append, e2]; rfl, D⟩
theorem Same.into {H0 : Hp} (F : Same H0 H1) (g : But [d] H1 H2) (hd : H0 d = none) : Same H0 H2 := fun b o e => g b o (by
  rw [List.mem_singleton]
  intro z
  rw [z, hd] at e
  cases e) (F b o e)
end
theorem SD.now {K : PySem.W.Frag} {H : Hp} {x : V} {d : PyData} (h : SD K H x d) : Dp K H x d := h H (.refl _)
theorem Same.gone {H H1 : Hp} {a : Addr} (F : Same H H1) (h : H1 a = none) : H a = none := by
  cases e : H a with
  | none => rfl
  | some o => rw [F a o e] at h; cases h
theorem Same.put {H H1 : Hp} {a : Addr} {o : HO} (F : Same H H1) (h : H a = none) : Same H (upd H1 a o) := fun b u e => by
  rw [upd_ne (fun z => by rw [z, h] at e; cases e)]; exact F b u e
theorem pr_append {α β : Type} {F : α → β → Prop} : ∀ {l l' : List α} {m m' : List β}, Paired F l m → Paired F l' m' → Paired F (l ++ l') (m ++ m')
  | _, _, _, _, .nil, h => h
  | _, _, _, _, .cons a r, h => .cons a (pr_append r h)
theorem pr_two {α β : Type} {F : α → β → Prop} {l : List α} {a b : β} (h : Paired F l [a, b]) : ∃ x y, l = [x, y] ∧ F x a ∧ F y b := by
  cases h with
  | cons h1 t => cases t with
    | cons h2 t => cases t; exact ⟨_, _, rfl, h1, h2⟩
/-- one player alone, at 2, step by step -/
def lateS (v : V) : Nat → List Deed → DS
  | 0, ds => ⟨[none, none, some v], [none, none, none], [none, none, none], [none, none, none], ds⟩
  | 1, ds => ⟨[none, none, some v], [none, none, some 1], [none, none, none], [none, none, none], ds⟩
  | 2, ds => ⟨[none, none, some v], [none, none, some 1], [none, none, none], [none, none, some [none, none, some 1]], ds⟩
  | 3, ds => ⟨[none, none, some v], [none, none, some 2], [none, none, none], [none, none, some [none, none, some 1]], ds⟩
  | _, ds => ⟨[none, none, some v], [none, none, some 2], [none, none, some v], [none, none, some [none, none, some 1]], ds⟩
def lateT (v : V) : Nat → Told
  | 0 => .level 1
  | 1 => .look [none, none, some 1]
  | 2 => .level 2
  | _ => .word v
theorem late_step (v : V) (i : Nat) (ds : List Deed) (hi : i < 4) : (lateS v i ds).cm 2 ≠ none ∧ (lateS v i ds).told 2 = lateT v i ∧ (lateS v i ds).deeds = ds ∧ ∃ x, (lateS v i ds).step 2 = lateS v (i + 1) (ds ++ [⟨true, 2, x⟩]) := by
  rcases (show i = 0 ∨ i = 1 ∨ i = 2 ∨ i = 3 by omega) with rfl | rfl | rfl | rfl <;> exact ⟨fun z => (nomatch (show some v = none from z)), rfl, rfl, _, rfl⟩
theorem late_word {v x : V} {i : Nat} (hi : i < 4) (h : lateT v i = .word x) : x = v := by
  rcases (show i = 0 ∨ i = 1 ∨ i = 2 ∨ i = 3 by omega) with rfl | rfl | rfl | rfl <;> first | (cases h; done) | (injection h with h; exact h.symm)
theorem Sms.list {k n m : Nat} {ds : List PyData} (h : ∀ d ∈ ds, Sm k n d) (hm : (n + 1) * ds.length ≤ m) : Sm (k + 1) m (.list ds) := (Sms.all h).lst.mono (Nat.le_refl _) hm
theorem sm_td {dv : PyData} (ho : VOk 3 dv) (x : Told) (h : ∀ i, x = .level i → 0 ≤ i ∧ i ≤ 2) (hl : ∀ l, x = .look l → l.length ≤ 5 ∧ ∀ i, some i ∈ l → 0 ≤ i ∧ i ≤ 2) : Sm 6 100 (tdD dv x) := by
  cases x with
  | level i => exact sm_level (h i rfl).1 (h i rfl).2
  | look l =>
    have := hl l rfl
    exact (Sms.tup (.cons ((sm_word "look" (by decide +kernel)).mono (by decide : 1 ≤ 2) (Nat.le_refl 10)) (.cons (lv_sms this.2 this.1).tup (Sms.nil (n := 0))))).mono (by decide) (by decide)
  | wait => exact sm_wait
  | word v => exact sm_wordD ho
end Fp
/-! k35: the last two turned about; what deeds are as data; shown texts that differ -/
namespace Fp
open PySem PySem.Spec PyProof.Rows L2
theorem pick2 (its : List Value) (n : Nat) (a b : Value) (hn : its.length = n + 2) (ha : its[n + 1]? = some a) (hb : its[n]? = some b) : slicePick its.toArray none (some (-3)) (some (-1)) = #[a, b] := by
  unfold slicePick
  have hs : its.toArray.size = n + 2 := by simpa using hn
  have e : sliceBounds none (some (-3)) (some (-1)) its.toArray.size = ((n : Int) + 1, (n : Int) - 1, -1) := by
    rw [hs]
    unfold sliceBounds
    simp only [Option.getD_some, show ¬ ((-1 : Int) > 0) by decide, if_false, show ((-3 : Int) < 0) by decide, if_true]
    refine Prod.ext ?_ (Prod.ext ?_ rfl)
    · show ((n + 2 : Nat) : Int) - 1 = (n : Int) + 1; omega
    · show max (-1) (min (-3 + ((n + 2 : Nat) : Int)) (((n + 2 : Nat) : Int) - 1)) = (n : Int) - 1; omega
  rw [e]
  have r : sliceRange ((n : Int) + 1) ((n : Int) - 1) (-1) = [n + 1, n] := by
    unfold sliceRange
    have h : (n : Int) + 1 > (n : Int) - 1 := by omega
    have c : ((n : Int) + 1 - ((n : Int) - 1) - -1 - 1) / (- -1) = 2 := by
      rw [show (- -1 : Int) = 1 by decide, Int.ediv_one]; omega
    simp only [show ¬ ((-1 : Int) > 0) by decide, if_false, h, if_true, c]
    show [(((n : Int) + 1 + -1 * ((0 : Nat) : Int))).toNat, (((n : Int) + 1 + -1 * ((1 : Nat) : Int))).toNat] = _
    rw [show ((n : Int) + 1 + -1 * ((0 : Nat) : Int)).toNat = n + 1 by omega, show ((n : Int) + 1 + -1 * ((1 : Nat) : Int)).toNat = n by omega]
  show ((sliceRange ((n : Int) + 1) ((n : Int) - 1) (-1)).filterMap (its.toArray[·]?)).toArray = _
  rw [r]
  simp [ha, hb]
def tLast2 (K : PySem.W.Frag) (te : TE) : TE := fun σ H Q => te σ H fun x H1 => ∃ a xs u v, x = .ref a ∧ SqL K H1 a (xs ++ [u, v]) ∧ ∀ p, H1 p = none → Q (.ref p) (upd H1 p (.lst [v, u]))
section
variable {X : Cx}
theorem pe_last2 {e : Expr} {te : TE} {k k2 : Nat} {p1 p2 p3 p4 p5 pos : Pos} (he : PE X e te) : PE X (.Subscript e (.Slice none (some (.UnaryOp .USub (.Constant (.int 3) k2 p4) p5)) (some (.UnaryOp .USub (.Constant (.int 1) k p1) p2)) p3) pos) (tLast2 X.K te) := by
  refine ⟨fun pins s σ H Q I h => ?_⟩
  refine Subscript_ (thn (he.run pins s σ H _ I h) fun v s1 ⟨x, H1, I1, r1, q1⟩ => ?_)
  obtain ⟨a, xs, u1, v1, ex, hx, q⟩ := q1
  subst ex
  cases r1
  have hst : PO X (some (.UnaryOp .USub (.Constant (.int 1) k p1) p2)) (tPart (tUn (rU fun i => .int (-i)) (tC (.int 1)))) := po_some (pe_un un_neg pe_int)
  have hst3 : PO X (some (.UnaryOp .USub (.Constant (.int 3) k2 p4) p5)) (tPart (tUn (rU fun i => .int (-i)) (tC (.int 3)))) := po_some (pe_un un_neg pe_int)
  refine wpAny_Slice (thn (po_none.run pins s1 σ H1 (fun o H2 => o = none ∧ H2 = H1) I1 ⟨rfl, rfl⟩) fun vl s2 ⟨l, H2, I2, pl, el, e2⟩ => ?_)
  subst el e2
  refine thn (hst3.run pins s2 σ H2 (fun o H3 => o = some (-3) ∧ H3 = H2) I2 ⟨3, rfl, -3, rfl, rfl, rfl⟩) fun vu s3 ⟨u, H3, I3, pu, eu, e3⟩ => ?_
  subst eu e3
  refine thn (hst.run pins s3 σ H3 (fun o H4 => o = some (-1) ∧ H4 = H3) I3 ⟨1, rfl, -1, rfl, rfl, rfl⟩) fun vs s4 ⟨o, H4, I4, ps, eo, e4⟩ => ?_
  subst eo e4
  have I5 : Inv X pins σ H4 { s4 with heap := s4.heap.push { cls := .type "slice", data := .fields #[vl, vu, vs] } } := I4.kept (t' := s4.toks) fun b ob q => Heap.get?_push_of_some _ q
  obtain ⟨its, r, ht, hz⟩ := I5.list hx
  have hlen := r.length
  rw [List.length_append] at hlen
  have hl2 : its.length = xs.length + 2 := hlen.symm
  show wpAny (model X.prog X.w) X.A (subscriptTail e (.Slice none (some (.UnaryOp .USub (.Constant (.int 3) k2 p4) p5)) (some (.UnaryOp .USub (.Constant (.int 1) k p1) p2)) p3) (.ref a) (.ref s4.heap.objs.size)) (EP X pins σ Q) X.xe { s4 with heap := s4.heap.push { cls := .type "slice", data := .fields #[vl, vu, vs] } }
  refine tail_any (ops := [.ref a, .ref s4.heap.objs.size]) ht.isList.typeIs (PySem.slot_list_getitem.lookup) ?_ (by with_unfolding_all rfl)
  refine wpAny_getItem_list_slice ht.isList (Heap.IsSliceOf.new _ vl vu vs) pl pu ps (by decide) ?_ (by rw [List.size_toArray]; rw [List.length_append] at hz; omega)
  obtain ⟨w1, hw1, rw1⟩ := r.get (i := xs.length + 1) (x := v1) (by rw [List.getElem?_append_right (by omega), show xs.length + 1 - xs.length = 1 by omega]; rfl)
  obtain ⟨w2, hw2, rw2⟩ := r.get (i := xs.length) (x := u1) (by rw [List.getElem?_append_right (by omega), Nat.sub_self]; rfl)
  rw [pick2 its xs.length w1 w2 hl2 hw1 hw2]
  refine ⟨.ref _, _, I5.laid (t' := s4.toks) (o := .lst [v1, u1]) (fun b ob q => Heap.get?_push_of_some _ q) (Nat.le_refl _) ?_, rfl, q _ (I5.hok.fresh (Nat.le_refl _))⟩
  exact ⟨by show 2 ≤ sizeLine; decide, _, 0, .cons rw1 (.cons rw2 .nil), Heap.get?_push_size _ rfl⟩
end
/-! ### deeds -/
theorem DS.step_deeds (s : DS) (p : Nat) : (s.step p).deeds = s.deeds ++ [⟨true, p, .str (DS.kindOf (s.stg p))⟩] := by
  have h4 := DS.stg_lt s p
  rcases (show s.stg p = 0 ∨ s.stg p = 1 ∨ s.stg p = 2 ∨ s.stg p = 3 by omega) with e | e | e | e
  · rw [DS.step0 e, e]; rfl
  · rw [DS.step1 e, e]; rfl
  · rw [DS.step2 e, e]; rfl
  · rw [DS.step3 e, e]; split <;> rfl
structure DS.DOk (s : DS) : Prop where
  hok : ∀ q x, s.hd q = some x → ∃ r, s.cm r = some x
  dcm : ∀ d ∈ s.deeds, d.stp = false → s.cm d.p = some d.x
  dst : ∀ d ∈ s.deeds, d.stp = true → ∃ k, k ≤ 3 ∧ d.x = .str (DS.kindOf k)
  dp : ∀ d ∈ s.deeds, d.p < 5
theorem DS.DOk.new (n : Nat) : (DS.new n).DOk := ⟨fun q x h => (by rw [DS.hd_new] at h; cases h), fun d h => absurd h (by simp [DS.new]), fun d h => absurd h (by simp [DS.new]), fun d h => absurd h (by simp [DS.new])⟩
theorem DS.DOk.come {s : DS} {p : Nat} {v : V} (h : s.DOk) (W : s.WF) (hp : p < s.lev.length) (hc : s.cm p = none) : (s.come p v).DOk := by
  have keep : ∀ r x, s.cm r = some x → (s.come p v).cm r = some x := fun r x hr => by
    rw [DS.cm_come, if_neg]
    · exact hr
    · rintro ⟨z, _⟩; rw [← z, hc] at hr; cases hr
  have e : (s.come p v).deeds = s.deeds ++ [⟨false, p, v⟩] := rfl
  have h5 := W.n5
  refine ⟨fun q x hq => ?_, fun d hd hs => ?_, fun d hd hs => ?_, fun d hd => ?_⟩
  · rw [DS.hd_come] at hq
    obtain ⟨r, hr⟩ := h.hok q x hq
    exact ⟨r, keep r x hr⟩
  · rw [e] at hd
    rcases List.mem_append.mp hd with hd | hd
    · exact keep _ _ (h.dcm d hd hs)
    · rw [List.mem_singleton] at hd; subst hd
      rw [DS.cm_come, if_pos ⟨rfl, by rw [W.lc]; exact hp⟩]
  · rw [e] at hd
    rcases List.mem_append.mp hd with hd | hd
    · exact h.dst d hd hs
    · rw [List.mem_singleton] at hd; subst hd; cases hs
  · rw [e] at hd
    rcases List.mem_append.mp hd with hd | hd
    · exact h.dp d hd
    · rw [List.mem_singleton] at hd; subst hd; show p < 5; omega
theorem DS.DOk.step {s : DS} {p : Nat} (h : s.DOk) (W : s.WF) (hc : s.cm p ≠ none) : (s.step p).DOk := by
  have hp := DS.lt_of_cm W hc
  have h5 := W.n5
  refine ⟨fun q x hq => ?_, fun d hd hs => ?_, fun d hd hs => ?_, fun d hd => ?_⟩
  · rw [DS.hd_step W hc] at hq
    split at hq
    · exact ⟨s.two, by rw [DS.cm_step]; exact hq⟩
    · obtain ⟨r, hr⟩ := h.hok q x hq
      exact ⟨r, by rw [DS.cm_step]; exact hr⟩
  · rw [DS.step_deeds] at hd
    rw [DS.cm_step]
    rcases List.mem_append.mp hd with hd | hd
    · exact h.dcm d hd hs
    · rw [List.mem_singleton] at hd; subst hd; cases hs
  · rw [DS.step_deeds] at hd
    rcases List.mem_append.mp hd with hd | hd
    · exact h.dst d hd hs
    · rw [List.mem_singleton] at hd; subst hd; exact ⟨_, DS.stg_lt s p, rfl⟩
  · rw [DS.step_deeds] at hd
    rcases List.mem_append.mp hd with hd | hd
    · exact h.dp d hd
    · rw [List.mem_singleton] at hd; subst hd; show p < 5; omega
theorem kind_cases {k : Nat} (h : k ≤ 3) : DS.kindOf k = "level" ∨ DS.kindOf k = "look" ∨ DS.kindOf k = "ask" := by
  rcases (show k = 0 ∨ k = 1 ∨ k = 2 ∨ k = 3 by omega) with e | e | e | e <;> subst e
  · exact .inl rfl
  · exact .inr (.inl rfl)
  · exact .inl rfl
  · exact .inr (.inr rfl)
theorem sm_kind {k : Nat} (h : k ≤ 3) : Sm 1 10 (.str (DS.kindOf k)) := by
  rcases kind_cases h with e | e | e <;> rw [e] <;> exact sm_word _ (by decide +kernel)
/-- a deed as data -/
def DD (d : Deed) (pd : PyData) : Prop := ∃ w x, pd = .tuple [.str w, .int (d.p : Nat), x]
theorem deeds_data {H : Hp} : ∀ ds : List Deed, (∀ d ∈ ds, (d.stp = false → Good H d.x) ∧ (d.stp = true → ∃ k, k ≤ 3 ∧ d.x = .str (DS.kindOf k)) ∧ d.p < 5) →
    ∃ pds : List PyData, (∀ (K : PySem.W.Frag) (H' : Hp) (dv : List V), TK H H' → Paired (DeedAt H') dv ds → DpAll K H' dv pds) ∧ (∀ d ∈ pds, Sm 5 70 d) ∧ Paired DD ds pds
  | [], _ => ⟨[], fun K H' dv g P => by cases P; exact .nil, fun d h => absurd h (by simp), .nil⟩
  | d :: ds, h => by
    obtain ⟨pds, h1, h2, h3⟩ := deeds_data ds fun e he => h e (List.mem_cons_of_mem _ he)
    obtain ⟨g0, g1, g2⟩ := h d List.mem_cons_self
    have smp : Sm 1 0 (.int (d.p : Nat)) := Sm.int (by omega) (by omega)
    cases hs : d.stp with
    | false =>
      obtain ⟨dx, vx, ox⟩ := g0 hs
      refine ⟨.tuple [.str "come", .int (d.p : Nat), dx] :: pds, fun K H' dv g P => ?_, fun e he => ?_, .cons ⟨_, _, rfl⟩ h3⟩
      · cases P with
        | cons a r =>
          obtain ⟨q, rfl, hq⟩ := a
          rw [hs] at hq
          exact .cons (.tup (.of hq) (.cons (.str _) (.cons (.int _) (.cons (vx.mono g).dp .nil)))) (h1 K H' _ g r)
      · rcases List.mem_cons.mp he with e' | e'
        · rw [e']
          exact (Sms.tup (.cons ((sm_word "come" (by decide +kernel)).mono (by decide : 1 ≤ 4) (Nat.le_refl 10)) (.cons (smp.mono (by decide) (Nat.le_refl 0)) (.cons ox.sm (Sms.nil (n := 0)))))).mono (by decide) (by decide)
        · exact h2 e e'
    | true =>
      obtain ⟨k, hk, ex⟩ := g1 hs
      refine ⟨.tuple [.str "step", .int (d.p : Nat), .str (DS.kindOf k)] :: pds, fun K H' dv g P => ?_, fun e he => ?_, .cons ⟨_, _, rfl⟩ h3⟩
      · cases P with
        | cons a r =>
          obtain ⟨q, rfl, hq⟩ := a
          rw [hs, ex] at hq
          exact .cons (.tup (.of hq) (.cons (.str _) (.cons (.int _) (.cons (.str _) .nil)))) (h1 K H' _ g r)
      · rcases List.mem_cons.mp he with e' | e'
        · rw [e']
          exact (Sms.tup (.cons ((sm_word "step" (by decide +kernel)).mono (by decide : 1 ≤ 4) (Nat.le_refl 10)) (.cons (smp.mono (by decide) (Nat.le_refl 0)) (.cons ((sm_kind hk).mono (by decide) (Nat.le_refl 10)) (Sms.nil (n := 0)))))).mono (by decide) (by decide)
        · exact h2 e e'
theorem eqv_players : ∀ {ds es : List Deed} {pd pe : List PyData}, Paired DD ds pd → Paired DD es pe → PyData.eqvAll pd pe = true → ds.map Deed.p = es.map Deed.p
  | _, _, _, _, .nil, .nil, _ => rfl
  | _, _, _, _, .nil, .cons _ _, h => by simp [PyData.eqvAll] at h
  | _, _, _, _, .cons _ _, .nil, h => by simp [PyData.eqvAll] at h
  | _, _, _, _, .cons a r, .cons b t, h => by
    obtain ⟨w, x, rfl⟩ := a
    obtain ⟨w', x', rfl⟩ := b
    rw [PyData.eqvAll, Bool.and_eq_true] at h
    have h1 := h.1
    simp only [PyData.eqv, PyData.eqvAll, Bool.and_eq_true] at h1
    have h2 := h1.2.1
    rw [List.map_cons, List.map_cons, eqv_players r t h.2]
    congr 1
    simp at h2
    omega
theorem DS.DOk.deeds {C : Addr} {H : Hp} {d : Addr} {s : DS} (h : s.DOk) (D : DoorAt C H d s) : ∀ x ∈ s.deeds, (x.stp = false → Good H x.x) ∧ (x.stp = true → ∃ k, k ≤ 3 ∧ x.x = .str (DS.kindOf k)) ∧ x.p < 5 := by
  intro x hx
  obtain ⟨dx', a, b, c, e, f, cv', hv', sv', dv', DD⟩ := D
  exact ⟨fun z => DD.good _ _ (h.dcm x hx z), h.dst x hx, h.dp x hx⟩
/-! ### (VALUE,) or None, as data -/
theorem opt_data {H : Hp} : ∀ m : List (Option V), (∀ x, some x ∈ m → Good H x) → ∃ ds : List PyData, (∀ (K : PySem.W.Frag) (H' : Hp) (cv : List V), TK H H' → Paired (One H') cv m → DpAll K H' cv ds) ∧ (∀ d ∈ ds, Sm 5 60 d) ∧ ds.length = m.length
  | [], _ => ⟨[], fun K H' cv g P => by cases P; exact .nil, fun d h => absurd h (by simp), rfl⟩
  | o :: m, h => by
    obtain ⟨ds, h1, h2, h3⟩ := opt_data m fun x hx => h x (List.mem_cons_of_mem _ hx)
    cases o with
    | none =>
      refine ⟨.none :: ds, fun K H' cv g P => ?_, fun d hd => ?_, by simp [h3]⟩
      · cases P with
        | cons a r => rw [show _ = V.non from a]; exact .cons .non (h1 K H' _ g r)
      · rcases List.mem_cons.mp hd with e | e
        · rw [e]; exact Sm.non.mono (by decide) (by decide)
        · exact h2 d e
    | some v =>
      obtain ⟨dv, vv, ov⟩ := h v List.mem_cons_self
      refine ⟨.tuple [dv] :: ds, fun K H' cv g P => ?_, fun d hd => ?_, by simp [h3]⟩
      · cases P with
        | cons a r => obtain ⟨q, rfl, hq⟩ := a; exact .cons (word_dp vv g hq) (h1 K H' _ g r)
      · rcases List.mem_cons.mp hd with e | e
        · rw [e]; exact word_data ov
        · exact h2 d e
/-! ### shown texts -/
theorem str_ext {a b : Str} (h : a.cps.toList = b.cps.toList) : a = b := by
  cases a; cases b; congr 1; exact Array.ext' h
theorem cpl (a b : Str) : (a ++ b).cps.toList = a.cps.toList ++ b.cps.toList := by rw [Str.cps_append]; simp
theorem textFrom_app : ∀ (as bs : List Str) (k : Nat) (acc : Str), textFrom k acc (as ++ bs) = textFrom (k + as.length) (textFrom k acc as) bs
  | [], bs, k, acc => rfl
  | a :: as, bs, k, acc => by
    show textFrom (k + 1) _ (as ++ bs) = _
    rw [textFrom_app as bs, List.length_cons, show k + 1 + as.length = k + (as.length + 1) by omega]
    rfl
def digit (p : Nat) : Nat := 48 + p
theorem int_text : ∀ p : Nat, p < 5 → (toString (p : Int) : Str).cps.toList = [digit p] := by decide +kernel
theorem pair_text {p : Nat} (hp : p < 5) (c : PyData) : ∃ r, (PyData.shown (.tuple [.int (p : Nat), c])).cps.toList = 40 :: digit p :: r := by
  refine ⟨?r, ?_⟩
  rotate_left
  · simp only [PyData.shown, PyData.shownAll, tupleText, Str.join, List.length_cons, List.length_nil]
    rw [cpl, cpl, cpl, cpl, int_text p hp]
    show [40] ++ ([digit p] ++ _ ++ _) ++ _ = _
    simp only [List.cons_append, List.nil_append, List.append_assoc]
    rfl
theorem shown_list (xs : List PyData) : PyData.shown (.list xs) = listText (PyData.shownAll xs) := by rw [PyData.shown]
theorem shownAll_app : ∀ xs ys : List PyData, PyData.shownAll (xs ++ ys) = PyData.shownAll xs ++ PyData.shownAll ys
  | [], ys => by simp [PyData.shownAll]
  | x :: xs, ys => by simp [PyData.shownAll, shownAll_app xs ys]
theorem textFrom2 (k : Nat) (acc a b : Str) : ∃ z, (textFrom k acc [a, b]).cps.toList = acc.cps.toList ++ (if k > 0 then [44, 32] else []) ++ a.cps.toList ++ z := by
  refine ⟨?z, ?_⟩
  rotate_left
  · show ((acc ++ _ ++ a) ++ _ ++ b).cps.toList = _
    rw [cpl, cpl, cpl, cpl]
    have : ((if k > 0 then ", " else "" : String) : Str).cps.toList = (if k > 0 then [44, 32] else []) := by split <;> decide +kernel
    rw [this, List.append_assoc]
/-- two lists of pairs that begin alike, and go on by other players -/
theorem shown_other {xs : List PyData} {p q : Nat} {c d : PyData} (hp : p < 5) (hq : q < 5) (h : p ≠ q) :
    PyData.shown (.list (xs ++ [.tuple [.int (p : Nat), c], .tuple [.int (q : Nat), d]])) ≠ PyData.shown (.list (xs ++ [.tuple [.int (q : Nat), d], .tuple [.int (p : Nat), c]])) := by
  intro e
  rw [shown_list, shown_list, shownAll_app, shownAll_app] at e
  unfold listText at e
  rw [textFrom_app, textFrom_app] at e
  have e2 := congrArg (fun z : Str => z.cps.toList) e
  simp only [cpl] at e2
  obtain ⟨z1, h1⟩ := textFrom2 (0 + (PyData.shownAll xs).length) (textFrom 0 "[" (PyData.shownAll xs)) (PyData.shown (.tuple [.int (p : Nat), c])) (PyData.shown (.tuple [.int (q : Nat), d]))
  obtain ⟨z2, h2⟩ := textFrom2 (0 + (PyData.shownAll xs).length) (textFrom 0 "[" (PyData.shownAll xs)) (PyData.shown (.tuple [.int (q : Nat), d])) (PyData.shown (.tuple [.int (p : Nat), c]))
  obtain ⟨r1, g1⟩ := pair_text hp c
  obtain ⟨r2, g2⟩ := pair_text hq d
  have s1 : PyData.shownAll [.tuple [.int (p : Nat), c], .tuple [.int (q : Nat), d]] = [PyData.shown (.tuple [.int (p : Nat), c]), PyData.shown (.tuple [.int (q : Nat), d])] := by simp [PyData.shownAll]
  have s2 : PyData.shownAll [.tuple [.int (q : Nat), d], .tuple [.int (p : Nat), c]] = [PyData.shown (.tuple [.int (q : Nat), d]), PyData.shown (.tuple [.int (p : Nat), c])] := by simp [PyData.shownAll]
  rw [s1, s2, h1, h2, g1, g2] at e2
  simp only [List.append_assoc] at e2
  have e3 := List.append_cancel_left (List.append_cancel_left e2)
  simp only [List.cons_append, List.cons.injEq, true_and] at e3
  have := e3.1
  unfold digit at this
  omega
theorem pr_imp' {α β : Type} {F G : α → β → Prop} : ∀ {l : List α} {m : List β}, Paired F l m → (∀ n ∈ l, ∀ y, F n y → G n y) → Paired G l m
  | _, _, .nil, _ => .nil
  | _, _, .cons a r, h => .cons (h _ List.mem_cons_self _ a) (pr_imp' r fun n hn => h n (List.mem_cons_of_mem _ hn))
def rListOf (K : PySem.W.Frag) : List V → Hp → VK → Prop := fun xs H Q => ∃ p ys, xs = [.ref p] ∧ (SqL K H p ys ∨ SqT K H p ys) ∧ ∀ l, H l = none → Q (.ref l) (upd H l (.lst ys))
theorem call_list_ofK {X : Cx} {K : PySem.W.Frag} (e : X.K = K := by rfl) : CallR X (.type "list") (rListOf K) := by subst e; exact call_list_of
/-! ### promises -/
def spCopy (C : Addr) : Sp := fun vs H Q _ => ∃ (d : Addr) (s : DS), vs = [.ref d] ∧ DoorAt C H d s ∧ ∀ e H', Same H H' → H e = none → DoorAt C H' e s → Q (.ref e) H'
def spDEq (C : Addr) : Sp := fun vs H Q _ => ∃ (d : Addr) (s : DS) (y : V), vs = [.ref d, y] ∧ DoorAt C H d s ∧ s.DOk ∧
  ((∃ e t, y = .ref e ∧ DoorAt C H e t ∧ t.DOk ∧ t.lev.length = s.lev.length ∧ ∀ b, (t.deeds = s.deeds → b = true) → (s.deeds.map Deed.p ≠ t.deeds.map Deed.p → b = false) → Q (.bl b) H) ∨ (∃ o kvs, y = .ref o ∧ H o = some (.dK kvs) ∧ Q (.bl false) H))
def spONext : Sp := fun vs H Q _ => ∃ (o : Addr) (L : List Addr) (p : Nat) (s : DS) (k : Int), vs = [.ref o, .int p] ∧ OwnAt H o L s k ∧ s.WF ∧ p < s.lev.length ∧ ∀ H', Same H H' → Q (optS (s.next p)) H'
def spOCopy : Sp := fun vs H Q _ => ∃ (o : Addr) (L : List Addr) (s : DS) (k : Int), vs = [.ref o] ∧ OwnAt H o L s k ∧ ∀ o' L' H', Same H H' → (∀ x ∈ L', H x = none) → OwnAt H' o' L' s k → Q (.ref o') H'
def spIsDoor (C : Addr) : Sp := fun vs H Q _ => ∃ (d o : Addr) (L : List Addr) (s : DS), vs = [.ref d, .ref o] ∧ DoorAt C H d s ∧ OwnAt H o L s (s.stps : Nat) ∧ s.DOk ∧ s.deeds.length < 100000 ∧ ∀ H', Same H H' → Q (.bl true) H'
/-! ### what was done -/
abbrev Done := Nat × Option V
def DoneAt (H : Hp) (x : V) (e : Done) : Prop := ∃ t c, x = .ref t ∧ H t = some (.tup [.int (e.1 : Nat), c]) ∧ e.1 < 5 ∧ match e.2 with
  | none => c = .non
  | some v => ∃ q, c = .ref q ∧ H q = some (.tup [v]) ∧ Good H v
theorem DoneAt.mono {H H' : Hp} (g : TK H H') {x : V} {e : Done} (h : DoneAt H x e) : DoneAt H' x e := by
  obtain ⟨p, o⟩ := e
  obtain ⟨t, c, h1, h2, h3, h4⟩ := h
  refine ⟨t, c, h1, g.t h2, h3, ?_⟩
  cases o with
  | none => exact h4
  | some v => obtain ⟨q, a, b, d⟩ := h4; exact ⟨q, a, g.t b, d.mono g⟩
def DS.does (s : DS) (e : Done) : DS := match e.2 with
  | none => s.step e.1
  | some v => s.come e.1 v
def DS.let_ (s : DS) (e : Done) : Prop := match e.2 with
  | none => s.cm e.1 ≠ none
  | some _ => s.cm e.1 = none ∧ e.1 < s.lev.length
def DS.run (s : DS) (l : List Done) : DS := l.foldl DS.does s
inductive Leg : DS → List Done → Prop
  | nil {s} : Leg s []
  | cons {s e l} : s.let_ e → Leg (s.does e) l → Leg s (e :: l)
section
variable {s : DS} {e f : Done} {l m : List Done}
theorem Leg.snoc : ∀ {l : List Done} {s : DS}, Leg s l → (s.run l).let_ e → Leg s (l ++ [e])
  | [], _, _, h => .cons h .nil
  | _ :: _, _, .cons a r, h => .cons a (Leg.snoc r h)
theorem Leg.take : ∀ {l m : List Done} {s : DS}, Leg s (l ++ m) → Leg s l ∧ Leg (s.run l) m
  | [], _, _, h => ⟨.nil, h⟩
  | _ :: _, _, _, .cons a r => ⟨.cons a (Leg.take r).1, (Leg.take r).2⟩
theorem Leg.app : ∀ {l m : List Done} {s : DS}, Leg s l → Leg (s.run l) m → Leg s (l ++ m)
  | [], _, _, _, h => h
  | _ :: _, _, _, .cons a r, h => .cons a (Leg.app r h)
theorem run_app : s.run (l ++ m) = (s.run l).run m := List.foldl_append
theorem len_does : (s.does e).lev.length = s.lev.length := by
  obtain ⟨p, o⟩ := e
  cases o with
  | none => exact DS.len_step
  | some v => rfl
theorem len_run : ∀ {l : List Done} {s : DS}, (s.run l).lev.length = s.lev.length
  | [], _ => rfl
  | e :: l, s => (len_run (l := l) (s := s.does e)).trans len_does
theorem WF_does (W : s.WF) (h : s.let_ e) : (s.does e).WF := by
  obtain ⟨p, o⟩ := e
  cases o with
  | none => exact W.step h
  | some v => exact W.come
theorem DOk_does (D : s.DOk) (W : s.WF) (h : s.let_ e) : (s.does e).DOk := by
  obtain ⟨p, o⟩ := e
  cases o with
  | none => exact D.step W h
  | some v => exact D.come W h.2 h.1
theorem both_run : ∀ {l : List Done} {s : DS}, Leg s l → s.WF → s.DOk → (s.run l).WF ∧ (s.run l).DOk
  | [], _, _, W, D => ⟨W, D⟩
  | _ :: _, _, .cons a r, W, D => by
    have h := both_run r (WF_does W a) (DOk_does D W a)
    exact h
theorem ps_does : (s.does e).deeds.map Deed.p = s.deeds.map Deed.p ++ [e.1] := by
  obtain ⟨p, o⟩ := e
  cases o with
  | none => show (s.step p).deeds.map Deed.p = _; rw [DS.step_deeds, List.map_append]; rfl
  | some v => show (s.come p v).deeds.map Deed.p = _; rw [show (s.come p v).deeds = s.deeds ++ [⟨false, p, v⟩] from rfl, List.map_append]; rfl
theorem ps_run : ∀ {l : List Done} {s : DS}, (s.run l).deeds.map Deed.p = s.deeds.map Deed.p ++ l.map Prod.fst
  | [], s => by simp [DS.run]
  | e :: l, s => by
    show ((s.does e).run l).deeds.map Deed.p = _
    rw [ps_run, ps_does]; simp
theorem cm_does (W : s.WF) (h : s.let_ e) (q : Nat) (hq : q ≠ e.1) : (s.does e).cm q = s.cm q := by
  obtain ⟨p, o⟩ := e
  cases o with
  | none => exact DS.cm_step q
  | some v =>
    show (s.come p v).cm q = _
    rw [DS.cm_come, if_neg]
    rintro ⟨z, _⟩; exact hq z.symm
theorem let_swap (W : s.WF) (he : s.let_ e) (hf : (s.does e).let_ f) (n : f.1 ≠ e.1) : s.let_ f ∧ (s.does f).let_ e := by
  have a : s.let_ f := by
    obtain ⟨q, o⟩ := f
    cases o with
    | none => show s.cm q ≠ none; rw [← cm_does W he q n]; exact hf
    | some v => exact ⟨by rw [← cm_does W he q n]; exact hf.1, by rw [← len_does (s := s) (e := e)]; exact hf.2⟩
  refine ⟨a, ?_⟩
  obtain ⟨p, o⟩ := e
  cases o with
  | none => show (s.does f).cm p ≠ none; rw [cm_does W a p (Ne.symm n)]; exact he
  | some v => exact ⟨by rw [cm_does W a p (Ne.symm n)]; exact he.1, by rw [len_does]; exact he.2⟩
theorem len_deeds_run : (s.run l).deeds.length = s.deeds.length + l.length := by
  have := congrArg List.length (ps_run (l := l) (s := s))
  simpa using this
end
def spAgain (C : Addr) (K : PySem.W.Frag) : Sp := fun vs H Q _ => ∃ (n : Nat) (dl : Addr) (xs : List V) (l : List Done), vs = [.int n, .ref dl] ∧ 1 ≤ n ∧ n ≤ 5 ∧ H dl = some (.lst xs) ∧ Paired (DoneAt H) xs l ∧ Leg (DS.new n) l ∧ l.length < 1000 ∧
  ∀ d H', Same H H' → H d = none → DoorAt C H' d ((DS.new n).run l) → Q (.ref d) H'
def spLDeed (C : Addr) : Sp := fun vs H Q _ => ∃ (pt d o dl : Addr) (L : List Addr) (s : DS) (m : Nat) (xs : List V), vs = [.ref pt, .ref d, .ref o, .ref dl] ∧ PotAt H pt m ∧ m < 800000 ∧ DoorAt C H d s ∧ OwnAt H o L s (s.stps : Nat) ∧ H dl = some (.lst xs) ∧ xs.length < 1000 ∧ s.deeds.length < 1000 ∧
  pt ∉ L ∧ pt ≠ d ∧ pt ≠ dl ∧ dl ∉ L ∧ dl ≠ d ∧ d ∉ L ∧
  ∀ (e : Done) (x : V) H', But (pt :: d :: dl :: L) H H' → PotAt H' pt (m + 100) → s.let_ e → DoorAt C H' d (s.does e) → OwnAt H' o L (s.does e) ((s.does e).stps : Nat) → H' dl = some (.lst (xs ++ [x])) → DoneAt H' x e → Q (.bl true) H'
theorem stps_step {s : DS} {p : Nat} : (s.step p).stps = s.stps + 1 := by
  unfold DS.stps
  rw [DS.step_deeds, List.filter_append, List.length_append]; rfl
theorem stps_come {s : DS} {p : Nat} {v : V} : (s.come p v).stps = s.stps := by
  unfold DS.stps
  rw [show (s.come p v).deeds = s.deeds ++ [⟨false, p, v⟩] from rfl, List.filter_append, List.length_append]; rfl
end Fp
/-! A stair of levels in the heap; promises -/
namespace Fp
open PySem PySem.Spec PyProof.Rows L2
def lfl (n : Int) (a b r e : Addr) : List (Str × V) := [("many", .int n), ("levels", .ref a), ("views", .ref b), ("run", .ref r), ("looking", .ref e)]
structure LC (K : PySem.W.Frag) (C : Addr) : Prop where
  cl : Cls K C
  nM : NoAttr K C "many"
  nL : NoAttr K C "levels"
  nV : NoAttr K C "views"
  nR : NoAttr K C "run"
  nK : NoAttr K C "looking"
section
variable {n : Int} {a b r e a' b' r' e' : Addr}
theorem l_many : (lfl n a b r e).lookup ("many" : Str) = some (.int n) := by kernel_rfl
theorem l_lev : (lfl n a b r e).lookup ("levels" : Str) = some (.ref a) := by kernel_rfl
theorem l_vw : (lfl n a b r e).lookup ("views" : Str) = some (.ref b) := by kernel_rfl
theorem l_run : (lfl n a b r e).lookup ("run" : Str) = some (.ref r) := by kernel_rfl
theorem l_lk : (lfl n a b r e).lookup ("looking" : Str) = some (.ref e) := by kernel_rfl
theorem lp_lev : putF "levels" (.ref a') (lfl n a b r e) = lfl n a' b r e := by kernel_rfl
theorem lp_vw : putF "views" (.ref b') (lfl n a b r e) = lfl n a b' r e := by kernel_rfl
theorem lp_run : putF "run" (.ref r') (lfl n a b r e) = lfl n a b r' e := by kernel_rfl
theorem lp_lk : putF "looking" (.ref e') (lfl n a b r e) = lfl n a b r e' := by kernel_rfl
theorem l_all : putF "looking" (.ref e) (putF "run" (.ref r) (putF "views" (.ref b) (putF "levels" (.ref a) (putF "many" (.int n) [])))) = lfl n a b r e := by kernel_rfl
theorem l_copy : putF "looking" (.ref e) (putF "run" (.ref r) (putF "views" (.ref b) (putF "levels" (.ref a) (lfl n a' b' r' e')))) = lfl n a b r e := by kernel_rfl
theorem ln_next : (lfl n a b r e).lookup ("next" : Str) = none := by kernel_rfl
theorem ln_step : (lfl n a b r e).lookup ("step" : Str) = none := by kernel_rfl
theorem ln_view : (lfl n a b r e).lookup ("view_from" : Str) = none := by kernel_rfl
theorem ln_copy : (lfl n a b r e).lookup ("copy" : Str) = none := by kernel_rfl
theorem ln_weave : (lfl n a b r e).lookup ("weave" : Str) = none := by kernel_rfl
end
def ViewAt (H : Hp) (x : V) : Option (List Nat) → Prop
  | none => x = .non
  | some l => ∃ p, x = .ref p ∧ TT H p (natV l)
theorem ViewAt.mono {H H' : Hp} (g : TK H H') {x : V} {o : Option (List Nat)} (h : ViewAt H x o) : ViewAt H' x o := by
  cases o with
  | none => exact h
  | some v => obtain ⟨p, e, q⟩ := h; exact ⟨p, e, g.tt q⟩
theorem ViewAt.is {H : Hp} {x : V} {o : Option (List Nat)} (h : ViewAt H x o) : decide (x = .non) = o.isNone := by
  cases o with
  | none => rw [show x = .non from h]; rfl
  | some v => obtain ⟨p, e, _⟩ := h; rw [e]; rfl
structure LvIn (K : PySem.W.Frag) (C : Addr) (H : Hp) (d : Addr) (s : LS) (dx a b r e : Addr) (vv rv : List V) : Prop where
  obj : H d = some (.ins C dx (lfl (s.n : Nat) a b r e))
  own : H dx = some (.own d)
  lev : TF H a (s.lev.map lvV)
  vw : TF H b vv
  vwP : Paired (ViewAt H) vv s.vw
  run : H r = some (.tup rv)
  runP : Paired (SD K H) rv s.run
  lk : TF H e (s.lk.map V.bl)
def LvAt (K : PySem.W.Frag) (C : Addr) (H : Hp) (d : Addr) (s : LS) : Prop := ∃ dx a b r e vv rv, LvIn K C H d s dx a b r e vv rv
section
variable {K : PySem.W.Frag} {C : Addr} {H H' : Hp} {d dx a b r e : Addr} {s : LS} {vv rv : List V} {S : List Addr}
theorem LvIn.mono (h : LvIn K C H d s dx a b r e vv rv) (g : TK H H') (g1 : ∀ o, H d = some o → H' d = some o) (g2 : H' dx = H dx) : LvIn K C H' d s dx a b r e vv rv :=
  ⟨g1 _ h.obj, by rw [g2]; exact h.own, g.f h.lev, g.f h.vw, pr_imp (fun _ _ => ViewAt.mono g) h.vwP, g.t h.run, SDs.mono h.runP g, g.f h.lk⟩
theorem LvIn.same (h : LvIn K C H d s dx a b r e vv rv) (g : Same H H') : LvIn K C H' d s dx a b r e vv rv := h.mono (.of g) (fun o q => g _ _ q) (by rw [g _ _ h.own]; exact h.own.symm)
theorem LvAt.same (h : LvAt K C H d s) (g : Same H H') : LvAt K C H' d s := by
  obtain ⟨dx, a, b, r, e, vv, rv, h⟩ := h
  exact ⟨dx, a, b, r, e, vv, rv, h.same g⟩
theorem LvAt.off (h : LvAt K C H d s) (g : But S H H') (tk : TK H H') (n : ∀ x ∈ S, x ≠ d ∧ H x ≠ some (.own d)) : LvAt K C H' d s := by
  obtain ⟨dx, a, b, r, e, vv, rv, h⟩ := h
  have nd : d ∉ S := fun m => (n d m).1 rfl
  have nx : dx ∉ S := fun m => (n dx m).2 h.own
  exact ⟨dx, a, b, r, e, vv, rv, h.mono tk (fun o q => g _ _ nd q) (by rw [g _ _ nx h.own]; exact h.own.symm)⟩
theorem LvAt.ob (h : LvAt K C H d s) : ∃ dx fs, H d = some (.ins C dx fs) ∧ fs.lookup ("next" : Str) = none ∧ fs.lookup ("step" : Str) = none ∧ fs.lookup ("copy" : Str) = none ∧ fs.lookup ("view_from" : Str) = none ∧ fs.lookup ("weave" : Str) = none := by
  obtain ⟨dx, a, b, r, e, vv, rv, h⟩ := h
  exact ⟨_, _, h.obj, ln_next, ln_step, ln_copy, ln_view, ln_weave⟩
theorem LvAt.tk (h : LvAt K C H d s) (g : But [d] H H') : TK H H' := TK.but g fun a ha z => by
  obtain ⟨dx, fs, e, _⟩ := h.ob
  rw [List.mem_singleton.mp ha, e] at z
  exact z
end
def DueAt (H : Hp) (y : V) : Option Due → Prop
  | none => y = .non
  | some (.wr l) => ∃ t, y = .ref t ∧ H t = some (.tup [.str "write", .int l])
  | some .look => ∃ t, y = .ref t ∧ H t = some (.tup [.str "look"])
def spChkMany : Sp := fun vs H Q _ => ∃ n : Nat, vs = [.int n] ∧ 1 ≤ n ∧ n ≤ 5 ∧ Q .non H
def spLInit (K : PySem.W.Frag) (C : Addr) : Sp := fun vs H Q _ => ∃ (d dx : Addr) (n : Nat), vs = [.ref d, .int n] ∧ 1 ≤ n ∧ n ≤ 5 ∧ H d = some (.ins C dx []) ∧ H dx = some (.own d) ∧ ∀ H', But [d] H H' → LvAt K C H' d (LS.new n) → Q .non H'
def spLNext (K : PySem.W.Frag) (C : Addr) : Sp := fun vs H Q _ => ∃ (d : Addr) (p : Nat) (s : LS), vs = [.ref d, .int p] ∧ LvAt K C H d s ∧ s.WF ∧ p < s.n ∧ ∀ y H', Same H H' → DueAt H' y (s.next p) → Q y H'
def spLView (K : PySem.W.Frag) (C : Addr) : Sp := fun vs H Q _ => ∃ (d : Addr) (p : Nat) (s : LS), vs = [.ref d, .int p] ∧ LvAt K C H d s ∧ s.WF ∧ p < s.n ∧ s.lv p ≠ none ∧ ∀ y H', Same H H' → ViewAt H' y (s.seen p) → Q y H'
def spLStep (K : PySem.W.Frag) (C : Addr) : Sp := fun vs H Q _ => ∃ (d : Addr) (p : Nat) (s : LS), vs = [.ref d, .int p] ∧ LvAt K C H d s ∧ s.WF ∧ p < s.n ∧ s.next p ≠ none ∧ s.run.length < 100000 ∧
  ∀ y dd H', But [d] H H' → LvAt K C H' d (s.step p) → (s.step p).run = s.run ++ [dd] → SD K H' y dd → Q y H'
def spLCopy (K : PySem.W.Frag) (C : Addr) : Sp := fun vs H Q _ => ∃ (d : Addr) (s : LS), vs = [.ref d] ∧ LvAt K C H d s ∧ s.WF ∧ ∀ e H', Same H H' → H e = none → LvAt K C H' e s → Q (.ref e) H'
/-! ### data -/
theorem sm_write {p : Nat} {l : Int} (hp : p < 5) (h1 : 1 ≤ l) (h5 : l ≤ 5) : Sm 4 60 (.tuple [.int (p : Nat), .str "write", .int l]) :=
  (Sms.tup (.cons (Sm.int (i := (p : Nat)) (by omega) (by omega)) (.cons ((sm_word "write" (by decide +kernel)).mono (Nat.le_refl 1) (Nat.le_refl 10)) (.cons (Sm.int (i := l) (by omega) (by omega)) (Sms.nil (n := 0)))))).mono (by decide) (by decide)
theorem sm_look {p : Nat} {l : List Lv} (hp : p < 5) (hl : l.length ≤ 5) (h : ∀ x, some x ∈ l → 1 ≤ x ∧ x ≤ 5) : Sm 4 60 (.tuple [.int (p : Nat), .str "look", .tuple (l.map lvD)]) := by
  have sl : Sms 1 5 (l.map lvD) := by
    refine (Sms.all (k := 1) (n := 0) fun d hd => ?_).mono (Nat.le_refl _) (by rw [List.length_map]; omega)
    obtain ⟨x, hx, rfl⟩ := List.mem_map.mp hd
    cases x with
    | none => exact Sm.non
    | some i => have := h i hx; exact Sm.int (by omega) (by omega)
  exact (Sms.tup (.cons ((Sm.int (i := (p : Nat)) (by omega) (by omega)).mono (by decide : 1 ≤ 2) (Nat.le_refl 0)) (.cons ((sm_word "look" (by decide +kernel)).mono (by decide : 1 ≤ 2) (Nat.le_refl 10)) (.cons sl.tup (Sms.nil (n := 0)))))).mono (by decide) (by decide)
def LS.ROk (s : LS) : Prop := ∀ d ∈ s.run, Sm 4 60 d
theorem LS.ROk.new (n : Nat) : (LS.new n).ROk := fun d h => absurd h (by simp [LS.new])
theorem LS.WF.levs {s : LS} (W : s.WF) : s.lev.length ≤ 5 ∧ ∀ x, some x ∈ s.lev → 1 ≤ x ∧ x ≤ 5 := ⟨W.n5, fun x hx => by
  obtain ⟨q, hq⟩ := mem_getD.mp hx
  have := W.rng q x hq
  have := W.n5
  omega⟩
theorem LS.step_run {s : LS} {p : Nat} (W : s.WF) (hp : p < s.n) (h : s.next p ≠ none) : ∃ dd, (s.step p).run = s.run ++ [dd] ∧ Sm 4 60 dd := by
  have n5 := W.n5
  have Ws := W.step hp
  unfold LS.step at Ws ⊢
  cases e : s.next p with
  | none => exact absurd e h
  | some du =>
    rw [e] at Ws
    cases du with
    | wr l =>
      have := Ws.rng p l (by show (s.wrote p l).lv p = some l; rw [LS.lv_wrote hp, if_pos rfl])
      rw [show LS.n (match some (Due.wr l) with | none => s | some (.wr l) => s.wrote p l | some .look => s.looked p) = s.n from LS.n_wrote] at this
      exact ⟨_, rfl, sm_write (by omega) this.1 (by omega)⟩
    | look => exact ⟨_, rfl, sm_look (by omega) W.levs.1 W.levs.2⟩
theorem LS.ROk.step {s : LS} {p : Nat} (R : s.ROk) (W : s.WF) (hp : p < s.n) (h : s.next p ≠ none) : (s.step p).ROk := by
  obtain ⟨dd, e, sm⟩ := LS.step_run W hp h
  intro d hd
  rw [e] at hd
  rcases List.mem_append.mp hd with z | z
  · exact R d z
  · rw [List.mem_singleton.mp z]; exact sm
/-- views as data -/
def vwD : Option (List Nat) → PyData
  | none => .none
  | some l => .tuple (l.map fun (p : Nat) => PyData.int (p : Int))
theorem vw_dp {K : PySem.W.Frag} {H : Hp} : ∀ {vv : List V} {m : List (Option (List Nat))}, Paired (ViewAt H) vv m → DpAll K H vv (m.map vwD)
  | _, _, .nil => .nil
  | _, _, .cons (b := o) a r => by
    cases o with
    | none => rw [show _ = V.non from a]; exact .cons .non (vw_dp r)
    | some l => obtain ⟨p, rfl, q⟩ := a; exact .cons (.tup q.sq (natV_dp l)) (vw_dp r)
theorem vw_sm {s : LS} (W : s.WF) : ∀ d ∈ s.vw.map vwD, Sm 2 5 d := by
  intro d hd
  obtain ⟨o, ho, rfl⟩ := List.mem_map.mp hd
  have n5 := W.n5
  cases o with
  | none => exact Sm.non.mono (by decide) (by decide)
  | some v =>
    obtain ⟨q, hq⟩ := mem_getD.mp ho
    obtain ⟨l, h1, h2, h3⟩ := W.vil q v hq
    have := W.rng q _ h1
    rw [h2]
    refine natV_sm (fun p hp => ?_) (by omega)
    have := (LS.mem_below.mp hp).1
    omega
end Fp
/-! o.m(k = v, ..); players by other numbers -/
namespace Fp
open PySem PySem.Spec PyProof.Rows L2
/-! ### methods called by keywords alone -/
def tMethKW (C : Addr) (m : Str) (n : Nat) (sp : Sp) (gV : List V → List V → List V) (E : XK) (ta : TE) (tk : TA) : TE := fun σ H Q => ta σ H fun x H1 => ∃ a dx fs, x = .ref a ∧ H1 a = some (.ins C dx fs) ∧ fs.lookup m = none ∧ tk σ H1 fun zs H2 => zs.length = n ∧ sp (gV [.ref a] zs) H2 Q E
structure MdK (P : Program) (w : World) (K : PySem.W.Frag) (mg : Str → Option Value) (base : Heap) (CX : CXT) (C : Addr) (m : Str) (k : Nat) (ps ks : List Str) (g : List Value → List Value → List Value) (gV : List V → List V → List V) (sp : Sp) : Prop where
  ex : ∃ (f : Addr) (fd : FuncData), Meth K C m f ∧ KBn K fd ps 1 ks g gV ∧ FnOk P w K mg base CX k f fd ps sp
section
variable {X : Cx} {k : Nat} {C : Addr} {ps ks : List Str} {sp : Sp} {m : Str} {pos apos : Pos} {o : Expr} {kws : List Keyword} {ta : TE} {tk : TA} {g : List Value → List Value → List Value} {gV : List V → List V → List V}
theorem pe_mdK {pl : Sem Bool} (he : PE X o ta) (c : Cls X.K C) (M : MdK X.prog X.w X.K X.mg X.base CX0 C m k ps ks g gV sp) (hr : Room k X.A) (hkw : PK X kws tk)
    (hall : (backToKw pos (keywordEach kws X.env)).all (·.1.isSome) = true := by rfl) (hks : (backToKw pos (keywordEach kws X.env)).filterMap (·.1) = ks := by rfl)
    (hpl : ((backTo pos (starEach [] X.env)).any (·.1) || (backToKw pos (keywordEach kws X.env)).any (·.1.isNone)) = false := by rfl)
    (ht : eval (.Call (.Attribute o m apos) [] kws pos) X.env = (do
      let ov ← eval o X.env
      standAt apos.atName
      let (f, first) ← holding [ov] (getMethod ov m pl)
      callWith pos f first (backTo pos (starEach [] X.env)) (backToKw pos (keywordEach kws X.env))) := by rfl) :
    PE X (.Call (.Attribute o m apos) [] kws pos) (tMethKW C m ks.length sp gV E0 ta tk) := by
  obtain ⟨f, fd, hm, hb, F⟩ := M.ex
  refine ⟨fun pins s σ H Q I h => ?_⟩
  refine PySem.W.methodCall_KW (pl := pl) (thn (he.run pins s σ H _ I h) fun u s1 ⟨x, H1, I1, rx, a, dx, fs, ex, ea, l, q⟩ => ?_) ht
  subst ex
  obtain rfl : u = Value.ref a := rx
  refine getmeth_ok I1 ea c hm l ?_
  refine PySem.W.callWith_KW0 (first := [.ref a]) (h₀ := X.base) I.ok.mod.kin hm.kp hall ?_ hpl
  refine thn (hkw.run pos pins s1 σ H1 _ I1 q) fun ws s2 ⟨zs, H2, I2, rz, l2, q2⟩ => ⟨I2.kIn, ?_⟩
  rw [hks]
  have r1 : Vals [V.ref a] [Value.ref a] := .cons rfl .nil
  have r2 := hb.rel r1 rz
  refine wpAny_call (codeAny_mono (F.run X.A X.stack s2 H2 ⟨[.ref a], ks.zip ws⟩ (g [.ref a] ws) (gV [.ref a] zs) Q E0 hr I2.env0 (hb.to s2 [.ref a] ws I2.kIn rfl (rz.length.symm.trans l2)) r2 q2) fun r s' hq => ?_)
  cases r with
  | error e => exact pass0 pins σ H2 s2 e s' I2 hq
  | ok fl =>
    cases fl with
    | ret u => exact I2.after hq
    | next => exact False.elim hq
    | brk => exact False.elim hq
    | cont => exact False.elim hq
end
/-! ### rows by other numbers -/
structure Nu (nu : List Nat) : Prop where
  lt : ∀ q ∈ nu, q < 5
  up : nu.Pairwise (· < ·)
def ledF {β : Type} : List β → List Nat → List β → List β
  | x :: xs, q :: nu, acc => ledF xs nu (acc.set q x)
  | _, _, acc => acc
def ledL {α : Type} (nu : List Nat) (xs : List (Option α)) : List (Option α) := ledF xs nu (List.replicate 5 none)
theorem led_snoc {β : Type} {x : β} {q : Nat} : ∀ {xs : List β} {nu : List Nat} {acc : List β}, nu[xs.length]? = some q → ledF (xs ++ [x]) nu acc = (ledF xs nu acc).set q x
  | [], [], acc, h => by cases h
  | [], r :: nu, acc, h => by cases h; cases nu <;> rfl
  | y :: ys, [], acc, h => by cases h
  | y :: ys, r :: nu, acc, h => by
    show ledF (ys ++ [x]) nu (acc.set r y) = (ledF ys nu (acc.set r y)).set q x
    exact led_snoc (by simpa using h)
theorem led_len {β : Type} : ∀ (xs : List β) (nu : List Nat) (acc : List β), (ledF xs nu acc).length = acc.length
  | [], nu, acc => by cases nu <;> rfl
  | x :: xs, [], acc => rfl
  | x :: xs, q :: nu, acc => by show (ledF xs nu _).length = _; rw [led_len xs nu]; simp
theorem led_map {β γ : Type} (f : β → γ) : ∀ (xs : List β) (nu : List Nat) (acc : List β), (ledF xs nu acc).map f = ledF (xs.map f) nu (acc.map f)
  | [], nu, acc => by cases nu <;> rfl
  | x :: xs, [], acc => rfl
  | x :: xs, q :: nu, acc => by
    show (ledF xs nu _).map f = ledF (xs.map f) nu ((acc.map f).set q (f x))
    rw [led_map f xs nu, List.map_set]
theorem led_pair {β γ : Type} {F : β → γ → Prop} : ∀ {xs : List β} {ys : List γ} {nu : List Nat} {acc : List β} {bcc : List γ}, Paired F xs ys → Paired F acc bcc → Paired F (ledF xs nu acc) (ledF ys nu bcc)
  | _, _, nu, _, _, .nil, h => by cases nu <;> exact h
  | _, _, [], _, _, .cons _ _, h => h
  | _, _, q :: nu, _, _, .cons a r, h => led_pair (nu := nu) r (pr_set a q h)
theorem ledL_len {α : Type} {nu : List Nat} {xs : List (Option α)} : (ledL nu xs).length = 5 := by unfold ledL; rw [led_len]; simp
section
variable {nu : List Nat}
theorem Nu.inj (N : Nu nu) {p p' q : Nat} (h : nu[p]? = some q) (h' : nu[p']? = some q) : p = p' := by
  have a := List.getElem?_eq_some_iff.mp h
  have b := List.getElem?_eq_some_iff.mp h'
  obtain ⟨a1, a2⟩ := a
  obtain ⟨b1, b2⟩ := b
  have up := List.pairwise_iff_getElem.mp N.up
  rcases Nat.lt_trichotomy p p' with h | h | h
  · have := up p p' a1 b1 h; omega
  · exact h
  · have := up p' p b1 a1 h; omega
theorem Nu.mono (N : Nu nu) {p p' q q' : Nat} (h : nu[p]? = some q) (h' : nu[p']? = some q') : p < p' ↔ q < q' := by
  obtain ⟨a1, a2⟩ := List.getElem?_eq_some_iff.mp h
  obtain ⟨b1, b2⟩ := List.getElem?_eq_some_iff.mp h'
  have up := List.pairwise_iff_getElem.mp N.up
  constructor
  · intro z; have := up p p' a1 b1 z; omega
  · intro z
    rcases Nat.lt_trichotomy p p' with h | h | h
    · exact h
    · subst h; omega
    · have := up p' p b1 a1 h; omega
theorem Nu.five (N : Nu nu) {p q : Nat} (h : nu[p]? = some q) : q < 5 := N.lt q (List.mem_of_getElem? h)
theorem led_at {α : Type} (N : Nu nu) {xs : List (Option α)} (hl : xs.length = nu.length) : ∀ i, i ≤ xs.length → (∀ p q, p < i → nu[p]? = some q → (ledL nu (xs.take i)).getD q none = xs.getD p none) ∧ (∀ q, (∀ p, p < i → nu[p]? ≠ some q) → (ledL nu (xs.take i)).getD q none = none)
  | 0, _ => ⟨fun p q h => absurd h (by omega), fun q _ => by
    rw [List.take_zero]
    show (ledF [] nu (List.replicate 5 none)).getD q none = none
    have : ledF ([] : List (Option α)) nu (List.replicate 5 none) = List.replicate 5 none := by cases nu <;> rfl
    rw [this]; exact DS.rep_none 5 q⟩
  | i + 1, hi => by
    obtain ⟨h1, h2⟩ := led_at N hl i (by omega)
    have hx : xs[i]? = some xs[i] := List.getElem?_eq_getElem (by omega)
    obtain ⟨q0, hq0⟩ : ∃ q, nu[i]? = some q := ⟨nu[i], List.getElem?_eq_getElem (by omega)⟩
    have e : ledL nu (xs.take (i + 1)) = (ledL nu (xs.take i)).set q0 xs[i] := by
      rw [List.take_add_one, hx]
      exact led_snoc (by rw [List.length_take, Nat.min_eq_left (by omega)]; exact hq0)
    have q5 := N.five hq0
    rw [e]
    refine ⟨fun p q hp hq => ?_, fun q hq => ?_⟩
    · rw [getD_set, ledL_len]
      by_cases z : q0 = q
      · rw [if_pos ⟨z, q5⟩]
        subst z
        have := N.inj hq hq0
        subst this
        exact (getD_of hx).symm
      · rw [if_neg (fun w => z w.1)]
        refine h1 p q ?_ hq
        by_cases pi : p = i
        · subst pi; rw [hq0] at hq; exact absurd (Option.some.inj hq) z
        · omega
    · rw [getD_set, if_neg]
      · exact h2 q fun p hp => hq p (by omega)
      · rintro ⟨z, _⟩; exact hq i (by omega) (by rw [hq0, z])
theorem ledL_at {α : Type} (N : Nu nu) {xs : List (Option α)} (hl : xs.length = nu.length) {p q : Nat} (h : nu[p]? = some q) : (ledL nu xs).getD q none = xs.getD p none := by
  have := (led_at N hl xs.length (Nat.le_refl _)).1 p q (by rw [hl]; exact get_lt h) h
  rwa [List.take_length] at this
theorem ledL_off {α : Type} (N : Nu nu) {xs : List (Option α)} (hl : xs.length = nu.length) {q : Nat} (h : q ∉ nu) : (ledL nu xs).getD q none = none := by
  have := (led_at N hl xs.length (Nat.le_refl _)).2 q (fun p _ z => h (List.mem_of_getElem? z))
  rwa [List.take_length] at this
theorem mem_led {α : Type} (N : Nu nu) {xs : List (Option α)} (hl : xs.length = nu.length) (x : α) : some x ∈ ledL nu xs ↔ some x ∈ xs := by
  rw [mem_getD, mem_getD]
  constructor
  · rintro ⟨q, hq⟩
    by_cases z : q ∈ nu
    · obtain ⟨p, hp⟩ := List.getElem?_of_mem z
      exact ⟨p, by rw [← ledL_at N hl hp]; exact hq⟩
    · rw [ledL_off N hl z] at hq; cases hq
  · rintro ⟨p, hp⟩
    have hlt := (getD_none_of hp).1
    have : nu[p]? = some nu[p] := List.getElem?_eq_getElem (by omega)
    exact ⟨nu[p], by rw [ledL_at N hl this]; exact hp⟩
end
theorem ext_getD {α : Type} {l m : List (Option α)} (h : l.length = m.length) (e : ∀ q, l.getD q none = m.getD q none) : l = m := by
  refine List.ext_getElem? fun q => ?_
  by_cases hq : q < l.length
  · have := e q
    rw [getD_at hq, getD_at (by omega), this]
  · rw [List.getElem?_eq_none (by omega), List.getElem?_eq_none (by omega)]
theorem sorted_ext : ∀ {l m : List Nat}, l.Pairwise (· < ·) → m.Pairwise (· < ·) → (∀ x, x ∈ l ↔ x ∈ m) → l = m
  | [], [], _, _, _ => rfl
  | [], b :: m, _, _, h => absurd ((h b).mpr List.mem_cons_self) (by simp)
  | a :: l, [], _, _, h => absurd ((h a).mp List.mem_cons_self) (by simp)
  | a :: l, b :: m, hl, hm, h => by
    obtain ⟨a1, a2⟩ := List.pairwise_cons.mp hl
    obtain ⟨b1, b2⟩ := List.pairwise_cons.mp hm
    have eab : a = b := by
      rcases List.mem_cons.mp ((h a).mp List.mem_cons_self) with e | e
      · exact e
      · rcases List.mem_cons.mp ((h b).mpr List.mem_cons_self) with e' | e'
        · exact e'.symm
        · have := b1 a e; have := a1 b e'; omega
    subst eab
    congr 1
    refine sorted_ext a2 b2 fun x => ?_
    constructor
    · intro hx
      rcases List.mem_cons.mp ((h x).mp (List.mem_cons_of_mem _ hx)) with e | e
      · have := a1 x hx; omega
      · exact e
    · intro hx
      rcases List.mem_cons.mp ((h x).mpr (List.mem_cons_of_mem _ hx)) with e | e
      · have := b1 x hx; omega
      · exact e
/-! ### who can be told next -/
namespace DS
def cameL (s : DS) : List Nat := (List.range s.lev.length).filter fun p => (s.cm p).isSome
def readyL (s : DS) : List Nat := s.held.filter fun p => s.won p
def minN (a : Nat) (l : List Nat) : Nat := l.foldl min a
def wins (s : DS) : List Nat := if some 2 ∈ s.lev then [minN s.two s.readyL] else match s.readyL with
  | [] => s.cameL
  | r :: _ => (s.cameL.filter fun p => decide (p < r) && (s.sn p).isNone) ++ [r]
end DS
theorem minN_spec : ∀ (l : List Nat) (a : Nat), DS.minN a l ∈ a :: l ∧ ∀ x ∈ a :: l, DS.minN a l ≤ x
  | [], a => ⟨by simp [DS.minN], fun x hx => by rw [List.mem_singleton.mp hx]; exact Nat.le_refl _⟩
  | b :: l, a => by
    obtain ⟨h1, h2⟩ := minN_spec l (min a b)
    have e : DS.minN a (b :: l) = DS.minN (min a b) l := rfl
    rw [e]
    refine ⟨?_, fun x hx => ?_⟩
    · rcases List.mem_cons.mp h1 with z | z
      · rw [z]
        rcases Nat.le_total a b with w | w
        · rw [Nat.min_eq_left w]; simp
        · rw [Nat.min_eq_right w]; simp
      · simp [z]
    · have hm := h2 (min a b) List.mem_cons_self
      rcases List.mem_cons.mp hx with z | z
      · rw [z]; exact Nat.le_trans hm (Nat.min_le_left _ _)
      · rcases List.mem_cons.mp z with z | z
        · rw [z]; exact Nat.le_trans hm (Nat.min_le_right _ _)
        · exact h2 x (List.mem_cons_of_mem _ z)
theorem minN_of {a m : Nat} {l : List Nat} (h1 : m ∈ a :: l) (h2 : ∀ x ∈ a :: l, m ≤ x) : DS.minN a l = m := by
  obtain ⟨a1, a2⟩ := minN_spec l a
  exact Nat.le_antisymm (a2 m h1) (h2 _ a1)
def dedup (l : List Nat) : List Nat := l.foldl (fun acc x => if x ∈ acc then acc else acc ++ [x]) []
theorem dedup_snoc (l : List Nat) (x : Nat) : dedup (l ++ [x]) = if x ∈ dedup l then dedup l else dedup l ++ [x] := by
  unfold dedup; rw [List.foldl_append]; rfl
theorem take_last {l : List Nat} {n : Nat} (h : l.length = n + 1) : l = l.take n ++ [l[n]] := by
  conv => lhs; rw [← List.take_append_drop n l]
  congr 1
  rw [List.drop_eq_getElem_cons (by omega)]
  congr 1
  exact List.drop_eq_nil_of_le (by omega)
theorem dedup_len : ∀ (n : Nat) (l : List Nat), l.length = n → (dedup l).length ≤ n
  | 0, l, h => by rw [List.length_eq_zero_iff.mp h]; decide
  | n + 1, l, h => by
    have e := take_last h
    rw [e, dedup_snoc]
    have ih := dedup_len n (l.take n) (by rw [List.length_take]; omega)
    split
    · omega
    · rw [List.length_append]; show _ + 1 ≤ _; omega
theorem dedup_mem : ∀ (n : Nat) (l : List Nat), l.length = n → ∀ x ∈ dedup l, x ∈ l
  | 0, l, h => by rw [List.length_eq_zero_iff.mp h]; simp [dedup]
  | n + 1, l, h => by
    have e := take_last h
    rw [e, dedup_snoc]
    have ih := dedup_mem n (l.take n) (by rw [List.length_take]; omega)
    intro x hx
    split at hx
    · exact List.mem_append_left _ (ih x hx)
    · rcases List.mem_append.mp hx with z | z
      · exact List.mem_append_left _ (ih x z)
      · exact List.mem_append_right _ z
def spWinG (C : Addr) : Sp := fun vs H Q _ => ∃ (d : Addr) (s : DS), vs = [.ref d] ∧ DoorAt C H d s ∧ ∀ (l : Addr) H', Same H H' → H l = none → H' l = some (.lst (natV s.wins)) → Q (.ref l) H'
def spMayG (C : Addr) : Sp := fun vs H Q _ => ∃ (d : Addr) (s : DS) (cod : Nat → V) (dat : Nat → PyData) (cs : Nat → Nat), vs = [.ref d] ∧ DoorAt C H d s ∧ (∀ p v, s.cm p = some v → v = cod (cs p)) ∧ (∀ p, VAt H (cod (cs p)) (dat (cs p)) ∧ VOk 3 (dat (cs p))) ∧
  (∀ p q, PyData.eqv (dat (cs p)) (dat (cs q)) = decide (cs p = cs q)) ∧ ∀ t H', Same H H' → H' t = some (.tup ((dedup (s.wins.map cs)).map cod)) → Q (.ref t) H'
theorem wins_mem {s : DS} (W : s.WF) {p : Nat} (h : p ∈ s.wins) : p < s.lev.length ∧ s.cm p ≠ none := by
  have hheld : ∀ p ∈ s.held, p < s.lev.length ∧ s.lv p = some 1 := fun p hp => by
    have := List.mem_filter.mp hp
    exact ⟨List.mem_range.mp this.1, of_decide_eq_true this.2⟩
  have hr : ∀ p ∈ s.readyL, p < s.lev.length ∧ s.cm p ≠ none := fun p hp => by
    have := hheld p (List.mem_filter.mp hp).1
    exact ⟨this.1, W.cmv p (by rw [this.2]; simp)⟩
  have hc : ∀ p ∈ s.cameL, p < s.lev.length ∧ s.cm p ≠ none := fun p hp => by
    have := List.mem_filter.mp hp
    refine ⟨List.mem_range.mp this.1, fun z => ?_⟩
    rw [z] at this; exact absurd this.2 (by simp)
  unfold DS.wins at h
  split at h
  · rename_i h2
    rw [List.mem_singleton.mp h]
    obtain ⟨h1, _⟩ := minN_spec s.readyL s.two
    rcases List.mem_cons.mp h1 with z | z
    · rw [z]
      obtain ⟨m1, m2, _⟩ := DS.two_lev (mem_getD.mp h2)
      exact ⟨m1, W.cmv _ (by rw [m2]; simp)⟩
    · exact hr _ z
  · split at h
    · exact hc p h
    · rename_i r rs e
      rcases List.mem_append.mp h with z | z
      · exact hc p (List.mem_filter.mp z).1
      · rw [List.mem_singleton.mp z]; exact hr r (by rw [e]; exact List.mem_cons_self)
theorem wins_len {s : DS} (W : s.WF) : s.wins.length ≤ 6 := by
  have h5 := W.n5
  have hc : s.cameL.length ≤ 5 := by
    have := List.length_filter_le (fun p => (s.cm p).isSome) (List.range s.lev.length)
    rw [List.length_range] at this
    unfold DS.cameL; omega
  unfold DS.wins
  split
  · show 1 ≤ 6; decide
  · split
    · omega
    · rename_i r _ _
      rw [List.length_append]
      have := List.length_filter_le (fun p => decide (p < r) && (s.sn p).isNone) s.cameL
      show _ + 1 ≤ 6
      omega
/-! ### two doors, the one by other numbers -/
structure RelD (nm : V → V) (nu : List Nat) (s t : DS) : Prop where
  N : Nu nu
  ls : s.lev.length = nu.length
  lt : t.lev.length = 5
  Ws : s.WF
  Wt : t.WF
  lv : ∀ p q, nu[p]? = some q → t.lv q = s.lv p
  cm : ∀ p q, nu[p]? = some q → t.cm q = (s.cm p).map nm
  sn : ∀ p q, nu[p]? = some q → t.sn q = (s.sn p).map (ledL nu)
  hd : ∀ p q, nu[p]? = some q → t.hd q = (s.hd p).map nm
  offC : ∀ q, q ∉ nu → t.cm q = none
  offH : ∀ q, q ∉ nu → t.hd q = none
  snl : ∀ p l, s.sn p = some l → l.length = nu.length
  st : t.stps = s.stps
def mapT (nm : V → V) (nu : List Nat) : Told → Told
  | .level i => .level i
  | .look l => .look (ledL nu l)
  | .wait => .wait
  | .word v => .word (nm v)
section
variable {nm : V → V} {nu : List Nat} {s t : DS} {p q : Nat} {v : V}
theorem RelD.new {n : Nat} (N : Nu nu) (h1 : 1 ≤ n) (h5 : n ≤ 5) (hl : nu.length = n) : RelD nm nu (DS.new n) (DS.new 5) := by
  refine ⟨N, by simp [DS.new, hl], by simp [DS.new], .new h1 h5, .new (by decide) (by decide), ?_, ?_, ?_, ?_, ?_, ?_, ?_, rfl⟩
  · intro p q _; rw [DS.lv_new, DS.lv_new]
  · intro p q _; rw [DS.cm_new, DS.cm_new]; rfl
  · intro p q _; rw [DS.sn_new, DS.sn_new]; rfl
  · intro p q _; rw [DS.hd_new, DS.hd_new]; rfl
  · intro q _; exact DS.cm_new _ _
  · intro q _; exact DS.hd_new _ _
  · intro p l h; rw [DS.sn_new] at h; cases h
theorem RelD.offL (R : RelD nm nu s t) (h : q ∉ nu) : t.lv q = none := by
  cases e : t.lv q with
  | none => rfl
  | some x => exact absurd (R.offC q h) (R.Wt.cmv q (by rw [e]; simp))
theorem RelD.offS (R : RelD nm nu s t) (h : q ∉ nu) : t.sn q = none := by
  cases e : t.sn q with
  | none => rfl
  | some x => exact absurd (R.offL h) (R.Wt.snv q (by rw [e]; simp))
theorem RelD.lev (R : RelD nm nu s t) : t.lev = ledL nu s.lev := by
  refine ext_getD (by rw [R.lt, ledL_len]) fun q => ?_
  by_cases h : q ∈ nu
  · obtain ⟨p, hp⟩ := List.getElem?_of_mem h
    rw [ledL_at R.N R.ls hp]; exact R.lv p q hp
  · rw [ledL_off R.N R.ls h]; exact R.offL h
theorem RelD.heard (R : RelD nm nu s t) : t.heard = ledL nu (s.heard.map (Option.map nm)) := by
  have hl : (s.heard.map (Option.map nm)).length = nu.length := by rw [List.length_map, R.Ws.lh, R.ls]
  refine ext_getD (by rw [R.Wt.lh, R.lt, ledL_len]) fun q => ?_
  by_cases h : q ∈ nu
  · obtain ⟨p, hp⟩ := List.getElem?_of_mem h
    rw [ledL_at R.N hl hp]
    have e : (s.heard.map (Option.map nm)).getD p none = (s.hd p).map nm := by
      rw [List.getD_eq_getElem?_getD, List.getElem?_map]
      unfold DS.hd
      rw [List.getD_eq_getElem?_getD]
      cases s.heard[p]? <;> rfl
    rw [e]; exact R.hd p q hp
  · rw [ledL_off R.N hl h]; exact R.offH q h
theorem RelD.stg (R : RelD nm nu s t) (h : nu[p]? = some q) : t.stg q = s.stg p := by
  unfold DS.stg
  rw [R.lv p q h, R.sn p q h]
  unfold DS.stgOf
  cases s.sn p <;> rfl
theorem RelD.mem (R : RelD nm nu s t) (x : Int) : some x ∈ t.lev ↔ some x ∈ s.lev := by rw [R.lev]; exact mem_led R.N R.ls x
theorem RelD.saw (R : RelD nm nu s t) (h : nu[p]? = some q) : t.saw q = s.saw p := by
  unfold DS.saw
  rw [R.sn p q h]
  cases e : s.sn p with
  | none => rfl
  | some l => exact decide_eq_decide.mpr (mem_led R.N (R.snl p l e) 2)
theorem RelD.won (R : RelD nm nu s t) (h : nu[p]? = some q) : t.won q = s.won p := by
  unfold DS.won
  rw [R.sn p q h]
  cases e : s.sn p with
  | none => rfl
  | some l => show (!decide _) = (!decide _); rw [decide_eq_decide.mpr (mem_led R.N (R.snl p l e) 2)]
theorem RelD.wr (R : RelD nm nu s t) (h : nu[p]? = some q) : t.wr q = s.wr p := by unfold DS.wr; rw [R.saw h]
theorem RelD.at (R : RelD nm nu s t) (h : p < s.lev.length) : nu[p]? = some (nu.getD p 0) := by
  rw [R.ls] at h
  rw [List.getD_eq_getElem?_getD, List.getElem?_eq_getElem h]; rfl
theorem RelD.two (R : RelD nm nu s t) (h2 : ∃ p, s.lv p = some 2) : nu[s.two]? = some t.two := by
  obtain ⟨a1, a2, a3⟩ := DS.two_lev h2
  have hq := R.at a1
  have t2 : t.lv (nu.getD s.two 0) = some 2 := by rw [R.lv _ _ hq]; exact a2
  obtain ⟨b1, b2, b3⟩ := DS.two_lev ⟨_, t2⟩
  by_cases hm : t.two ∈ nu
  · obtain ⟨p', hp'⟩ := List.getElem?_of_mem hm
    have e2 : s.lv p' = some 2 := by rw [← R.lv p' _ hp']; exact b2
    have h3 : ¬ p' < s.two := fun z => a3 p' z e2
    have h4 : ¬ nu.getD s.two 0 < t.two := fun z => b3 _ z t2
    have h5 := R.N.mono hq hp'
    have : p' = s.two := by
      have : ¬ s.two < p' := fun z => h4 (h5.mp z)
      omega
    rw [← this]; exact hp'
  · rw [R.offL hm] at b2; cases b2
theorem RelD.told (R : RelD nm nu s t) (h : nu[p]? = some q) : t.told q = mapT nm nu (s.told p) := by
  have h4 := DS.stg_lt s p
  have e := R.stg h
  rcases (show s.stg p = 0 ∨ s.stg p = 1 ∨ s.stg p = 2 ∨ s.stg p = 3 by omega) with z | z | z | z <;> rw [z] at e
  · rw [DS.told0 z, DS.told0 e]; rfl
  · rw [DS.told1 z, DS.told1 e, R.lev]; rfl
  · rw [DS.told2 z, DS.told2 e, R.wr h]; rfl
  · rw [DS.told3 z, DS.told3 e]
    by_cases y : some 1 ∈ s.lev
    · rw [if_pos y, if_pos ((R.mem 1).mpr y)]; rfl
    · rw [if_neg y, if_neg (fun w => y ((R.mem 1).mp w))]
      have h2 := DS.ask_two R.Ws z
      obtain ⟨v, hv⟩ := DS.two_came R.Ws h2
      rw [R.cm _ _ (R.two h2), hv]; rfl
theorem RelD.ne (R : RelD nm nu s t) {p' q' : Nat} (h : nu[p]? = some q) (h' : nu[p']? = some q') : p = p' ↔ q = q' := by
  constructor
  · rintro rfl; rw [h] at h'; exact Option.some.inj h'
  · rintro rfl; exact R.N.inj h h'
theorem RelD.come (R : RelD nm nu s t) (h : nu[p]? = some q) : RelD nm nu (s.come p v) (t.come q (nm v)) := by
  have hp : p < s.came.length := by rw [R.Ws.lc, R.ls]; exact get_lt h
  have hq : q < t.came.length := by rw [R.Wt.lc, R.lt]; exact R.N.five h
  refine ⟨R.N, R.ls, R.lt, R.Ws.come, R.Wt.come, R.lv, fun p' q' h' => ?_, R.sn, R.hd, fun q' h' => ?_, R.offH, R.snl, by rw [stps_come, stps_come]; exact R.st⟩
  · rw [DS.cm_come, DS.cm_come]
    by_cases z : p = p'
    · rw [if_pos ⟨(R.ne h h').mp z, hq⟩, if_pos ⟨z, hp⟩]; rfl
    · rw [if_neg (fun w => z ((R.ne h h').mpr w.1)), if_neg (fun w => z w.1)]; exact R.cm p' q' h'
  · rw [DS.cm_come, if_neg]
    · exact R.offC q' h'
    · rintro ⟨z, _⟩; exact h' (z ▸ List.mem_of_getElem? h)
theorem RelD.step (R : RelD nm nu s t) (h : nu[p]? = some q) (hc : s.cm p ≠ none) : RelD nm nu (s.step p) (t.step q) := by
  have hc' : t.cm q ≠ none := by
    rw [R.cm p q h]
    cases e : s.cm p with
    | none => exact absurd e hc
    | some v => simp
  have hp := DS.lt_of_cm R.Ws hc
  have hq := DS.lt_of_cm R.Wt hc'
  have hps : p < s.seen.length := by rw [R.Ws.ls]; exact hp
  have hqs : q < t.seen.length := by rw [R.Wt.ls]; exact hq
  have e := R.stg h
  have h4 := DS.stg_lt s p
  have ne := fun p' q' (h' : nu[p']? = some q') => R.ne h h'
  have hdR : ∀ p' q', nu[p']? = some q' → (t.step q).hd q' = ((s.step p).hd p').map nm := fun p' q' h' => by
    rw [DS.hd_step R.Ws hc, DS.hd_step R.Wt hc']
    by_cases z : p = p' ∧ s.stg p = 3 ∧ some 1 ∉ s.lev
    · rw [if_pos z, if_pos ⟨(ne p' q' h').mp z.1, by rw [e]; exact z.2.1, fun w => z.2.2 ((R.mem 1).mp w)⟩]
      exact R.cm _ _ (R.two (DS.ask_two R.Ws z.2.1))
    · rw [if_neg z, if_neg (fun w => z ⟨(ne p' q' h').mpr w.1, by rw [← e]; exact w.2.1, fun y => w.2.2 ((R.mem 1).mpr y)⟩)]
      exact R.hd p' q' h'
  have offHR : ∀ q', q' ∉ nu → (t.step q).hd q' = none := fun q' h' => by
    rw [DS.hd_step R.Wt hc', if_neg]
    · exact R.offH q' h'
    · rintro ⟨z, _⟩; exact h' (z ▸ List.mem_of_getElem? h)
  have stR : (t.step q).stps = (s.step p).stps := by rw [stps_step, stps_step, R.st]
  refine ⟨R.N, by rw [DS.len_step]; exact R.ls, by rw [DS.len_step]; exact R.lt, R.Ws.step hc, R.Wt.step hc', fun p' q' h' => ?_, fun p' q' h' => by rw [DS.cm_step, DS.cm_step]; exact R.cm p' q' h', fun p' q' h' => ?_, hdR, fun q' h' => by rw [DS.cm_step]; exact R.offC q' h', offHR, fun p' l h' => ?_, stR⟩
  · rcases (show s.stg p = 0 ∨ s.stg p = 1 ∨ s.stg p = 2 ∨ s.stg p = 3 by omega) with z | z | z | z <;> rw [z] at e
    · rw [DS.lv_step0 z hp, DS.lv_step0 e hq]
      by_cases y : p = p'
      · rw [if_pos y, if_pos ((ne p' q' h').mp y)]
      · rw [if_neg y, if_neg (fun w => y ((ne p' q' h').mpr w))]; exact R.lv p' q' h'
    · rw [DS.lv_step1 z, DS.lv_step1 e]; exact R.lv p' q' h'
    · rw [DS.lv_step2 z hp, DS.lv_step2 e hq, R.wr h]
      by_cases y : p = p'
      · rw [if_pos y, if_pos ((ne p' q' h').mp y)]
      · rw [if_neg y, if_neg (fun w => y ((ne p' q' h').mpr w))]; exact R.lv p' q' h'
    · rw [DS.lv_step3 z, DS.lv_step3 e]; exact R.lv p' q' h'
  · by_cases z : s.stg p = 1
    · rw [DS.sn_step1 z hps, DS.sn_step1 (by rw [e]; exact z) hqs]
      by_cases y : p = p'
      · rw [if_pos y, if_pos ((ne p' q' h').mp y), R.lev]; rfl
      · rw [if_neg y, if_neg (fun w => y ((ne p' q' h').mpr w))]; exact R.sn p' q' h'
    · rw [DS.sn_stepN z, DS.sn_stepN (by rw [e]; exact z)]; exact R.sn p' q' h'
  · by_cases z : s.stg p = 1
    · rw [DS.sn_step1 z hps] at h'
      split at h'
      · cases h'; exact R.ls
      · exact R.snl p' l h'
    · rw [DS.sn_stepN z] at h'; exact R.snl p' l h'
/-- lots of players, by other numbers -/
theorem RelD.lots (R : RelD nm nu s t) {f g : Nat → Bool} (hg : ∀ q, q ∉ nu → g q = false) (h : ∀ p q, nu[p]? = some q → g q = f p) : (List.range t.lev.length).filter g = ((List.range s.lev.length).filter f).map fun p => nu.getD p 0 := by
  have rs : ∀ n, (List.range n).Pairwise (· < ·) := fun n => List.pairwise_lt_range
  refine sorted_ext ((rs _).filter _) ?_ fun x => ?_
  · rw [List.pairwise_map]
    refine List.Pairwise.imp_of_mem ?_ ((rs s.lev.length).filter f)
    intro a b ha hb hab
    have ha := List.mem_range.mp (List.mem_filter.mp ha).1
    have hb := List.mem_range.mp (List.mem_filter.mp hb).1
    exact (R.N.mono (R.at ha) (R.at hb)).mp hab
  · rw [List.mem_filter, List.mem_range, List.mem_map]
    constructor
    · rintro ⟨h1, h2⟩
      by_cases z : x ∈ nu
      · obtain ⟨p, hp⟩ := List.getElem?_of_mem z
        have hpl : p < s.lev.length := by rw [R.ls]; exact get_lt hp
        refine ⟨p, List.mem_filter.mpr ⟨List.mem_range.mpr hpl, by rw [← h p x hp]; exact h2⟩, ?_⟩
        have := R.at hpl
        rw [hp] at this; exact (Option.some.inj this).symm
      · rw [hg x z] at h2; cases h2
    · rintro ⟨p, hp, rfl⟩
      have hp' := List.mem_filter.mp hp
      have hpl := List.mem_range.mp hp'.1
      have ha := R.at hpl
      exact ⟨by rw [R.lt]; exact R.N.five ha, by rw [h p _ ha]; exact hp'.2⟩
theorem RelD.held (R : RelD nm nu s t) : t.held = s.held.map fun p => nu.getD p 0 :=
  R.lots (fun q h => by rw [R.offL h]; decide) fun p q h => by rw [R.lv p q h]
theorem RelD.cameL (R : RelD nm nu s t) : t.cameL = s.cameL.map fun p => nu.getD p 0 :=
  R.lots (fun q h => by rw [R.offC q h]; rfl) fun p q h => by rw [R.cm p q h]; cases s.cm p <;> rfl
theorem held_lt {s : DS} : ∀ p ∈ s.held, p < s.lev.length := fun p hp => List.mem_range.mp (List.mem_filter.mp hp).1
theorem RelD.readyL (R : RelD nm nu s t) : t.readyL = s.readyL.map fun p => nu.getD p 0 := by
  unfold DS.readyL
  rw [R.held, List.filter_map]
  congr 1
  refine List.filter_congr fun p hp => ?_
  exact R.won (R.at (held_lt p hp))
theorem RelD.wins (R : RelD nm nu s t) : t.wins = s.wins.map fun p => nu.getD p 0 := by
  have er := R.readyL
  have rl : ∀ p ∈ s.readyL, p < s.lev.length := fun p hp => held_lt p (List.mem_filter.mp hp).1
  unfold DS.wins
  by_cases h2 : some 2 ∈ s.lev
  · rw [if_pos h2, if_pos ((R.mem 2).mpr h2)]
    obtain ⟨m1, m2, _⟩ := DS.two_lev (mem_getD.mp h2)
    have ht : nu.getD s.two 0 = t.two := by
      have a := R.two (mem_getD.mp h2)
      have b := R.at m1
      rw [b] at a; exact Option.some.inj a
    show [_] = [nu.getD (DS.minN s.two s.readyL) 0]
    congr 1
    obtain ⟨a1, a2⟩ := minN_spec s.readyL s.two
    have lt : ∀ p ∈ s.two :: s.readyL, p < s.lev.length := fun p hp => by
      rcases List.mem_cons.mp hp with z | z
      · rw [z]; exact m1
      · exact rl p z
    refine minN_of ?_ fun x hx => ?_
    · rw [er]
      rcases List.mem_cons.mp a1 with z | z
      · rw [z, ht]; exact List.mem_cons_self
      · exact List.mem_cons_of_mem _ (List.mem_map.mpr ⟨_, z, rfl⟩)
    · have hx' : ∃ p ∈ s.two :: s.readyL, nu.getD p 0 = x := by
        rcases List.mem_cons.mp hx with z | z
        · exact ⟨s.two, List.mem_cons_self, by rw [z, ht]⟩
        · rw [er] at z
          obtain ⟨p, hp, e⟩ := List.mem_map.mp z
          exact ⟨p, List.mem_cons_of_mem _ hp, e⟩
      obtain ⟨p, hp, rfl⟩ := hx'
      have h1 := R.at (lt _ a1)
      have h3 := R.at (lt p hp)
      rcases Nat.lt_or_ge (nu.getD p 0) (nu.getD (DS.minN s.two s.readyL) 0) with z | z
      · have := (R.N.mono h3 h1).mpr z
        have := a2 p hp
        omega
      · exact z
  · rw [if_neg h2, if_neg (fun w => h2 ((R.mem 2).mp w)), er]
    cases e : s.readyL with
    | nil => exact R.cameL
    | cons r rs =>
      show (t.cameL.filter fun p => decide (p < nu.getD r 0) && (t.sn p).isNone) ++ [nu.getD r 0] = List.map _ (_ ++ [r])
      have hr := R.at (rl r (by rw [e]; exact List.mem_cons_self))
      rw [List.map_append, R.cameL, List.filter_map]
      congr 2
      refine List.filter_congr fun p hp => ?_
      have hpl := List.mem_range.mp (List.mem_filter.mp hp).1
      have ha := R.at hpl
      show (decide (nu.getD p 0 < nu.getD r 0) && (t.sn (nu.getD p 0)).isNone) = _
      rw [R.sn p _ ha, decide_eq_decide.mpr (R.N.mono ha hr).symm]
      cases s.sn p <;> rfl
end
end Fp
/-! views of a stair are a row; weavings; walks over two tuples -/
namespace Fp
open PySem PySem.Spec PyProof.Rows L2
theorem walk_zipT {K : PySem.W.Frag} {a b : Addr} {xs ys : List V} {n : Nat} (hn : n = min xs.length ys.length) : Walk (RZ.ItzT K a b) n (fun H => SqT K H a xs ∧ SqT K H b ys) (YPair (fun i => xs[i]?) (fun i => ys[i]?)) := by
  subst hn
  refine ⟨fun i _ hi q => ?_, fun _ q => ⟨xs, ys, q.1, q.2, by omega⟩, fun i H v H' _ q y => ?_⟩
  · have h1 : i < xs.length := by omega
    have h2 : i < ys.length := by omega
    exact ⟨xs, ys, xs[i], ys[i], q.1, q.2, by simp [h1], by simp [h2]⟩
  · obtain ⟨T, x, z, h1, h2, h3, h4, h5⟩ := y
    exact ⟨T, x, z, h1, h2, h3, h4 xs q.1, h5 ys q.2⟩
def Sub (l m : List Nat) : Prop := ∀ x ∈ l, x ∈ m
instance (l m : List Nat) : Decidable (Sub l m) := inferInstanceAs (Decidable (∀ x ∈ l, x ∈ m))
namespace LS
section
variable {s : LS} {p q : Nat} {l m : List Nat}
theorem below_up (s : LS) (l : Int) : (s.below l).Pairwise (· < ·) := List.Pairwise.filter _ List.pairwise_lt_range
theorem below_mono {a b : Int} (h : a ≤ b) : Sub (s.below a) (s.below b) := fun x hx => by
  obtain ⟨h1, h2⟩ := mem_below.mp hx
  refine mem_below.mpr ⟨h1, ?_⟩
  cases e : s.lv x with
  | none => rw [e] at h2; cases h2
  | some y => rw [e] at h2; have := of_decide_eq_true (show decide (y ≤ a) = true from h2); exact decide_eq_true (by omega)
/-- what is known of a view -/
structure ViewOk (s : LS) (p : Nat) (l : List Nat) : Prop where
  up : l.Pairwise (· < ·)
  self : p ∈ l
  lt : ∀ x ∈ l, x < s.n
  len : l.length ≤ 5
theorem WF.view (W : s.WF) (h : s.vi p = some l) : ViewOk s p l := by
  obtain ⟨k, h1, h2, h3⟩ := W.vil p l h
  have := W.rng p _ h1
  have := W.n5
  refine ⟨by rw [h2]; exact below_up _ _, W.self h, fun x hx => ?_, by rw [h2, h3]; omega⟩
  rw [h2] at hx
  exact (mem_below.mp hx).1
theorem WF.vlt (W : s.WF) (h : s.vi p = some l) : p < s.n := (W.view h).lt p (W.view h).self
theorem WF.fits (W : s.WF) (h : s.vi p = some l) (h' : s.vi q = some m) : (q ∈ l → Sub m l) ∧ (q ∉ l → Sub l m) := by
  obtain ⟨k, h1, h2, _⟩ := W.vil p l h
  obtain ⟨j, j1, j2, _⟩ := W.vil q m h'
  have hq : q ∈ l ↔ j ≤ k := by
    rw [h2, mem_below]
    rw [le_some j1, decide_eq_true_iff]
    exact ⟨fun z => by have := z.2; omega, fun z => ⟨W.vlt h', by omega⟩⟩
  rw [hq, h2, j2]
  exact ⟨fun z => below_mono (by omega), fun z => below_mono (by omega)⟩
def woven (s : LS) (ws : List Nat) : LS := ws.foldl (fun s p => s.step p) s
theorem woven_snoc (ws : List Nat) (p : Nat) : s.woven (ws ++ [p]) = (s.woven ws).step p := List.foldl_append
theorem n_woven : ∀ {ws : List Nat} {s : LS}, (s.woven ws).n = s.n
  | [], _ => rfl
  | p :: ws, s => (n_woven (ws := ws) (s := s.step p)).trans n_step
theorem step_none (h : s.next p = none) : s.step p = s := by unfold LS.step; rw [h]
theorem ok_woven : ∀ {ws : List Nat} {s : LS}, s.WF → s.ROk → (∀ p ∈ ws, p < s.n) → (s.woven ws).WF ∧ (s.woven ws).ROk
  | [], _, W, R, _ => ⟨W, R⟩
  | p :: ws, s, W, R, h => by
    have hp := h p List.mem_cons_self
    have R' : (s.step p).ROk := by
      by_cases z : s.next p = none
      · rw [step_none z]; exact R
      · exact R.step W hp z
    have r := ok_woven (ws := ws) (s := s.step p) (W.step hp) R' fun q hq => by rw [n_step]; exact h q (List.mem_cons_of_mem _ hq)
    exact r
theorem step_run' (W : s.WF) (hp : p < s.n) : ∃ ds, (s.step p).run = s.run ++ ds ∧ ds.length ≤ 1 := by
  by_cases z : s.next p = none
  · exact ⟨[], by rw [step_none z]; simp, by decide⟩
  · obtain ⟨dd, e, _⟩ := step_run W hp z
    exact ⟨[dd], e, Nat.le_refl _⟩
theorem set_same (W : s.WF) (hp : p < s.n) (h : s.vi p = none) : s.vw.set p none = s.vw := by
  have hl : p < s.vw.length := by rw [W.lw]; exact hp
  have e : s.vw[p] = none := by
    have := getD_at hl
    rw [List.getElem?_eq_getElem hl] at this
    have h' : s.vw.getD p none = none := h
    rw [h'] at this
    exact Option.some.inj this
  refine List.ext_getElem? fun i => ?_
  rw [List.getElem?_set]
  by_cases z : p = i
  · subst z; rw [if_pos rfl, if_pos hl, List.getElem?_eq_getElem hl, e]
  · rw [if_neg z]
end
end LS
/-! ### the law's own stair -/
def sdict (n : Int) (l1 l2 l3 : Addr) : List (Key × V) := [(.inr "many", .int n), (.inr "shown", .ref l1), (.inr "looks", .ref l2), (.inr "views", .ref l3)]
section
variable {n : Int} {l1 l2 l3 o : Addr} {H : Hp}
theorem st_merge : mergeK [] (sdict n l1 l2 l3) = sdict n l1 l2 l3 := by kernel_rfl
theorem sg_many (h : H o = some (.dK (sdict n l1 l2 l3))) : DGet H o (.str "many") (some (.int n)) := by
  have := DGet.k (k := .inr "many") h; rw [show valV (sdict n l1 l2 l3) (.inr "many") = some (.int n) by kernel_rfl] at this; exact this
theorem sg_shown (h : H o = some (.dK (sdict n l1 l2 l3))) : DGet H o (.str "shown") (some (.ref l1)) := by
  have := DGet.k (k := .inr "shown") h; rw [show valV (sdict n l1 l2 l3) (.inr "shown") = some (.ref l1) by kernel_rfl] at this; exact this
theorem sg_looks (h : H o = some (.dK (sdict n l1 l2 l3))) : DGet H o (.str "looks") (some (.ref l2)) := by
  have := DGet.k (k := .inr "looks") h; rw [show valV (sdict n l1 l2 l3) (.inr "looks") = some (.ref l2) by kernel_rfl] at this; exact this
theorem sg_views (h : H o = some (.dK (sdict n l1 l2 l3))) : DGet H o (.str "views") (some (.ref l3)) := by
  have := DGet.k (k := .inr "views") h; rw [show valV (sdict n l1 l2 l3) (.inr "views") = some (.ref l3) by kernel_rfl] at this; exact this
end
structure StIn (H : Hp) (o l1 l2 l3 : Addr) (s : LS) (vv : List V) : Prop where
  dict : H o = some (.dK (sdict (s.n : Nat) l1 l2 l3))
  shown : H l1 = some (.lst (s.lev.map lvV))
  looks : H l2 = some (.lst (s.lk.map V.bl))
  views : H l3 = some (.lst vv)
  vwP : Paired (ViewAt H) vv s.vw
  nd : [o, l1, l2, l3].Nodup
def StAt (H : Hp) (o : Addr) (L : List Addr) (s : LS) : Prop := ∃ l1 l2 l3 vv, L = [o, l1, l2, l3] ∧ StIn H o l1 l2 l3 s vv
section
variable {H H' : Hp} {o : Addr} {L S : List Addr} {s : LS}
theorem StAt.but (h : StAt H o L s) (g : But S H H') (n : ∀ x ∈ S, x ∉ L) (tk : TK H H') : StAt H' o L s := by
  obtain ⟨l1, l2, l3, vv, rfl, h⟩ := h
  have w : ∀ x ∈ [o, l1, l2, l3], x ∉ S := fun x hx m => n x m hx
  exact ⟨l1, l2, l3, vv, rfl, g _ _ (w o (by simp)) h.dict, g _ _ (w l1 (by simp)) h.shown, g _ _ (w l2 (by simp)) h.looks, g _ _ (w l3 (by simp)) h.views, pr_imp (fun _ _ => ViewAt.mono tk) h.vwP, h.nd⟩
theorem StAt.same (h : StAt H o L s) (g : Same H H') : StAt H' o L s := h.but (S := []) (.of g) (fun _ m => by cases m) (.of g)
theorem StAt.kind (h : StAt H o L s) : ∀ x ∈ L, (∃ xs, H x = some (.lst xs)) ∨ ∃ kvs, H x = some (.dK kvs) := by
  obtain ⟨l1, l2, l3, vv, rfl, h⟩ := h
  intro x hx
  simp only [List.mem_cons, List.not_mem_nil, or_false] at hx
  rcases hx with rfl | rfl | rfl | rfl
  · exact .inr ⟨_, h.dict⟩
  · exact .inl ⟨_, h.shown⟩
  · exact .inl ⟨_, h.looks⟩
  · exact .inl ⟨_, h.views⟩
theorem StAt.tk (h : StAt H o L s) (g : But L H H') : TK H H' := TK.but g fun a ha z => by
  rcases h.kind a ha with ⟨xs, e⟩ | ⟨xs, e⟩ <;> rw [e] at z <;> exact z
end
/-! ### promises -/
def spLot : Sp := fun vs H Q _ => ∃ (a : Addr) (l : List Nat), vs = [.ref a] ∧ TT H a (natV l) ∧ l.Pairwise (· < ·) ∧ l.length ≤ 5 ∧ ∀ H', Same H H' → Q (.bl true) H'
def spLies : Sp := fun vs H Q _ => ∃ (a b : Addr) (l m : List Nat), vs = [.ref a, .ref b] ∧ TT H a (natV l) ∧ TT H b (natV m) ∧ l.length ≤ 5 ∧ Sub l m ∧ ∀ H', Same H H' → Q (.bl true) H'
def spFit : Sp := fun vs H Q _ => ∃ (t u a b : Addr) (p q : Nat) (l m : List Nat), vs = [.ref t, .ref u] ∧ H t = some (.tup [.int (p : Nat), .ref a]) ∧ H u = some (.tup [.int (q : Nat), .ref b]) ∧ TT H a (natV l) ∧ TT H b (natV m) ∧ l.length ≤ 5 ∧ m.length ≤ 5 ∧
  (q ∈ l → Sub m l) ∧ (q ∉ l → Sub l m) ∧ ∀ H', Same H H' → Q (.bl true) H'
def spIsView : Sp := fun vs H Q _ => ∃ (n p : Nat) (a : Addr) (l : List Nat), vs = [.int n, .int p, .ref a] ∧ TT H a (natV l) ∧ l.Pairwise (· < ·) ∧ l.length ≤ 5 ∧ p ∈ l ∧ (∀ x ∈ l, x < n) ∧ ∀ H', Same H H' → Q (.bl true) H'
def LS.any (s : LS) : Bool := s.vw.any (·.isSome)
def spAtOnce : Sp := fun vs H Q _ => ∃ (b : Addr) (vv : List V) (s : LS), vs = [.int (s.n : Nat), .ref b] ∧ TF H b vv ∧ Paired (ViewAt H) vv s.vw ∧ s.WF ∧ ∀ H', Same H H' → Q (.bl s.any) H'
def spWeaving : Sp := fun vs H Q _ => ∃ (a : Addr) (ws : List Nat) (n : Nat), vs = [.ref a, .int n] ∧ TT H a (natV ws) ∧ (∀ p ∈ ws, p < n) ∧ ws.length ≤ 1000 ∧ ∀ H', Same H H' → Q (.bl true) H'
def spWeave (K : PySem.W.Frag) (C : Addr) : Sp := fun vs H Q _ => ∃ (d a : Addr) (ws : List Nat) (s : LS), vs = [.ref d, .ref a] ∧ LvAt K C H d s ∧ s.WF ∧ TT H a (natV ws) ∧ (∀ p ∈ ws, p < s.n) ∧ ws.length ≤ 1000 ∧ s.run.length < 10000 ∧
  ∀ t ys ds H', But [d] H H' → LvAt K C H' d (s.woven ws) → H' t = some (.tup ys) → Paired (SD K H') ys ds → (s.woven ws).run = s.run ++ ds → Q (.ref t) H'
def spLLen (K : PySem.W.Frag) (C : Addr) : Sp := fun vs H Q _ => ∃ (d : Addr) (s : LS), vs = [.ref d] ∧ LvAt K C H d s ∧ Q (.int (s.run.length : Nat)) H
def spSNext : Sp := fun vs H Q _ => ∃ (o : Addr) (L : List Addr) (p : Nat) (s : LS), vs = [.ref o, .int p] ∧ StAt H o L s ∧ s.WF ∧ p < s.n ∧ ∀ y H', Same H H' → DueAt H' y (s.next p) → Q y H'
def spSStep (K : PySem.W.Frag) : Sp := fun vs H Q _ => ∃ (o : Addr) (L : List Addr) (p : Nat) (s : LS), vs = [.ref o, .int p] ∧ StAt H o L s ∧ s.WF ∧ p < s.n ∧ s.next p ≠ none ∧
  ∀ t dd H', But L H H' → StAt H' o L (s.step p) → (s.step p).run = s.run ++ [dd] → SD K H' (.ref t) dd → Q (.ref t) H'
def spSFresh : Sp := fun vs H Q _ => ∃ n : Nat, vs = [.int n] ∧ 1 ≤ n ∧ n ≤ 5 ∧ ∀ o L H', Same H H' → (∀ x ∈ L, H x = none) → StAt H' o L (LS.new n) → Q (.ref o) H'
def spSWoven (K : PySem.W.Frag) : Sp := fun vs H Q _ => ∃ (o a : Addr) (L : List Addr) (ws : List Nat) (s : LS), vs = [.ref o, .ref a] ∧ StAt H o L s ∧ s.WF ∧ TT H a (natV ws) ∧ (∀ p ∈ ws, p < s.n) ∧ ws.length ≤ 1000 ∧
  ∀ t ys ds H', But L H H' → StAt H' o L (s.woven ws) → H' t = some (.tup ys) → Paired (SD K H') ys ds → (s.woven ws).run = s.run ++ ds → Q (.ref t) H'
def spWvg : Sp := fun vs H Q _ => ∃ (pt : Addr) (n k m : Nat), vs = [.ref pt, .int n, .int k] ∧ 1 ≤ n ∧ n ≤ 5 ∧ k ≤ 30 ∧ PotAt H pt m ∧ m < 800000 ∧ ∀ t ws H', But [pt] H H' → PotAt H' pt (m + 100) → H' t = some (.tup (natV ws)) → (∀ p ∈ ws, p < n) → ws.length ≤ 100 → Q (.ref t) H'
def spLInt : Sp := fun vs H Q _ => ∃ x a b : Int, vs = [.int x, .int a, .int b] ∧ a ≤ x ∧ x ≤ b ∧ Q (.bl true) H
def spLotOf : Sp := fun vs H Q _ => ∃ (a : Addr) (l : List Nat) (n : Nat), vs = [.ref a, .int n] ∧ TT H a (natV l) ∧ l.Pairwise (· < ·) ∧ l.length ≤ 5 ∧ (∀ x ∈ l, x < n) ∧ ∀ H', Same H H' → Q (.bl true) H'
end Fp
/-! values of any kind, of which only tuples and integers are looked into; rows of truths -/
namespace Fp
open PySem PySem.Spec PyProof.Rows L2
inductive Dt where
  | non
  | bl (b : Bool)
  | int (i : Int)
  | oth
  | tup (ds : List Dt)
mutual
inductive DV (H : Hp) : V → Dt → Prop where
  | non : DV H .non .non
  | bl (b : Bool) : DV H (.bl b) (.bl b)
  | int (i : Int) : DV H (.int i) (.int i)
  | str (z : Str) : DV H (.str z) .oth
  | lst {a : Addr} {xs : List V} : H a = some (.lst xs) → DV H (.ref a) .oth
  | dct {a : Addr} {kvs : List (Key × V)} : H a = some (.dK kvs) → DV H (.ref a) .oth
  | tup {a : Addr} {xs : List V} {ds : List Dt} : H a = some (.tup xs) → DVs H xs ds → ds.length ≤ 1000 → DV H (.ref a) (.tup ds)
inductive DVs (H : Hp) : List V → List Dt → Prop where
  | nil : DVs H [] []
  | cons {v vs d ds} : DV H v d → DVs H vs ds → DVs H (v :: vs) (d :: ds)
end
/-- tuples stay, lists and dicts stay such -/
structure DKp (H H' : Hp) : Prop where
  t : ∀ {a xs}, H a = some (.tup xs) → H' a = some (.tup xs)
  l : ∀ {a xs}, H a = some (.lst xs) → ∃ ys, H' a = some (.lst ys)
  d : ∀ {a} {xs : List (Key × V)}, H a = some (.dK xs) → ∃ ys : List (Key × V), H' a = some (.dK ys)
theorem DKp.refl (H : Hp) : DKp H H := ⟨fun h => h, fun h => ⟨_, h⟩, fun h => ⟨_, h⟩⟩
theorem DKp.trans {H H1 H2 : Hp} (a : DKp H H1) (b : DKp H1 H2) : DKp H H2 := ⟨fun h => b.t (a.t h), fun h => by
  obtain ⟨_, h⟩ := a.l h
  exact b.l h, fun h => by
  obtain ⟨_, h⟩ := a.d h
  exact b.d h⟩
theorem DKp.of {H H' : Hp} (g : Same H H') : DKp H H' := ⟨fun h => g _ _ h, fun h => ⟨_, g _ _ h⟩, fun h => ⟨_, g _ _ h⟩⟩
theorem DKp.but {S : List Addr} {H H' : Hp} (g : But S H H') (h : ∀ a ∈ S, (∃ xs, H a = some (.lst xs)) ∧ ∃ ys, H' a = some (.lst ys)) : DKp H H' := by
  refine ⟨fun {a xs} e => ?_, fun {a xs} e => ?_, fun {a xs} e => ?_⟩
  · by_cases m : a ∈ S
    · obtain ⟨⟨_, z⟩, _⟩ := h a m
      rw [z] at e; cases e
    · exact g _ _ m e
  · by_cases m : a ∈ S
    · exact (h a m).2
    · exact ⟨_, g _ _ m e⟩
  · by_cases m : a ∈ S
    · obtain ⟨⟨_, z⟩, _⟩ := h a m
      rw [z] at e; cases e
    · exact ⟨_, g _ _ m e⟩
theorem DKp.pot {p : Addr} {n m : Nat} {H H' : Hp} (g : But [p] H H') (h : PotAt H p n) (h' : PotAt H' p m) : DKp H H' := DKp.but g fun a ha => by
  rw [List.mem_singleton.mp ha]
  exact ⟨h.there, h'.there⟩
theorem DKp.put {H : Hp} {a : Addr} {xs ys : List V} (h : H a = some (.lst xs)) : DKp H (upd H a (.lst ys)) := DKp.but (S := [a]) ((But.refl _ _).put (by simp)) fun b hb => by
  rw [List.mem_singleton.mp hb]
  exact ⟨⟨_, h⟩, _, upd_same⟩
mutual
theorem DV.kd {H H' : Hp} (g : DKp H H') : ∀ {v : V} {d : Dt}, DV H v d → DV H' v d
  | _, _, .non => .non
  | _, _, .bl b => .bl b
  | _, _, .int i => .int i
  | _, _, .str z => .str z
  | _, _, .lst h => by
    obtain ⟨_, h⟩ := g.l h
    exact .lst h
  | _, _, .dct h => by
    obtain ⟨_, h⟩ := g.d h
    exact .dct h
  | _, _, .tup h t l => .tup (g.t h) (DVs.kd g t) l
theorem DVs.kd {H H' : Hp} (g : DKp H H') : ∀ {vs : List V} {ds : List Dt}, DVs H vs ds → DVs H' vs ds
  | _, _, .nil => .nil
  | _, _, .cons h t => .cons (DV.kd g h) (DVs.kd g t)
end
theorem DV.same {H H' : Hp} (g : Same H H') {v : V} {d : Dt} (h : DV H v d) : DV H' v d := h.kd (.of g)
theorem DVs.same {H H' : Hp} (g : Same H H') {v : List V} {d : List Dt} (h : DVs H v d) : DVs H' v d := h.kd (.of g)
theorem DVs.len {H : Hp} : ∀ {vs : List V} {ds : List Dt}, DVs H vs ds → vs.length = ds.length
  | _, _, .nil => rfl
  | _, _, .cons _ t => congrArg (· + 1) (DVs.len t)
theorem DVs.at_ {H : Hp} {v : V} : ∀ {i : Nat} {vs : List V} {ds : List Dt}, DVs H vs ds → vs[i]? = some v → ∃ d, ds[i]? = some d ∧ DV H v d
  | 0, _, _, .cons h t, e => by cases e; exact ⟨_, rfl, h⟩
  | i + 1, _, _, .cons h t, e => DVs.at_ (i := i) t e
  | _, _, _, .nil, e => by simp at e
theorem DVs.get {H : Hp} {d : Dt} : ∀ {i : Nat} {vs : List V} {ds : List Dt}, DVs H vs ds → ds[i]? = some d → ∃ v, vs[i]? = some v ∧ DV H v d
  | 0, _, _, .cons h t, e => by cases e; exact ⟨_, rfl, h⟩
  | i + 1, _, _, .cons h t, e => DVs.get (i := i) t e
  | _, _, _, .nil, e => by simp at e
theorem DVs.app {H : Hp} : ∀ {vs ws : List V} {ds es : List Dt}, DVs H vs ds → DVs H ws es → DVs H (vs ++ ws) (ds ++ es)
  | _, _, _, _, .nil, t => t
  | _, _, _, _, .cons h r, t => .cons h (DVs.app r t)
theorem DVs.take {H : Hp} : ∀ {n : Nat} {vs : List V} {ds : List Dt}, DVs H vs ds → DVs H (vs.take n) (ds.take n)
  | 0, _, _, _ => by simp; exact .nil
  | n + 1, _, _, .nil => by simp; exact .nil
  | n + 1, _, _, .cons h t => .cons h (DVs.take t)
theorem DVs.drop {H : Hp} : ∀ {n : Nat} {vs : List V} {ds : List Dt}, DVs H vs ds → DVs H (vs.drop n) (ds.drop n)
  | 0, _, _, h => h
  | n + 1, _, _, .nil => by simp; exact .nil
  | n + 1, _ :: _, _ :: _, .cons h t => by
    rw [List.drop_succ_cons, List.drop_succ_cons]
    exact DVs.drop (n := n) t
theorem DVs.rev {H : Hp} : ∀ {vs : List V} {ds : List Dt}, DVs H vs ds → DVs H vs.reverse ds.reverse
  | _, _, .nil => .nil
  | _, _, .cons h t => by
    rw [List.reverse_cons, List.reverse_cons]
    exact DVs.app (DVs.rev t) (.cons h .nil)
theorem DVs.set {H : Hp} {v : V} {d : Dt} (h : DV H v d) : ∀ {n : Nat} {vs : List V} {ds : List Dt}, DVs H vs ds → DVs H (vs.set n v) (ds.set n d)
  | _, _, _, .nil => by simp; exact .nil
  | 0, _, _, .cons _ t => .cons h t
  | n + 1, _, _, .cons g t => .cons g (DVs.set h t)
/-! ### kinds -/
def Dt.isInt : Dt → Bool
  | .int _ => true
  | _ => false
def Dt.isBl : Dt → Bool
  | .bl _ => true
  | _ => false
def Dt.isTup : Dt → Bool
  | .tup _ => true
  | _ => false
def Dt.isNon : Dt → Bool
  | .non => true
  | _ => false
def Dt.toInt : Dt → Int
  | .int i => i
  | _ => 0
def Dt.wnn : Dt → Bool
  | .int i => decide (0 ≤ i)
  | _ => false
theorem DV.ty {K : PySem.W.Frag} {H : Hp} {v : V} {d : Dt} (h : DV H v d) : ∃ t, TyX K H v t ∧ PySem.W.kitOne K t (.type "int") = some (d.isInt || d.isBl) ∧ PySem.W.kitOne K t (.type "bool") = some d.isBl ∧ PySem.W.kitOne K t (.type "tuple") = some d.isTup := by
  cases h with
  | non => exact ⟨.type "NoneType", .base .non, by first | rfl | decide +kernel | kernel_rfl, by first | rfl | decide +kernel | kernel_rfl, by first | rfl | decide +kernel | kernel_rfl⟩
  | int i => exact ⟨.type "int", .base (.int i), by first | rfl | decide +kernel | kernel_rfl, by first | rfl | decide +kernel | kernel_rfl, by first | rfl | decide +kernel | kernel_rfl⟩
  | bl b => exact ⟨.type "bool", .base (.bl b), by first | rfl | decide +kernel | kernel_rfl, by first | rfl | decide +kernel | kernel_rfl, by first | rfl | decide +kernel | kernel_rfl⟩
  | str z => exact ⟨.type "str", .base (.str z), by first | rfl | decide +kernel | kernel_rfl, by first | rfl | decide +kernel | kernel_rfl, by first | rfl | decide +kernel | kernel_rfl⟩
  | tup h _ _ => exact ⟨.type "tuple", .base (.tup h), by first | rfl | decide +kernel | kernel_rfl, by first | rfl | decide +kernel | kernel_rfl, by first | rfl | decide +kernel | kernel_rfl⟩
  | lst h => exact ⟨.type "list", .base (.lst h), by first | rfl | decide +kernel | kernel_rfl, by first | rfl | decide +kernel | kernel_rfl, by first | rfl | decide +kernel | kernel_rfl⟩
  | dct h => exact ⟨.type "dict", .base (.dK h), by first | rfl | decide +kernel | kernel_rfl, by first | rfl | decide +kernel | kernel_rfl, by first | rfl | decide +kernel | kernel_rfl⟩
theorem DV.non_iff {H : Hp} {v : V} {d : Dt} (h : DV H v d) : decide (v = .non) = d.isNon := by
  cases h <;> simp [Dt.isNon]
theorem not_t {b : Bool} (h : (!b) = true) : b = false := by cases b <;> first | rfl | cases h
theorem not_f {b : Bool} (h : ¬ (!b) = true) : b = true := by cases b <;> first | rfl | exact absurd rfl h
/-! ### rows of truths -/
theorem all_getD {α : Type} {p : α → Bool} {x : α} : ∀ {l : List α}, ((List.range l.length).all fun i => p (l.getD i x)) = l.all p := by
  intro l
  rw [Bool.eq_iff_iff, List.all_eq_true, List.all_eq_true]
  constructor
  · intro h y hy
    obtain ⟨i, hi⟩ := List.mem_iff_getElem?.mp hy
    have hl := (List.getElem?_eq_some_iff.mp hi).1
    have := h i (List.mem_range.mpr hl)
    rw [List.getD_eq_getElem?_getD, hi] at this
    exact this
  · intro h i hi
    have hl := List.mem_range.mp hi
    have : l.getD i x = l[i] := by rw [List.getD_eq_getElem?_getD, List.getElem?_eq_getElem hl] <;> rfl
    rw [this]
    exact h _ (List.getElem_mem hl)
theorem all_id_map {α : Type} (f : α → Bool) (l : List α) : (l.map f).all id = l.all f := by rw [List.all_map]; rfl
section
variable {J : It} {n : Nat} {G : Hp → Prop} {Y : Nat → Hp → V → Hp → Prop}
/-- a comprehension of truths, each known -/
theorem lc_bools (w : Walk J n G Y) (f : Nat → Bool) {g : TG} {tt : L2.TT} {te : TE} {vs : List Nat} {σ : L2.St} {H1 : Hp} {D : Addr} {Qd : Hp → Prop} (hD : H1 D = none) (hn : n < 10000000) (hG : ∀ H, Same H1 H → G H)
    (hs : ∀ i x H H', i < n → Same H1 H → Y i H x H' → ∀ (Q4 : VK) (N : Hp → Prop), (∀ H4, Same H H4 → Q4 (.bl (f i)) H4) → g x (wipe σ vs) H' fun σ2 H2 => wipe σ2 vs = wipe σ vs ∧ tt σ2 H2 fun b H3 => if b = true then te σ2 H3 Q4 else N H3)
    (hd : ∀ H, Same H1 H → H D = some (.lst (((List.range n).map f).map V.bl)) → Qd H) :
    ∃ W : Nat → Nat → Hp → Prop, (∃ m, W 0 m (upd H1 D (.lst []))) ∧ ∀ i m H, W i m H →
      (J.stop i H ∧ Qd H) ∨ (J.go i H ∧ ∃ Nx : Hp → Prop, (∀ H', Nx H' → ∃ m', m' < m ∧ W (i + 1) m' H') ∧ ∀ x H', J.yld i H x H' → g x (wipe σ vs) H' fun σ2 H2 => wipe σ2 vs = wipe σ vs ∧ tt σ2 H2 fun b H3 =>
        if b = true then te σ2 H3 fun y H4 => ∃ acc, H4 D = some (.lst acc) ∧ acc.length < sizeLine ∧ Nx (upd H4 D (.lst (acc ++ [y]))) else Nx H3) := by
  refine lc_it w (fun i H => Same H1 H ∧ H D = some (.lst (((List.range i).map f).map V.bl))) ⟨same_new hD _, upd_same⟩ (fun i H _ z => hG H z.1) (fun i x H H' hi z y => ?_) fun H z => hd H z.1 z.2
  refine hs i x H H' hi z.1 y _ _ fun H4 g4 => ?_
  refine ⟨_, g4 _ _ z.2, szt (by rw [List.length_map, List.length_map, List.length_range]; omega), fun b o q => ?_, ?_⟩
  · rw [upd_ne (ne_of_none q hD)]; exact g4 _ _ (z.1 _ _ q)
  · rw [upd_same, List.range_succ, List.map_append, List.map_append] <;> rfl
end
section
variable {J : It} {n : Nat} {G : Hp → Prop} {Y : Nat → Hp → V → Hp → Prop}
/-- a comprehension of values, each known -/
theorem lc_vals (w : Walk J n G Y) (f : Nat → V) {g : TG} {tt : L2.TT} {te : TE} {vs : List Nat} {σ : L2.St} {H1 : Hp} {D : Addr} {Qd : Hp → Prop} (hD : H1 D = none) (hn : n < 10000000) (hG : ∀ H, Same H1 H → G H)
    (hs : ∀ i x H H', i < n → Same H1 H → Y i H x H' → ∀ (Q4 : VK) (N : Hp → Prop), (∀ H4, Same H H4 → Q4 (f i) H4) → g x (wipe σ vs) H' fun σ2 H2 => wipe σ2 vs = wipe σ vs ∧ tt σ2 H2 fun b H3 => if b = true then te σ2 H3 Q4 else N H3)
    (hd : ∀ H, Same H1 H → H D = some (.lst ((List.range n).map f)) → Qd H) :
    ∃ W : Nat → Nat → Hp → Prop, (∃ m, W 0 m (upd H1 D (.lst []))) ∧ ∀ i m H, W i m H →
      (J.stop i H ∧ Qd H) ∨ (J.go i H ∧ ∃ Nx : Hp → Prop, (∀ H', Nx H' → ∃ m', m' < m ∧ W (i + 1) m' H') ∧ ∀ x H', J.yld i H x H' → g x (wipe σ vs) H' fun σ2 H2 => wipe σ2 vs = wipe σ vs ∧ tt σ2 H2 fun b H3 =>
        if b = true then te σ2 H3 fun y H4 => ∃ acc, H4 D = some (.lst acc) ∧ acc.length < sizeLine ∧ Nx (upd H4 D (.lst (acc ++ [y]))) else Nx H3) := by
  refine lc_it w (fun i H => Same H1 H ∧ H D = some (.lst ((List.range i).map f))) ⟨same_new hD _, upd_same⟩ (fun i H _ z => hG H z.1) (fun i x H H' hi z y => ?_) fun H z => hd H z.1 z.2
  refine hs i x H H' hi z.1 y _ _ fun H4 g4 => ?_
  refine ⟨_, g4 _ _ z.2, szt (by rw [List.length_map, List.length_range]; omega), fun b o q => ?_, ?_⟩
  · rw [upd_ne (ne_of_none q hD)]; exact g4 _ _ (z.1 _ _ q)
  · rw [upd_same, List.range_succ, List.map_append] <;> rfl
end
/-- all pairs of one list and another: truths, each known -/
def rowsB (f : Nat → Nat → Bool) (n m : Nat) : List Bool := (List.range n).flatMap fun i => (List.range m).map (f i)
theorem rowsB_all (f : Nat → Nat → Bool) (n m : Nat) : (rowsB f n m).all id = (List.range n).all fun i => (List.range m).all (f i) := by
  unfold rowsB
  rw [List.all_flatMap]
  congr 1
  funext i
  exact all_id_map _ _
theorem rowsB_succ (f : Nat → Nat → Bool) (n m : Nat) : rowsB f (n + 1) m = rowsB f n m ++ (List.range m).map (f n) := by
  unfold rowsB
  rw [List.range_succ, List.flatMap_append]; simp
theorem rowsB_len (f : Nat → Nat → Bool) : ∀ n m : Nat, (rowsB f n m).length = n * m
  | 0, m => by simp [rowsB]
  | n + 1, m => by rw [rowsB_succ, List.length_append, rowsB_len f n m, List.length_map, List.length_range, Nat.succ_mul]
theorem lc2_bools {K : PySem.W.Frag} {a b D : Addr} {xs ys : List V} {s0 i0 i1 : Nat} {te : TE} {vs vs1 : List Nat} {σ : L2.St} {H1 : Hp} {Qd : Hp → Prop} (f : Nat → Nat → Bool) (hD : H1 D = none) (ha : H1 a = some (.lst xs)) (hb : H1 b = some (.lst ys)) (hn : xs.length * ys.length < 1000000)
    (hv : ∀ x, ((wipe σ vs).set i0 (some x))[s0]? = some (some (.ref b))) (hw : ∀ x, wipe ((wipe σ vs).set i0 (some x)) vs = wipe σ vs) (hw1 : ∀ x y, wipe ((wipe ((wipe σ vs).set i0 (some x)) vs1).set i1 (some y)) vs1 = wipe ((wipe σ vs).set i0 (some x)) vs1)
    (hs : ∀ i j x y H, xs[i]? = some x → ys[j]? = some y → Same H1 H → ∀ Q4 : VK, (∀ H4, Same H H4 → Q4 (.bl (f i j)) H4) → te ((wipe ((wipe σ vs).set i0 (some x)) vs1).set i1 (some y)) H Q4)
    (hd : ∀ H, Same H1 H → H D = some (.lst ((rowsB f xs.length ys.length).map V.bl)) → Qd H) :
    ∃ W : Nat → Nat → Hp → Prop, (∃ m, W 0 m (upd H1 D (.lst []))) ∧ ∀ i m H, W i m H →
      ((Itl K a).stop i H ∧ Qd H) ∨ ((Itl K a).go i H ∧ ∃ Nx : Hp → Prop, (∀ H', Nx H' → ∃ m', m' < m ∧ W (i + 1) m' H') ∧ ∀ x H', (Itl K a).yld i H x H' → gName i0 x (wipe σ vs) H' fun σ2 H2 => wipe σ2 vs = wipe σ vs ∧ tYes σ2 H2 fun b H3 =>
        if b = true then iList K (tVar s0) σ2 H3 fun J1 H4 => ∃ W1 : Nat → Nat → Hp → Prop, (∃ m, W1 0 m H4) ∧ ∀ j k H, W1 j k H →
          (J1.stop j H ∧ Nx H) ∨ (J1.go j H ∧ ∃ Nx1 : Hp → Prop, (∀ H', Nx1 H' → ∃ k', k' < k ∧ W1 (j + 1) k' H') ∧ ∀ x H', J1.yld j H x H' → gName i1 x (wipe σ2 vs1) H' fun σ3 H5 => wipe σ3 vs1 = wipe σ2 vs1 ∧ tYes σ3 H5 fun b H6 =>
            if b = true then te σ3 H6 fun y H7 => ∃ acc, H7 D = some (.lst acc) ∧ acc.length < sizeLine ∧ Nx1 (upd H7 D (.lst (acc ++ [y]))) else Nx1 H6)
        else Nx H3) := by
  have w1 := walk_list (K := K) (a := a) (xs := xs)
  have w2 := walk_list (K := K) (a := b) (xs := ys)
  refine ⟨fun i m H' => m = xs.length - i ∧ i ≤ xs.length ∧ Same H1 H' ∧ H' D = some (.lst ((rowsB f i ys.length).map V.bl)), ⟨_, rfl, Nat.zero_le _, same_new hD _, upd_same⟩, ?_⟩
  rintro i m H3 ⟨rfl, hi, g3, h3⟩
  by_cases hlt : i < xs.length
  rotate_left
  · have e : i = xs.length := by omega
    subst e
    exact .inl ⟨w1.stops H3 (.of (g3 _ _ ha)), hd _ g3 h3⟩
  refine .inr ⟨w1.goes i H3 hlt (.of (g3 _ _ ha)), fun H' => i + 1 ≤ xs.length ∧ Same H1 H' ∧ H' D = some (.lst ((rowsB f (i + 1) ys.length).map V.bl)), fun H' z => ⟨xs.length - (i + 1), by omega, rfl, z.1, z.2⟩, fun x H' hy => ?_⟩
  obtain ⟨rfl, hx⟩ := w1.yields i H3 x H' hlt (.of (g3 _ _ ha)) hy
  refine ⟨hw x, ?_⟩
  unfold tYes
  refine iteT ⟨_, hv x, b, rfl, ⟨_, .of (g3 _ _ hb)⟩, ?_⟩
  refine ⟨fun j m H' => m = ys.length - j ∧ j ≤ ys.length ∧ Same H1 H' ∧ H' D = some (.lst ((rowsB f i ys.length ++ (List.range j).map (f i)).map V.bl)), ⟨_, rfl, Nat.zero_le _, g3, by rw [h3]; simp⟩, ?_⟩
  rintro j m H4 ⟨rfl, hj, g4, h4⟩
  by_cases hjt : j < ys.length
  rotate_left
  · have e : j = ys.length := by omega
    subst e
    exact .inl ⟨w2.stops H4 (.of (g4 _ _ hb)), hlt, g4, by rw [h4, rowsB_succ]⟩
  refine .inr ⟨w2.goes j H4 hjt (.of (g4 _ _ hb)), fun H' => j + 1 ≤ ys.length ∧ Same H1 H' ∧ H' D = some (.lst ((rowsB f i ys.length ++ (List.range (j + 1)).map (f i)).map V.bl)), fun H' z => ⟨ys.length - (j + 1), by omega, rfl, z.1, z.2⟩, fun y H' hy => ?_⟩
  obtain ⟨rfl, hyy⟩ := w2.yields j H4 y H' hjt (.of (g4 _ _ hb)) hy
  refine ⟨hw1 x y, ?_⟩
  refine iteT ?_
  refine hs i j x y _ hx hyy g4 _ fun H5 g5 => ?_
  refine ⟨_, g5 _ _ h4, szt ?_, hjt, fun c o q => ?_, ?_⟩
  · rw [List.length_map, List.length_append, rowsB_len, List.length_map, List.length_range]
    have : i * ys.length ≤ xs.length * ys.length := Nat.mul_le_mul_right _ hi
    have : ys.length ≤ xs.length * ys.length := Nat.le_mul_of_pos_left _ (by omega)
    omega
  · rw [upd_ne (ne_of_none q hD)]; exact g5 _ _ (g4 _ _ q)
  · rw [upd_same, List.range_succ]
    simp
/-! ### slices and sums of tuples, whichever object tells them -/
section
variable {K : PySem.W.Frag} {a b : Addr} {xs ys : List V} {H : Hp} {Q : VK}
theorem slA_any {lo hi : Option Int} (h : H a = some (.tup xs)) (k : ∀ b H', Same H H' → H' b = some (.tup (cutV xs lo hi)) → Q (.ref b) H') : rSlA K (.ref a) lo hi H Q := by
  refine ⟨a, xs, rfl, .of h, fun z => k a H (Same.refl _) ?_, fun z p hp => k p _ (same_new hp _) upd_same⟩
  have e : cutV xs lo hi = xs := by
    unfold cutV
    rw [z.1, z.2, List.drop_zero]
    exact List.take_of_length_le (by omega)
  rw [e]; exact h
theorem noP_in {σ : L2.St} {k : Option Int → Hp → Prop} (h : k none H) : tNoPart σ H k := h
theorem catA_any (ha : H a = some (.tup xs)) (hb : H b = some (.tup ys)) (hl : xs.length + ys.length ≤ 10000000) (k : ∀ c H', Same H H' → H' c = some (.tup (xs ++ ys)) → Q (.ref c) H') : rCatA K (.ref a) (.ref b) H Q := by
  refine ⟨a, b, xs, ys, rfl, rfl, .of ha, .of hb, szl hl, fun z => k b H (Same.refl _) ?_, fun _ z => k a H (Same.refl _) ?_, fun _ _ p hp => k p _ (same_new hp _) upd_same⟩
  · rw [z]; exact hb
  · rw [z, List.append_nil]; exact ha
theorem cutA_from {n : Nat} : cutV xs (some ((n : Nat) : Int)) none = xs.drop n := by
  have h1 : HT.sIx xs.length 0 (some ((n : Nat) : Int)) = min n xs.length := HT.sIx_nat _ _ n
  have h2 : HT.sIx xs.length xs.length none = xs.length := rfl
  unfold cutV
  rw [h1, h2]
  by_cases c : n ≤ xs.length
  · rw [Nat.min_eq_left c]; exact List.take_of_length_le (by rw [List.length_drop]; omega)
  · rw [Nat.min_eq_right (by omega), List.drop_of_length_le (by omega : xs.length ≤ n), List.drop_length, List.take_nil]
theorem cutA_to {n : Nat} : cutV xs none (some ((n : Nat) : Int)) = xs.take n := by
  have h1 : HT.sIx xs.length xs.length (some ((n : Nat) : Int)) = min n xs.length := HT.sIx_nat _ _ n
  have h2 : HT.sIx xs.length 0 none = 0 := rfl
  unfold cutV
  rw [h1, h2, List.drop_zero, Nat.sub_zero]
  by_cases c : n ≤ xs.length
  · rw [Nat.min_eq_left c]
  · rw [Nat.min_eq_right (by omega), List.take_length, List.take_of_length_le (by omega)]
end
/-! ### None in a tuple -/
def rInT (K : PySem.W.Frag) (neg : Bool) : R2 := fun x y H Q => ∃ d ds, Dp K H x d ∧ Dp K H y (.tuple ds) ∧ SeqAt.shaped d = true ∧ SeqAt.shaped (.tuple ds) = true ∧ Q (.bl (if neg then !(ds.any fun z => PyData.eqv z d) else ds.any fun z => PyData.eqv z d)) H
section
variable {X : Cx}
theorem op_inT {K : PySem.W.Frag} (hu : X.A.units + 65 < cLine) (e : X.K = K := by rfl) : OpR X (compareOp .In) (rInT K false) := by
  subst e
  intro pins s σ H x y v u Q I rx ry h
  obtain ⟨d, ds, hd, he, sd, se, q⟩ := h
  obtain ⟨as, r1⟩ := Dp.reads I d x v hd rx
  obtain ⟨bs, r2⟩ := Dp.reads I (.tuple ds) y u he ry
  exact SeqAt.in_tuple_reads r2 r1 (SeqAt.canLay_of_shaped se) (SeqAt.canLay_of_shaped sd) (room_in_shaped sd hu) ⟨.bl _, H, I, rfl, q⟩
theorem op_notInT {K : PySem.W.Frag} (hu : X.A.units + 65 < cLine) (e : X.K = K := by rfl) : OpR X (compareOp .NotIn) (rInT K true) := by
  subst e
  intro pins s σ H x y v u Q I rx ry h
  obtain ⟨d, ds, hd, he, sd, se, q⟩ := h
  obtain ⟨as, r1⟩ := Dp.reads I d x v hd rx
  obtain ⟨bs, r2⟩ := Dp.reads I (.tuple ds) y u he ry
  exact SeqAt.notIn_tuple_reads r2 r1 (SeqAt.canLay_of_shaped se) (SeqAt.canLay_of_shaped sd) (room_in_shaped sd hu) ⟨.bl _, H, I, rfl, q⟩
end
end Fp
/-! rows of views, as data: what the program asks, what the law asks, and that both are one -/
namespace Fp
open PySem PySem.Spec PyProof.Rows L2
def adjLt (l : List Int) : Bool := (List.range (l.length - 1)).all fun i => decide (l.getD i 0 < l.getD (i + 1) 0)
theorem getD_lt {l : List Int} {i : Nat} (h : i < l.length) : l.getD i 0 = l[i] := by rw [List.getD_eq_getElem?_getD, List.getElem?_eq_getElem h] <;> rfl
theorem adjLt_iff : ∀ {l : List Int}, adjLt l = true ↔ l.Pairwise (· < ·)
  | [] => by simp [adjLt]
  | [a] => by simp [adjLt]
  | a :: b :: r => by
    have ih := adjLt_iff (l := b :: r)
    have e : adjLt (a :: b :: r) = (decide (a < b) && adjLt (b :: r)) := by
      unfold adjLt
      rw [show (a :: b :: r).length - 1 = r.length + 1 by simp, List.range_succ_eq_map, List.all_cons, List.all_map]
      simp [Function.comp_def]
    rw [e, Bool.and_eq_true, ih, decide_eq_true_iff]
    constructor
    · rintro ⟨h1, h2⟩
      refine List.pairwise_cons.mpr ⟨fun x hx => ?_, h2⟩
      rcases List.mem_cons.mp hx with rfl | hx
      · exact h1
      · exact Int.lt_trans h1 ((List.pairwise_cons.mp h2).1 x hx)
    · intro h
      exact ⟨(List.pairwise_cons.mp h).1 b (by simp), (List.pairwise_cons.mp h).2⟩
def lotOf : Dt → List Int
  | .tup ds => ds.map Dt.toInt
  | _ => []
def lotB : Dt → Bool
  | .tup ds => ds.all Dt.wnn && adjLt (ds.map Dt.toInt)
  | _ => false
def viewB (n h : Int) (d : Dt) : Bool := lotB d && (decide (h ∈ lotOf d) && decide ((lotOf d).getLastD 0 < n))
def fitB (p q : Int × List Int) : Bool := if q.1 ∈ p.2 then q.2.all (fun x => decide (x ∈ p.2)) else p.2.all (fun x => decide (x ∈ q.2))
/-- where a row has views -/
def thr (ds : List Dt) : List Nat := (List.range ds.length).filter fun i => !(ds.getD i .non).isNon
def vwAt (ds : List Dt) (i : Nat) : List Int := lotOf (ds.getD i .non)
def prs (ds : List Dt) : List (Int × List Int) := (thr ds).map fun i : Nat => (((i : Nat) : Int), vwAt ds i)
def vwsB (n : Int) (ds : List Dt) : Bool := (List.range ds.length).all fun i => (ds.getD i .non).isNon || viewB n i (ds.getD i .non)
def atB (n : Nat) : Dt → Bool
  | .tup ds => decide (ds.length = n) && (vwsB n ds && (decide (0 < (prs ds).length) && (prs ds).all fun p => (prs ds).all fun q => fitB p q))
  | _ => false
def hasNon : Dt → Bool
  | .tup ds => ds.any Dt.isNon
  | _ => false
def wholeB (n : Nat) (d : Dt) : Bool := atB n d && !hasNon d
/-- the law's own look -/
def inB (n : Int) (d : Dt) : Bool := d.isInt && decide (0 ≤ d.toInt ∧ d.toInt ≤ n)
def lotOfB (n : Int) : Dt → Bool
  | .tup ds => ds.all (inB (n - 1)) && adjLt (ds.map Dt.toInt)
  | _ => false
def withinB (l m : List Int) : Bool := l.all fun x => decide (x ∈ m)
def okPair (ds : List Dt) (i j : Nat) : Bool :=
  (withinB (vwAt ds i) (vwAt ds j) || withinB (vwAt ds j) (vwAt ds i)) && !(decide (((i : Nat) : Int) ∈ vwAt ds j) && !withinB (vwAt ds i) (vwAt ds j))
def lawVw (n : Int) (ds : List Dt) (i : Nat) : Bool := lotOfB n (ds.getD i .non) && decide ((i : Int) ∈ vwAt ds i)
def lawRowB (n : Nat) : Dt → Bool
  | .tup ds => (decide (ds.length = n) && !(ds.all Dt.isNon)) && ((thr ds).all (lawVw n ds) && (thr ds).all fun i => (thr ds).all fun j => okPair ds i j)
  | _ => false
theorem mem_thr {ds : List Dt} {i : Nat} : i ∈ thr ds ↔ i < ds.length ∧ (ds.getD i .non).isNon = false := by
  unfold thr
  rw [List.mem_filter, List.mem_range]
  simp
theorem last_lt {l : List Int} (hp : l.Pairwise (· < ·)) (x : Int) (hx : x ∈ l) : x ≤ l.getLastD 0 := by
  rcases List.eq_nil_or_concat l with rfl | ⟨l0, z, e⟩
  · cases hx
  · rw [List.concat_eq_append] at e
    subst e
    rw [List.getLastD_eq_getLast?, List.getLast?_append]
    simp only [List.getLast?_singleton, Option.some_or, Option.getD_some]
    rcases List.mem_append.mp hx with h | h
    · exact Int.le_of_lt ((List.pairwise_append.mp hp).2.2 x h z (by simp))
    · rw [List.mem_singleton.mp h]; exact Int.le_refl _
theorem last_mem {l : List Int} (h : l ≠ []) : l.getLastD 0 ∈ l := by
  rcases List.eq_nil_or_concat l with rfl | ⟨l0, z, e⟩
  · exact absurd rfl h
  · rw [List.concat_eq_append] at e
    subst e
    rw [List.getLastD_eq_getLast?, List.getLast?_append]
    simp
theorem wnn_iff {x : Dt} : x.wnn = true ↔ x.isInt = true ∧ 0 ≤ x.toInt := by
  cases x <;> simp [Dt.wnn, Dt.isInt, Dt.toInt]
theorem inB_iff {n : Int} {x : Dt} : inB n x = true ↔ x.isInt = true ∧ 0 ≤ x.toInt ∧ x.toInt ≤ n := by
  unfold inB
  rw [Bool.and_eq_true, decide_eq_true_iff]
theorem lotB_tup {es : List Dt} : lotB (.tup es) = true ↔ (∀ x ∈ es, x.isInt = true ∧ 0 ≤ x.toInt) ∧ (es.map Dt.toInt).Pairwise (· < ·) := by
  show (es.all Dt.wnn && adjLt (es.map Dt.toInt)) = true ↔ _
  rw [Bool.and_eq_true, List.all_eq_true, adjLt_iff]
  exact and_congr (forall_congr' fun x => forall_congr' fun _ => wnn_iff) Iff.rfl
theorem lotOfB_tup {n : Int} {es : List Dt} : lotOfB n (.tup es) = true ↔ (∀ x ∈ es, x.isInt = true ∧ 0 ≤ x.toInt ∧ x.toInt ≤ n - 1) ∧ (es.map Dt.toInt).Pairwise (· < ·) := by
  show (es.all (inB (n - 1)) && adjLt (es.map Dt.toInt)) = true ↔ _
  rw [Bool.and_eq_true, List.all_eq_true, adjLt_iff]
  exact and_congr (forall_congr' fun x => forall_congr' fun _ => inB_iff) Iff.rfl
theorem viewB_iff {n h : Int} {d : Dt} : viewB n h d = true ↔ lotB d = true ∧ h ∈ lotOf d ∧ (lotOf d).getLastD 0 < n := by
  unfold viewB
  rw [Bool.and_eq_true, Bool.and_eq_true, decide_eq_true_iff, decide_eq_true_iff]
theorem lawVw_iff {n : Int} {ds : List Dt} {i : Nat} : lawVw n ds i = true ↔ lotOfB n (ds.getD i .non) = true ∧ ((i : Nat) : Int) ∈ lotOf (ds.getD i .non) := by
  unfold lawVw vwAt
  rw [Bool.and_eq_true, decide_eq_true_iff]
theorem view_one {n h : Int} {d : Dt} : viewB n h d = true ↔ lotOfB n d = true ∧ h ∈ lotOf d := by
  rw [viewB_iff]
  cases d with
  | tup es =>
    rw [lotB_tup, lotOfB_tup]
    show _ ∧ h ∈ es.map Dt.toInt ∧ (es.map Dt.toInt).getLastD 0 < n ↔ _ ∧ h ∈ es.map Dt.toInt
    constructor
    · rintro ⟨⟨h1, h2⟩, h3, h4⟩
      refine ⟨⟨fun x hx => ?_, h2⟩, h3⟩
      have l := last_lt h2 x.toInt (List.mem_map.mpr ⟨_, hx, rfl⟩)
      obtain ⟨a, b⟩ := h1 x hx
      exact ⟨a, b, by omega⟩
    · rintro ⟨⟨h1, h2⟩, h3⟩
      refine ⟨⟨fun x hx => ⟨(h1 x hx).1, (h1 x hx).2.1⟩, h2⟩, h3, ?_⟩
      have hm := last_mem (l := es.map Dt.toInt) (fun z => by rw [z] at h3; cases h3)
      obtain ⟨x, hx, e⟩ := List.mem_map.mp hm
      have hw := (h1 x hx).2.2
      rw [← e]
      omega
  | non => exact ⟨fun z => (by cases z.1), fun z => (by cases z.1)⟩
  | bl _ => exact ⟨fun z => (by cases z.1), fun z => (by cases z.1)⟩
  | int _ => exact ⟨fun z => (by cases z.1), fun z => (by cases z.1)⟩
  | oth => exact ⟨fun z => (by cases z.1), fun z => (by cases z.1)⟩
theorem view_law {n : Int} {ds : List Dt} {i : Nat} : viewB n i (ds.getD i .non) = lawVw n ds i := by
  rw [Bool.eq_iff_iff, lawVw_iff, view_one]
theorem vws_thr {n : Int} {ds : List Dt} : vwsB n ds = (thr ds).all (lawVw n ds) := by
  unfold vwsB
  rw [Bool.eq_iff_iff, List.all_eq_true, List.all_eq_true]
  constructor
  · intro h i hi
    obtain ⟨h1, h2⟩ := mem_thr.mp hi
    have := h i (List.mem_range.mpr h1)
    rw [h2, Bool.false_or, view_law] at this
    exact this
  · intro h i hi
    cases e : (ds.getD i .non).isNon with
    | true => rfl
    | false =>
      rw [Bool.false_or, view_law]
      exact h i (mem_thr.mpr ⟨List.mem_range.mp hi, e⟩)
theorem within_iff {l m : List Int} : withinB l m = true ↔ ∀ x ∈ l, x ∈ m := by
  unfold withinB
  simp
theorem fit_iff {a b : Int} {l m : List Int} : fitB (a, l) (b, m) = true ↔ (b ∈ l → ∀ x ∈ m, x ∈ l) ∧ (b ∉ l → ∀ x ∈ l, x ∈ m) := by
  unfold fitB
  dsimp only
  by_cases h : b ∈ l
  · rw [if_pos h]; simp [h]
  · rw [if_neg h]; simp [h]
theorem pair_iff {ds : List Dt} {i j : Nat} : okPair ds i j = true ↔ ((∀ x ∈ vwAt ds i, x ∈ vwAt ds j) ∨ ∀ x ∈ vwAt ds j, x ∈ vwAt ds i) ∧ ((i : Int) ∈ vwAt ds j → ∀ x ∈ vwAt ds i, x ∈ vwAt ds j) := by
  unfold okPair
  rw [Bool.and_eq_true, Bool.or_eq_true, within_iff, within_iff]
  refine and_congr Iff.rfl ?_
  rw [Bool.not_eq_true', Bool.and_eq_false_iff, decide_eq_false_iff_not, Bool.not_eq_false', within_iff]
  by_cases h : (i : Int) ∈ vwAt ds j <;> simp [h]
/-- both looks are one -/
theorem fits_pairs {n : Int} {ds : List Dt} (hv : (thr ds).all (lawVw n ds) = true) : ((prs ds).all fun p => (prs ds).all fun q => fitB p q) = (thr ds).all fun i => (thr ds).all fun j => okPair ds i j := by
  have own : ∀ i ∈ thr ds, (i : Int) ∈ vwAt ds i := fun i hi => by
    have := List.all_eq_true.mp hv i hi
    unfold lawVw at this
    rw [Bool.and_eq_true, decide_eq_true_eq] at this
    exact this.2
  unfold prs
  rw [List.all_map, Bool.eq_iff_iff]
  simp only [List.all_eq_true, Function.comp_apply, List.all_map]
  constructor
  · intro h i hi j hj
    have a := fit_iff.mp (h i hi j hj)
    have b := fit_iff.mp (h j hj i hi)
    refine pair_iff.mpr ⟨?_, b.1⟩
    by_cases c : (j : Int) ∈ vwAt ds i
    · exact .inr (a.1 c)
    · exact .inl (a.2 c)
  · intro h i hi j hj
    have a := pair_iff.mp (h i hi j hj)
    have b := pair_iff.mp (h j hj i hi)
    refine fit_iff.mpr ⟨b.2, fun c => ?_⟩
    rcases a.1 with z | z
    · exact z
    · exact absurd (z _ (own j hj)) c
theorem law_row {n : Nat} (hn : 0 < n) : ∀ d, lawRowB n d = atB n d
  | .tup ds => by
    unfold lawRowB atB
    dsimp only
    by_cases hl : ds.length = n
    · rw [decide_eq_true hl, Bool.true_and, Bool.true_and, vws_thr]
      cases hv : (thr ds).all (lawVw n ds) with
      | false => rw [Bool.false_and, Bool.false_and, Bool.and_false]
      | true =>
        rw [Bool.true_and, Bool.true_and, fits_pairs hv]
        congr 1
        rw [Bool.eq_iff_iff, decide_eq_true_eq, Bool.not_eq_true', List.all_eq_false]
        unfold prs
        rw [List.length_map, List.length_pos_iff_exists_mem]
        constructor
        · rintro ⟨d, hd, h⟩
          obtain ⟨i, hi⟩ := List.mem_iff_getElem?.mp hd
          refine ⟨i, mem_thr.mpr ⟨(List.getElem?_eq_some_iff.mp hi).1, ?_⟩⟩
          rw [List.getD_eq_getElem?_getD, hi]
          simpa using h
        · rintro ⟨i, hi⟩
          obtain ⟨h1, h2⟩ := mem_thr.mp hi
          refine ⟨ds[i], List.getElem_mem h1, ?_⟩
          rw [List.getD_eq_getElem?_getD, List.getElem?_eq_getElem h1] at h2
          simp only [Option.getD_some] at h2
          rw [h2]; simp
    · rw [decide_eq_false hl]
      rfl
  | .non => rfl
  | .bl _ => rfl
  | .int _ => rfl
  | .oth => rfl
end Fp
namespace Fp
open PySem PySem.Spec PyProof.Rows L2
def top (i : Nat) : Stmt := PySem.Challenge.pw_fewplaymany_k29_all_rows_of_views_counte.main.body.getD i (.Pass ⟨0, 0, 0, 0⟩)
structure RTx (mg : Str → Option Value) : Prop where
  isinstance : mg "isinstance" = none
  int : mg "int" = none
  bool : mg "bool" = none
  tuple : mg "tuple" = none
  list : mg "list" = none
  all : mg "all" = none
  any : mg "any" = none
  len : mg "len" = none
  sum : mg "sum" = none
  abs : mg "abs" = none
  max : mg "max" = none
  min : mg "min" = none
  range : mg "range" = none
  repr : mg "repr" = none
  set : mg "set" = none
  sorted : mg "sorted" = none
  zip : mg "zip" = none
  enumerate : mg "enumerate" = none
  c_MOST_HANDS : ∃ t, mg "MOST_HANDS" = some (.int 5 t)
def spWhD : Sp := fun vs H Q _ => ∃ v d, vs = [v] ∧ DV H v d ∧ Q (.bl d.isInt) H
def spLotD : Sp := fun vs H Q _ => ∃ v d, vs = [v] ∧ DV H v d ∧ ∀ H', Same H H' → Q (.bl (lotB d)) H'
def spViewD : Sp := fun vs H Q _ => ∃ (n h : Int) (v : V) (d : Dt), vs = [.int n, .int h, v] ∧ DV H v d ∧ ∀ H', Same H H' → Q (.bl (viewB n h d)) H'
def spLiesD : Sp := fun vs H Q _ => ∃ (a b : Addr) (l m : List Int), vs = [.ref a, .ref b] ∧ H a = some (.tup (l.map V.int)) ∧ H b = some (.tup (m.map V.int)) ∧ l.length ≤ 1000 ∧ ∀ H', Same H H' → Q (.bl (withinB l m)) H'
def spFitD : Sp := fun vs H Q _ => ∃ (t u a b : Addr) (p q : Int) (l m : List Int), vs = [.ref t, .ref u] ∧ H t = some (.tup [.int p, .ref a]) ∧ H u = some (.tup [.int q, .ref b]) ∧ H a = some (.tup (l.map V.int)) ∧ H b = some (.tup (m.map V.int)) ∧ l.length ≤ 1000 ∧ m.length ≤ 1000 ∧ ∀ H', Same H H' → Q (.bl (fitB (p, l) (q, m))) H'
def spChkD : Sp := fun vs H Q _ => ∃ n : Nat, vs = [.int n] ∧ 1 ≤ n ∧ n ≤ 5 ∧ Q .non H
def spAtD : Sp := fun vs H Q _ => ∃ (n : Nat) (v : V) (d : Dt), vs = [.int n, v] ∧ 1 ≤ n ∧ n ≤ 5 ∧ DV H v d ∧ ∀ H', Same H H' → Q (.bl (atB n d)) H'
def spRowD : Sp := fun vs H Q _ => ∃ (n : Nat) (v : V) (d : Dt), vs = [.int n, v] ∧ 1 ≤ n ∧ n ≤ 5 ∧ DV H v d ∧ ∀ H', Same H H' → Q (.bl (wholeB n d)) H'
theorem int_flat : ∀ l : List Int, (l.map V.int).all flatV = true
  | [] => rfl
  | a :: l => by
    show (flatV (V.int a) && (l.map V.int).all flatV) = true
    rw [int_flat l]; rfl
theorem inV_int (p : Int) (l : List Int) : inV (.int p) (l.map V.int) = decide (p ∈ l) := by
  unfold inV
  rw [List.any_map, Bool.eq_iff_iff, List.any_eq_true, decide_eq_true_iff]
  have e : ∀ a b : Int, eqV (V.int a) (V.int b) = true ↔ a = b := fun a b => by
    show (a == b) = true ↔ a = b
    rw [beq_iff_eq]
  constructor
  · rintro ⟨x, hx, h⟩
    have := (e x p).mp h
    rw [← this]; exact hx
  · intro h
    exact ⟨p, h, (e p p).mpr rfl⟩
theorem inI (p : Int) (l : List Int) : (if false = true then !inV (.int p) (l.map V.int) else inV (.int p) (l.map V.int)) = decide (p ∈ l) := by rw [inV_int]; rfl
theorem op_in_seqK {X : Cx} {K : PySem.W.Frag} (e : X.K = K := by rfl) : OpR X (compareOp .In) (rIn K false) := by subst e; exact op_in_seq
/-- a lot's values -/
theorem DVs.ints {H : Hp} : ∀ {xs : List V} {ds : List Dt}, DVs H xs ds → (∀ x ∈ ds, x.isInt = true) → xs = (ds.map Dt.toInt).map V.int
  | _, _, .nil, _ => rfl
  | _, _, .cons h t, k => by
    have e := DVs.ints t fun x hx => k x (List.mem_cons_of_mem _ hx)
    have i := k _ List.mem_cons_self
    cases h with
    | int i => rw [e]; rfl
    | _ => cases i
theorem DV.lot {H : Hp} {v : V} {d : Dt} (h : DV H v d) (l : lotB d = true) : ∃ a, v = .ref a ∧ H a = some (.tup ((lotOf d).map V.int)) ∧ (lotOf d).length ≤ 1000 := by
  cases h with
  | @tup a xs ds ha t hl =>
    have := DVs.ints t fun x hx => ((lotB_tup.mp l).1 x hx).1
    rw [this] at ha
    exact ⟨a, rfl, ha, by show (ds.map Dt.toInt).length ≤ _; rw [List.length_map]; exact hl⟩
  | _ => cases l
section
variable {P : Program} {w : World} {K : PySem.W.Frag} {mg : Str → Option Value} {base : Heap} {f : Addr} {fd : FuncData} {C : Addr}
abbrev s_is_whole : Stmt := top 6
theorem sc_is_whole : FnScope ["value"] ["value"] (defScope s_is_whole) := ⟨rfl, rfl, rfl, by decide +kernel, rfl, by decide +kernel, by decide +kernel⟩
theorem ok_is_whole (F : Fun K "is_whole" "is_whole" s_is_whole f fd) (T : RTx mg) : FnOk P w K mg base CX0 1 f fd ["value"] spWhD := by
  refine F.ok sc_is_whole (fun vs H Q E h => ?_) (fun cdv A outer s H vs Q E hr h => ?_)
  · obtain ⟨v, d, rfl, _⟩ := h
    rfl
  obtain ⟨v, d, rfl, hd, q⟩ := h
  refine ⟨_, (pss_one (ps_ret (pe_and (pe_callB call_isi rfl T.isinstance (by decide +kernel) (pa_cons (pv 0) (pa_cons (pe_bltn (v := .ty "int") rfl T.int boot_int rfl) pa_nil))) (pe_one (pe_not (pe_callB call_isi rfl T.isinstance (by decide +kernel) (pa_cons (pv 0) (pa_cons (pe_bltn (v := .ty "bool") rfl T.bool boot_bool rfl) pa_nil)))))))), ?_⟩
  obtain ⟨t, ty, k1, k2, _⟩ := hd.ty (K := K)
  refine ⟨_, rfl, _, _, _, _, _, rfl, .ty "int", ty, k1, _, rfl, ite2 (fun c => ?_) (fun c => ?_)⟩
  · refine ⟨_, rfl, _, _, _, _, _, rfl, .ty "bool", ty, k2, _, rfl, ?_⟩
    have e : d.isInt = !d.isBl := by cases d <;> first | rfl | cases c
    rw [e] at q
    exact q
  · have e : d.isInt = false := by cases d <;> first | rfl | exact absurd rfl c
    rw [e] at q
    exact q
abbrev s_check_many : Stmt := top 15
theorem sc_check_many : FnScope ["many"] ["many"] (defScope s_check_many) := ⟨rfl, rfl, rfl, by decide +kernel, rfl, by decide +kernel, by decide +kernel⟩
theorem ok_check_many (F : Fun K "check_many" "check_many" s_check_many f fd) (T : RTx mg) (G_is_whole : Fd P w K mg base CX0 "is_whole" 1 ["value"] spWhD) : FnOk P w K mg base CX0 2 f fd ["many"] spChkD := by
  refine F.ok sc_check_many (fun vs H Q E h => ?_) (fun cdv A outer s H vs Q E hr h => ?_)
  · obtain ⟨n, rfl, _⟩ := h
    rfl
  obtain ⟨n, rfl, h1, h5, k⟩ := h
  refine ⟨_, (pss_one (ps_if (PW.pt (pw_or (pt_not (pt_val (pe_fd G_is_whole (hr.mono (by first | decide | omega)) rfl (pa_cons (pv 0) pa_nil)))) (pw_or1 (pt_not (pt_chain op_le op_le pe_int (pv 0) (pe_cI T.c_MOST_HANDS)))))) (pss_one (ps_no)) pss_nil)), ?_⟩
  have hn : (1 : Int) ≤ n ∧ (n : Int) ≤ 5 := by omega
  refine ⟨_, rfl, _, _, rfl, .int n, _, rfl, iteF ⟨_, rfl, _, _, rfl, rfl, _, rfl, ite_yes (decide_eq_true hn.1) ⟨_, _, rfl, rfl, _, rfl, ?_⟩⟩⟩
  rw [decide_eq_true hn.2]
  exact iteF k
abbrev s_is_lot : Stmt := top 7
theorem sc_is_lot : FnScope ["value", "one", "other", "thing"] ["value"] (defScope s_is_lot) := ⟨rfl, rfl, rfl, by decide +kernel, rfl, by decide +kernel, by decide +kernel⟩
theorem ok_is_lot (F : Fun K "is_lot" "is_lot" s_is_lot f fd) (T : RTx mg) (G_is_whole : Fd P w K mg base CX0 "is_whole" 1 ["value"] spWhD) : FnOk P w K mg base CX0 2 f fd ["value"] spLotD := by
  refine F.ok sc_is_lot (fun vs H Q E h => ?_) (fun cdv A outer s H vs Q E hr h => ?_)
  · obtain ⟨v, d, rfl, _⟩ := h
    rfl
  obtain ⟨v, d, rfl, hd, k⟩ := h
  refine ⟨_, (pss_cons (ps_if (pt_not (pt_val (pe_callB call_isi rfl T.isinstance (by decide +kernel) (pa_cons (pv 0) (pa_cons (pe_bltn (v := .ty "tuple") rfl T.tuple boot_tuple rfl) pa_nil))))) (pss_one (ps_ret pe_bl)) pss_nil)
  (pss_cons (ps_if (pt_not (pt_val (pe_callB (cr_all rfl) rfl T.all (by decide +kernel) (pa_cons (pe_lc (own := [("thing", 3)]) (g := (gName 3)) (tt := tYes) rfl sc_is_lot.nd (pi_tup (pv 0)) (blkOk_by (own := [("thing", 3)]) (N := ["value", "one", "other", "thing"]) (sc := defScope s_is_lot) (by decide +kernel)) (fun _ _ _ _ _ => (pg_name (i := 3) sc_is_lot.nd rfl (Or.inl rfl))) (fun _ _ _ _ _ => pts_nil) (fun _ _ _ _ _ => (pe_and (pe_fd G_is_whole (hr.mono (by first | decide | omega)) rfl (pa_cons (pv 3) pa_nil)) (pe_one (pe_cmpR op_ge (pv 3) pe_int (nomark _)))))) pa_nil)))) (pss_one (ps_ret pe_bl)) pss_nil)
  (pss_one (ps_ret (pe_callB (cr_all rfl) rfl T.all (by decide +kernel) (pa_cons (pe_lc (own := [("one", 1), ("other", 2)]) (g := (gTup K 2 (gCons (gName 1) (gCons (gName 2) gNil)))) (tt := tYes) rfl sc_is_lot.nd (RZ.pi_zipA rfl T.zip (pa_cons (pv 0) (pa_cons (pe_slice sl_tupA (pv 0) (po_some pe_int) po_none) pa_nil))) (blkOk_by (own := [("one", 1), ("other", 2)]) (N := ["value", "one", "other", "thing"]) (sc := defScope s_is_lot) (by decide +kernel)) (fun _ _ _ _ _ => (pg_tup rfl (pgs_cons (pg_name (i := 1) sc_is_lot.nd rfl (Or.inl rfl)) (pgs_cons (pg_name (i := 2) sc_is_lot.nd rfl (Or.inl rfl)) pgs_nil)))) (fun _ _ _ _ _ => pts_nil) (fun _ _ _ _ _ => (pe_cmpR op_lt (pv 1) (pv 2) (nomark _)))) pa_nil)))))), ?_⟩
  obtain ⟨t, ty, _, _, k3⟩ := hd.ty (K := K)
  refine ⟨_, rfl, _, _, _, _, _, rfl, .ty "tuple", ty, k3, _, rfl, ite2 (fun c => ?_) (fun c => ?_)⟩
  · have e : lotB d = false := by cases d <;> first | rfl | cases c
    rw [e] at k
    exact k _ (Same.refl _)
  cases hd with
  | @tup a xs ds ha hds hl =>
    have hxl := hds.len
    refine ⟨_, rfl, a, rfl, ⟨_, .of ha⟩, fun D hD => ?_⟩
    refine lc_bools walk_tup (fun i => (ds.getD i .non).wnn) hD (by omega) (fun H' g => .of (g _ _ ha)) (fun i x H1 H2 hi g y Q4 N kk => ?_) fun H1 g1 h1 => ?_
    · obtain ⟨rfl, hx⟩ := y
      obtain ⟨dx, hdx, vx⟩ := DVs.at_ hds hx
      have eg : ds.getD i .non = dx := by rw [List.getD_eq_getElem?_getD, hdx] <;> rfl
      rw [eg] at kk
      have vx1 := vx.same g
      refine ⟨rfl, ?_⟩
      unfold tYes
      refine iteT ?_
      refine ⟨_, rfl, _, _, rfl, vx1, _, rfl, ite2 (fun c => ?_) (fun c => ?_)⟩
      · cases vx1 with
        | int z => exact ⟨_, rfl, _, _, rfl, rfl, kk _ (Same.refl _)⟩
        | _ => cases c
      · have e : dx.wnn = false := by cases dx <;> first | rfl | exact absurd rfl c
        rw [e] at kk
        exact kk _ (Same.refl _)
    refine ⟨D, _, rfl, .of h1, _, rfl, ?_⟩
    rw [all_id_map, hxl, all_getD]
    refine ite2 (fun c2 => ?_) (fun c2 => ?_)
    · have e : lotB (.tup ds) = false := by
        show (ds.all Dt.wnn && adjLt (ds.map Dt.toInt)) = false
        rw [show ds.all Dt.wnn = false by simpa using c2]; rfl
      rw [e] at k
      exact k _ g1
    have hw : ds.all Dt.wnn = true := by simpa using c2
    have ei : xs = (ds.map Dt.toInt).map V.int := DVs.ints hds fun x hx => (wnn_iff.mp (List.all_eq_true.mp hw x hx)).1
    have el : lotB (.tup ds) = adjLt (ds.map Dt.toInt) := by
      show (ds.all Dt.wnn && adjLt (ds.map Dt.toInt)) = _
      rw [hw]; rfl
    generalize hg : ds.map Dt.toInt = l at ei el
    have hll : l.length ≤ 1000 := by rw [← hg, List.length_map]; exact hl
    subst ei
    rw [el] at k
    have ha1 := g1 _ _ ha
    refine ⟨_, rfl, _, rfl, 1, rfl, ?_⟩
    refine noP_in ?_
    refine slA_any ha1 fun b H2 g2 hb => ?_
    rw [show (1 : Int) = ((1 : Nat) : Int) from rfl, cutA_from, ← List.map_drop] at hb
    refine ⟨a, b, l.map V.int, (l.drop 1).map V.int, rfl, .inr ⟨.of (g2 _ _ ha1), .of hb, fun D2 hD2 => ?_⟩⟩
    have wz := walk_zipT (K := K) (a := a) (b := b) (xs := l.map V.int) (ys := (l.drop 1).map V.int) (n := l.length - 1) (by rw [List.length_map, List.length_map, List.length_drop]; omega)
    refine lc_bools wz (fun i => decide (l.getD i 0 < l.getD (i + 1) 0)) hD2 (by omega) (fun H' g => ⟨.of (g _ _ (g2 _ _ ha1)), .of (g _ _ hb)⟩) (fun i x H3 H4 hi g y Q4 N kk => ?_) fun H3 g3 h3 => ?_
    · obtain ⟨T', x1, x2, rfl, nT, rfl, e1, e2⟩ := y
      have e1 : (l.map V.int)[i]? = some x1 := e1
      have e2 : ((l.drop 1).map V.int)[i]? = some x2 := e2
      rw [List.getElem?_map, List.getElem?_eq_getElem (by omega)] at e1
      rw [List.getElem?_map, List.getElem?_drop, Nat.add_comm, List.getElem?_eq_getElem (by omega)] at e2
      cases e1
      cases e2
      rw [getD_lt (by omega), getD_lt (by omega)] at kk
      have g4 := same_new nT (.tup [V.int l[i], V.int l[i + 1]])
      exact ⟨T', _, rfl, .of upd_same, rfl, _, _, rfl, _, _, rfl, rfl, rfl, _, rfl, _, rfl, _, _, rfl, rfl, kk _ g4⟩
    refine ⟨D2, _, rfl, .of h3, ?_⟩
    rw [all_id_map]
    exact k _ ((g1.trans g2).trans g3)
  | _ => exact absurd rfl c
abbrev s_lies_in : Stmt := top 11
theorem sc_lies_in : FnScope ["lot", "other", "word"] ["lot", "other"] (defScope s_lies_in) := ⟨rfl, rfl, rfl, by decide +kernel, rfl, by decide +kernel, by decide +kernel⟩
theorem ok_lies_in (F : Fun K "lies_in" "lies_in" s_lies_in f fd) (T : RTx mg) : FnOk P w K mg base CX0 1 f fd ["lot", "other"] spLiesD := by
  refine F.ok sc_lies_in (fun vs H Q E h => ?_) (fun cdv A outer s H vs Q E hr h => ?_)
  · obtain ⟨a, b, l, m, rfl, _⟩ := h
    rfl
  obtain ⟨a, b, l, m, rfl, ha, hb, hl, k⟩ := h
  refine ⟨_, (pss_one (ps_ret (pe_callB (cr_all rfl) rfl T.all (by decide +kernel) (pa_cons (pe_lc (own := [("word", 2)]) (g := (gName 2)) (tt := tYes) rfl sc_lies_in.nd (pi_tup (pv 0)) (blkOk_by (own := [("word", 2)]) (N := ["lot", "other", "word"]) (sc := defScope s_lies_in) (by decide +kernel)) (fun _ _ _ _ _ => (pg_name (i := 2) sc_lies_in.nd rfl (Or.inl rfl))) (fun _ _ _ _ _ => pts_nil) (fun _ _ _ _ _ => (pe_cmpR op_in_seqK (pv 2) (pv 1) rfl))) pa_nil)))), ?_⟩
  refine ⟨_, rfl, a, rfl, ⟨_, .of ha⟩, fun D hD => ?_⟩
  refine lc_bools walk_tup (fun i => decide (l.getD i 0 ∈ m)) hD (by rw [List.length_map]; omega) (fun H' g => .of (g _ _ ha)) (fun i x H1 H2 hi g y Q4 N kk => ?_) fun H1 g1 h1 => ?_
  · obtain ⟨rfl, hx⟩ := y
    rw [List.length_map] at hi
    rw [List.getElem?_map, List.getElem?_eq_getElem hi] at hx
    cases hx
    rw [getD_lt hi] at kk
    refine ⟨rfl, _, rfl, _, rfl, b, _, rfl, .inr (.of (g _ _ hb)), rfl, int_flat m, ?_⟩
    rw [inI]
    exact kk _ (Same.refl _)
  refine ⟨D, _, rfl, .of h1, ?_⟩
  rw [all_id_map, List.length_map, all_getD (p := fun x => decide (x ∈ m)) (x := (0 : Int))]
  exact k _ g1
abbrev s_fit : Stmt := top 18
theorem sc_fit : FnScope ["one", "other", "view", "beside"] ["one", "other"] (defScope s_fit) := ⟨rfl, rfl, rfl, by decide +kernel, rfl, by decide +kernel, by decide +kernel⟩
theorem ok_fit (F : Fun K "fit" "fit" s_fit f fd) (G_lies_in : Fd P w K mg base CX0 "lies_in" 1 ["lot", "other"] spLiesD) : FnOk P w K mg base CX0 2 f fd ["one", "other"] spFitD := by
  refine F.ok sc_fit (fun vs H Q E h => ?_) (fun cdv A outer s H vs Q E hr h => ?_)
  · obtain ⟨t, u, a, b, p, q, l, m, rfl, _⟩ := h
    rfl
  obtain ⟨t, u, a, b, p, q, l, m, rfl, ht, hu, ha, hb, hl, hm, k⟩ := h
  refine ⟨_, (pss_cons (ps_par (i := 2) (j := 3) (by rfl) sc_fit.nd rfl rfl (by decide) rfl rfl (pa_cons (pe_ix ix_tup (pv 0) pe_int (fun _ _ => rfl)) (pa_cons (pe_ix ix_tup (pv 1) pe_int (fun _ _ => rfl)) pa_nil)) (by rfl))
  (pss_cons (ps_if (pt_cmpR op_in_seqK (pe_ix ix_tup (pv 1) pe_int (fun _ _ => rfl)) (pv 2) rfl) (pss_one (ps_ret (pe_fd G_lies_in (hr.mono (by first | decide | omega)) rfl (pa_cons (pv 3) (pa_cons (pv 2) pa_nil))))) pss_nil)
  (pss_one (ps_ret (pe_fd G_lies_in (hr.mono (by first | decide | omega)) rfl (pa_cons (pv 2) (pa_cons (pv 3) pa_nil))))))), ?_⟩
  refine ⟨_, rfl, t, _, _, _, rfl, rfl, .of ht, atI_nat (j := 1) rfl, _, rfl, u, _, _, _, rfl, rfl, .of hu, atI_nat (j := 1) rfl, _, _, rfl, ?_⟩
  refine ⟨_, rfl, u, _, _, _, rfl, rfl, .of hu, atI_nat (j := 0) rfl, _, rfl, a, _, rfl, .inr (.of ha), rfl, int_flat l, _, rfl, ?_⟩
  rw [inI]
  unfold fitB at k
  dsimp only at k
  by_cases hq : q ∈ l
  · rw [decide_eq_true hq]
    rw [if_pos hq] at k
    exact iteT ⟨_, rfl, _, rfl, b, a, m, l, rfl, hb, ha, hm, k⟩
  · rw [decide_eq_false hq]
    rw [if_neg hq] at k
    exact iteF ⟨_, rfl, _, rfl, a, b, l, m, rfl, ha, hb, hl, k⟩
abbrev s_is_view : Stmt := top 17
theorem sc_is_view : FnScope ["many", "hand", "value"] ["many", "hand", "value"] (defScope s_is_view) := ⟨rfl, rfl, rfl, by decide +kernel, rfl, by decide +kernel, by decide +kernel⟩
theorem ok_is_view (F : Fun K "is_view" "is_view" s_is_view f fd) (G_is_lot : Fd P w K mg base CX0 "is_lot" 2 ["value"] spLotD) : FnOk P w K mg base CX0 3 f fd ["many", "hand", "value"] spViewD := by
  refine F.ok sc_is_view (fun vs H Q E h => ?_) (fun cdv A outer s H vs Q E hr h => ?_)
  · obtain ⟨n, p, v, d, rfl, _⟩ := h
    rfl
  obtain ⟨n, p, v, d, rfl, hd, k⟩ := h
  refine ⟨_, (pss_one (ps_ret (pe_and (pe_fd G_is_lot (hr.mono (by first | decide | omega)) rfl (pa_cons (pv 2) pa_nil)) (pe_and (pe_cmpR op_in_seqK (pv 1) (pv 2) rfl) (pe_one (pe_cmpR op_lt (pe_ix ix_tup (pv 2) (pe_un un_neg pe_int) (fun _ _ => rfl)) (pv 0) (nomark _))))))), ?_⟩
  refine ⟨_, rfl, v, d, rfl, hd, fun H1 g1 => ?_⟩
  refine ⟨_, rfl, ite2 (fun c => ?_) (fun c => ?_)⟩
  rotate_left
  · have c : lotB d = false := by simpa using c
    have e : viewB n p d = false := by unfold viewB; rw [c]; rfl
    rw [e] at k
    exact k _ g1
  obtain ⟨a, rfl, ha, hl⟩ := hd.lot c
  have ha1 := g1 _ _ ha
  unfold viewB at k
  rw [c, Bool.true_and] at k
  generalize lotOf d = l at k ha ha1 hl
  refine ⟨_, rfl, _, rfl, a, _, rfl, .inr (.of ha1), rfl, int_flat l, ?_⟩
  rw [inI]
  refine ⟨_, rfl, ite2 (fun c2 => ?_) (fun c2 => ?_)⟩
  rotate_left
  · have c2 : decide (p ∈ l) = false := by simpa using c2
    rw [c2] at k
    exact k _ g1
  rw [c2, Bool.true_and] at k
  have hp := of_decide_eq_true c2
  rcases List.eq_nil_or_concat l with rfl | ⟨l0, z, e⟩
  · cases hp
  rw [List.concat_eq_append] at e
  subst e
  have hsq : SqT K H1 a (l0.map V.int ++ [.int z]) := .of (by rw [ha1, List.map_append]; rfl)
  refine ⟨_, rfl, 1, rfl, a, _, _, _, rfl, rfl, hsq, atI_last _ _, _, rfl, _, _, rfl, rfl, ?_⟩
  have ez : (l0 ++ [z]).getLastD 0 = z := by rw [List.getLastD_eq_getLast?, List.getLast?_append]; rfl
  rw [ez] at k
  exact k _ g1
/-- a pair of a hand and its view -/
def PrV (H : Hp) (v : V) (p : Int × List Int) : Prop := ∃ t a, v = .ref t ∧ H t = some (.tup [.int p.1, .ref a]) ∧ H a = some (.tup (p.2.map V.int)) ∧ p.2.length ≤ 1000
theorem PrV.kd {H H' : Hp} (g : DKp H H') {v : V} {p : Int × List Int} (h : PrV H v p) : PrV H' v p := by
  obtain ⟨t, a, e, h1, h2, h3⟩ := h
  exact ⟨t, a, e, g.t h1, g.t h2, h3⟩
def prsI (ds : List Dt) (i : Nat) : List (Int × List Int) := ((List.range i).filter fun j => !(ds.getD j .non).isNon).map fun j : Nat => (((j : Nat) : Int), vwAt ds j)
theorem prsI_len (ds : List Dt) (i : Nat) : (prsI ds i).length ≤ i := by
  unfold prsI
  rw [List.length_map]
  exact Nat.le_trans (List.length_filter_le _ _) (by rw [List.length_range]; exact Nat.le_refl _)
theorem prsI_yes {ds : List Dt} {i : Nat} (h : (ds.getD i .non).isNon = false) : prsI ds (i + 1) = prsI ds i ++ [((i : Int), vwAt ds i)] := by
  have e : ([i].filter fun j => !(ds.getD j .non).isNon) = [i] := by rw [List.filter_cons, h]; rfl
  unfold prsI
  rw [List.range_succ, List.filter_append, List.map_append, e]
  rfl
theorem prsI_no {ds : List Dt} {i : Nat} (h : (ds.getD i .non).isNon = true) : prsI ds (i + 1) = prsI ds i := by
  have e : ([i].filter fun j => !(ds.getD j .non).isNon) = [] := by rw [List.filter_cons, h]; rfl
  unfold prsI
  rw [List.range_succ, List.filter_append, List.map_append, e, List.map_nil, List.append_nil]
abbrev s_is_at_once : Stmt := top 16
theorem sc_is_at_once : FnScope ["many", "value", "pairs", "hand", "view", "one", "other"] ["many", "value"] (defScope s_is_at_once) := ⟨rfl, rfl, rfl, by decide +kernel, rfl, by decide +kernel, by decide +kernel⟩
theorem ok_is_at_once (F : Fun K "is_at_once" "is_at_once" s_is_at_once f fd) (T : RTx mg) (G_check_many : Fd P w K mg base CX0 "check_many" 2 ["many"] spChkD) (G_is_view : Fd P w K mg base CX0 "is_view" 3 ["many", "hand", "value"] spViewD) (G_fit : Fd P w K mg base CX0 "fit" 2 ["one", "other"] spFitD) : FnOk P w K mg base CX0 4 f fd ["many", "value"] spAtD := by
  refine F.ok sc_is_at_once (fun vs H Q E h => ?_) (fun cdv A outer s0 H vs Q E hr h => ?_)
  · obtain ⟨n, v, d, rfl, _⟩ := h
    rfl
  obtain ⟨n, v, d, rfl, h1, h5, hd, k⟩ := h
  refine ⟨_, (pss_cons (ps_expr (pe_fd G_check_many (hr.mono (by first | decide | omega)) rfl (pa_cons (pv 0) pa_nil)))
  (pss_cons (ps_if (PW.pt (pw_or (pt_not (pt_val (pe_callB call_isi rfl T.isinstance (by decide +kernel) (pa_cons (pv 1) (pa_cons (pe_bltn (v := .ty "tuple") rfl T.tuple boot_tuple rfl) pa_nil))))) (pw_or1 (pt_cmpR op_ne (pe_callB call_len rfl T.len (by decide +kernel) (pa_cons (pv 1) pa_nil)) (pv 0) (nomark _))))) (pss_one (ps_ret pe_bl)) pss_nil)
  (pss_cons (ps_if (pt_not (pt_val (pe_callB (cr_all rfl) rfl T.all (by decide +kernel) (pa_cons (pe_lc (own := [("hand", 3), ("view", 4)]) (g := (gTup K 2 (gCons (gName 3) (gCons (gName 4) gNil)))) (tt := tYes) rfl sc_is_at_once.nd (pi_enumT rfl T.enumerate (pa_cons (pv 1) pa_nil)) (blkOk_by (own := [("hand", 3), ("view", 4)]) (N := ["many", "value", "pairs", "hand", "view", "one", "other"]) (sc := defScope s_is_at_once) (by decide +kernel)) (fun _ _ _ _ _ => (pg_tup rfl (pgs_cons (pg_name (i := 3) sc_is_at_once.nd rfl (Or.inl rfl)) (pgs_cons (pg_name (i := 4) sc_is_at_once.nd rfl (Or.inl rfl)) pgs_nil)))) (fun _ _ _ _ _ => pts_nil) (fun _ _ _ _ _ => (pe_or (pe_cmpR op_isN (pv 4) pe_non (nomark _)) (pe_one (pe_fd G_is_view (hr.mono (by first | decide | omega)) rfl (pa_cons (pv 0) (pa_cons (pv 3) (pa_cons (pv 4) pa_nil)))))))) pa_nil)))) (pss_one (ps_ret pe_bl)) pss_nil)
  (pss_cons (ps_set (i := 2) sc_is_at_once.nd rfl (Or.inr rfl) (pe_lc (own := [("hand", 3), ("view", 4)]) (g := (gTup K 2 (gCons (gName 3) (gCons (gName 4) gNil))))  rfl sc_is_at_once.nd (pi_enumT rfl T.enumerate (pa_cons (pv 1) pa_nil)) (blkOk_by (own := [("hand", 3), ("view", 4)]) (N := ["many", "value", "pairs", "hand", "view", "one", "other"]) (sc := defScope s_is_at_once) (by decide +kernel)) (fun _ _ _ _ _ => (pg_tup rfl (pgs_cons (pg_name (i := 3) sc_is_at_once.nd rfl (Or.inl rfl)) (pgs_cons (pg_name (i := 4) sc_is_at_once.nd rfl (Or.inl rfl)) pgs_nil)))) (fun _ _ _ _ _ => (pts_one (pt_cmpR op_notN (pv 4) pe_non (nomark _)))) (fun _ _ _ _ _ => (pe_tup (pa_cons (pv 3) (pa_cons (pv 4) pa_nil))))))
  (pss_one (ps_ret (pe_and (pe_cmpR op_gt (pe_callB call_len rfl T.len (by decide +kernel) (pa_cons (pv 2) pa_nil)) pe_int (nomark _)) (pe_one (pe_callB (cr_all rfl) rfl T.all (by decide +kernel) (pa_cons (pe_lc2 (own := [("one", 5), ("other", 6)]) (vs1 := [6]) (g := gName 5) (g1 := gName 6) (tt := tYes) (tt1 := tYes) (wi1 := iList K (tVar 2)) rfl sc_is_at_once.nd (pi_list (pv 2)) (blkOk_by (own := [("one", 5), ("other", 6)]) (N := ["many", "value", "pairs", "hand", "view", "one", "other"]) (sc := defScope s_is_at_once) (by decide +kernel)) (by decide) (fun _ _ _ _ _ => (pg_name (i := 5) sc_is_at_once.nd rfl (Or.inl rfl))) (fun _ _ _ _ _ => pts_nil) (fun _ _ _ _ _ => (pi_list (pv 2))) (fun _ _ _ _ _ => (pg_name (i := 6) sc_is_at_once.nd rfl (Or.inl rfl))) (fun _ _ _ _ _ => pts_nil) (fun _ _ _ _ _ => (pe_fd G_fit (hr.mono (by first | decide | omega)) rfl (pa_cons (pv 5) (pa_cons (pv 6) pa_nil))))) pa_nil)))))))))), ?_⟩
  refine ⟨_, rfl, n, rfl, h1, h5, ?_⟩
  obtain ⟨t, ty, _, _, k3⟩ := hd.ty (K := K)
  refine ⟨_, rfl, _, _, _, _, _, rfl, .ty "tuple", ty, k3, _, rfl, ite2 (fun c => ?_) (fun c => ?_)⟩
  · have e : atB n d = false := by cases d <;> first | rfl | cases c
    rw [e] at k
    exact k _ (Same.refl _)
  cases hd with
  | @tup b vv ds hb hds hl =>
    have hvl := hds.len
    refine ⟨_, rfl, _, vv.length, rfl, (show LenV K (.ref b) H vv.length from .inr ⟨_, .of hb, rfl⟩), _, rfl, ?_⟩
    refine ⟨rfl, _, rfl, ite2 (fun c2 => ?_) (fun c2 => ?_)⟩
    · have e : atB n (.tup ds) = false := by
        unfold atB
        dsimp only
        have : ¬ ds.length = n := fun z => by rw [hvl, z] at c2; simp at c2
        rw [decide_eq_false this]; rfl
      rw [e] at k
      exact k _ (Same.refl _)
    have hn : ds.length = n := by
      have : ((vv.length : Nat) : Int) = (n : Int) := by simpa using c2
      omega
    have k' : ∀ H', Same H H' → Q (.bl (vwsB n ds && (decide (0 < (prs ds).length) && (prs ds).all fun p => (prs ds).all fun q => fitB p q))) H' := fun H' g => by
      have e : atB n (.tup ds) = (vwsB n ds && (decide (0 < (prs ds).length) && (prs ds).all fun p => (prs ds).all fun q => fitB p q)) := by
        unfold atB
        dsimp only
        rw [decide_eq_true hn, Bool.true_and]
      rw [← e]
      exact k _ g
    clear k
    refine ⟨_, rfl, b, vv, rfl, .of hb, fun D hD => ?_⟩
    refine lc_bools walk_enumT (fun i => (ds.getD i .non).isNon || viewB n i (ds.getD i .non)) hD (by omega) (fun H' g => .of (g _ _ hb)) (fun i y0 H1 H2 hi g y Q4 N kk => ?_) fun H1 g1 e1 => ?_
    · obtain ⟨T', y, rfl, hT, rfl, hy⟩ := y
      obtain ⟨dy, hdy, vy⟩ := DVs.at_ hds hy
      have eg : ds.getD i .non = dy := by rw [List.getD_eq_getElem?_getD, hdy] <;> rfl
      rw [eg] at kk
      have g2 := same_new hT (.tup [.int (0 + (i : Nat)), y])
      refine ⟨T', _, rfl, .of upd_same, rfl, _, _, rfl, _, _, rfl, rfl, rfl, ?_⟩
      unfold tYes
      refine iteT ?_
      refine ⟨_, rfl, rfl, _, rfl, ?_⟩
      have en := vy.non_iff
      cases hnon : dy.isNon with
      | true =>
        rw [hnon] at en kk
        refine ite_yes en ?_
        exact kk _ g2
      | false =>
        rw [hnon] at en kk
        refine ite_no en ?_
        refine ⟨_, rfl, _, rfl, _, rfl, n, i, y, dy, (by rw [Int.zero_add]; rfl), vy.same (g.trans g2), fun H3 g3 => ?_⟩
        exact kk _ (g2.trans g3)
    refine ⟨D, _, rfl, .of e1, _, rfl, ?_⟩
    rw [all_id_map, hvl]
    refine ite2 (fun c3 => ?_) (fun c3 => ?_)
    · have e : vwsB n ds = false := not_t c3
      rw [e] at k'
      exact k' _ g1
    have hvw : vwsB n ds = true := not_f c3
    rw [hvw] at k'
    have vlot : ∀ i, i < ds.length → (ds.getD i .non).isNon = false → lotB (ds.getD i .non) = true := fun i hi hn => by
      have := List.all_eq_true.mp hvw i (List.mem_range.mpr hi)
      rw [hn, Bool.false_or] at this
      exact (viewB_iff.mp this).1
    have hb1 := g1 _ _ hb
    have hds1 := hds.same g1
    refine ⟨_, rfl, b, vv, rfl, .of hb1, fun D1 hD1 => ?_⟩
    refine lc_it (walk_enumT (xs := vv)) (fun i H' => Same H1 H' ∧ ∃ acc, H' D1 = some (.lst acc) ∧ Paired (PrV H') acc (prsI ds i)) ⟨same_new hD1 _, [], upd_same, .nil⟩ (fun i H' _ z => .of (z.1 _ _ hb1)) ?_ ?_
    · rintro i y0 H2 H3 hi ⟨g2, acc, h2, hp⟩ ⟨T', y, rfl, hT, rfl, hy⟩
      obtain ⟨dy, hdy, vy⟩ := DVs.at_ hds1 hy
      have eg : ds.getD i .non = dy := by rw [List.getD_eq_getElem?_getD, hdy] <;> rfl
      have g3 := same_new hT (.tup [.int (0 + (i : Nat)), y])
      have h3 := g3 _ _ h2
      refine ⟨T', _, rfl, .of upd_same, rfl, _, _, rfl, _, _, rfl, rfl, rfl, ?_⟩
      refine ⟨_, rfl, rfl, _, rfl, ?_⟩
      have en := vy.non_iff
      cases hnon : dy.isNon with
      | true =>
        rw [hnon] at en
        refine ite_no (by rw [en]; rfl) ?_
        rw [← eg] at hnon
        exact ⟨g2.trans g3, acc, h3, by rw [prsI_no hnon]; exact pr_imp (fun _ _ => PrV.kd (.of g3)) hp⟩
      | false =>
        rw [hnon] at en
        refine ite_yes (by rw [en]; rfl) ?_
        rw [← eg] at hnon vy
        have hl2 := vlot i (by omega) hnon
        obtain ⟨a, rfl, ha, hla⟩ := (vy.same (g2.trans g3)).lot hl2
        refine ⟨_, rfl, _, rfl, szl (by show 2 ≤ _; decide), fun t nt => ?_⟩
        have g4 := same_new nt (.tup [.int (0 + (i : Nat)), .ref a])
        have h4 := g4 _ _ h3
        have hal : acc.length ≤ 5 := by
          rw [pr_len hp]
          have := prsI_len ds i
          omega
        have kp : DKp H2 (upd (upd (upd H2 T' (.tup [.int (0 + (i : Nat)), .ref a])) t (.tup [.int (0 + (i : Nat)), .ref a])) D1 (.lst (acc ++ [.ref t]))) := (DKp.of (g3.trans g4)).trans (.put h4)
        refine ⟨acc, h4, szt (by omega), fun o u ho => ?_, acc ++ [.ref t], upd_same, ?_⟩
        · rw [upd_ne (ne_of_none ho hD1)]; exact g4 _ _ (g3 _ _ (g2 _ _ ho))
        · rw [prsI_yes hnon]
          refine pr_snoc ⟨t, a, rfl, ?_, ?_, hla⟩ (pr_imp (fun _ _ => PrV.kd kp) hp)
          · have nt1 : t ≠ D1 := fun z => by rw [z, h3] at nt; cases nt
            rw [upd_ne nt1, upd_same]
            show _ = some (HO.tup [.int (i : Int), .ref a])
            rw [Int.zero_add]
          · exact (DKp.put h4).t (g4 _ _ ha)
    rintro H2 ⟨g2, acc, h2, hp⟩
    rw [hvl] at hp
    have hp : Paired (PrV H2) acc (prs ds) := hp
    have hal := pr_len hp
    have eI : decide ((0 : Int) < (acc.length : Int)) = decide (0 < (prs ds).length) := decide_eq_decide.mpr (by omega)
    refine ⟨_, rfl, _, acc.length, rfl, (show LenV K (.ref D1) H2 acc.length from .inl ⟨_, .of h2, rfl⟩), _, _, rfl, rfl, _, rfl, ?_⟩
    refine ite2 (fun z => ?_) (fun z => ?_)
    rotate_left
    · rw [show decide (0 < (prs ds).length) = false by rw [← eI]; simpa using z] at k'
      exact k' _ (g1.trans g2)
    rw [show decide (0 < (prs ds).length) = true by rw [← eI]; exact z] at k'
    have acn : acc.length ≤ 5 := by
      rw [hal]
      have : (prs ds).length ≤ ds.length := prsI_len ds ds.length
      omega
    refine ⟨_, rfl, D1, rfl, ⟨_, .of h2⟩, fun D3 hD3 => ?_⟩
    refine lc2_bools (f := fun i j => fitB ((prs ds).getD i (0, [])) ((prs ds).getD j (0, []))) hD3 h2 h2 (by have := Nat.mul_le_mul acn acn; omega) (fun _ => rfl) (fun _ => rfl) (fun _ _ => rfl) (fun i j x y H3 hx hy g3 Q4 kk => ?_) fun H3 g3 h3 => ?_
    · have gx : ∀ {i : Nat} {x : V}, acc[i]? = some x → PrV H3 x ((prs ds).getD i (0, [])) := fun {i x} hx => by
        have hi : i < (prs ds).length := by rw [← hal]; exact get_lt hx
        obtain ⟨x', e1, e2⟩ := pr_at hp (List.getElem?_eq_getElem hi)
        rw [hx] at e1
        cases e1
        rw [List.getD_eq_getElem?_getD, List.getElem?_eq_getElem hi]
        exact e2.kd (.of g3)
      obtain ⟨t, a, rfl, t1, t2, t3⟩ := gx hx
      obtain ⟨u, c, rfl, u1, u2, u3⟩ := gx hy
      exact ⟨_, rfl, _, rfl, t, u, a, c, _, _, _, _, rfl, t1, u1, t2, u2, t3, u3, kk⟩
    refine ⟨D3, _, rfl, .of h3, ?_⟩
    rw [rowsB_all, hal]
    have e2 : ((List.range (prs ds).length).all fun i => (List.range (prs ds).length).all fun j => fitB ((prs ds).getD i (0, [])) ((prs ds).getD j (0, []))) = (prs ds).all fun p => (prs ds).all fun q => fitB p q := by
      rw [← all_getD (p := fun p => (prs ds).all fun q => fitB p q) (x := ((0 : Int), ([] : List Int)))]
      congr 1
      funext i
      exact all_getD (p := fun q => fitB ((prs ds).getD i (0, [])) q)
    rw [e2]
    exact k' _ ((g1.trans g2).trans g3)
  | _ => exact absurd rfl c
end
end Fp
/-! values without truths and texts: compared -/
namespace Fp
open PySem PySem.Spec PyProof.Rows L2
/-- None, integers, tuples of such, at most so deep -/
def pl : Nat → Dt → Bool
  | _, .non => true
  | _, .int _ => true
  | k + 1, .tup ds => ds.all (pl k)
  | _, _ => false
def toP : Nat → Dt → PyData
  | _, .non => .none
  | _, .int i => .int i
  | k + 1, .tup ds => .tuple (ds.map (toP k))
  | _, _ => .none
theorem pl_tup {k : Nat} {ds : List Dt} : pl (k + 1) (.tup ds) = true ↔ ∀ d ∈ ds, pl k d = true := by
  show ds.all (pl k) = true ↔ _
  rw [List.all_eq_true]
theorem pl_up : ∀ {k : Nat} {d : Dt}, pl k d = true → pl (k + 1) d = true
  | _, .non, _ => by unfold pl; rfl
  | _, .int _, _ => by unfold pl; rfl
  | 0, .tup ds, h => by cases h
  | k + 1, .tup ds, h => pl_tup.mpr fun d hd => pl_up (pl_tup.mp h d hd)
  | 0, .bl _, h => by cases h
  | k + 1, .bl _, h => by cases h
  | 0, .oth, h => by cases h
  | k + 1, .oth, h => by cases h
theorem toP_depth : ∀ {k : Nat} {d : Dt}, (toP k d).depth ≤ k
  | 0, .non => by simp [toP, PyData.depth]
  | 0, .int _ => by simp [toP, PyData.depth]
  | 0, .tup _ => by simp [toP, PyData.depth]
  | 0, .bl _ => by simp [toP, PyData.depth]
  | 0, .oth => by simp [toP, PyData.depth]
  | k + 1, .non => by simp [toP, PyData.depth]
  | k + 1, .int _ => by simp [toP, PyData.depth]
  | k + 1, .bl _ => by simp [toP, PyData.depth]
  | k + 1, .oth => by simp [toP, PyData.depth]
  | k + 1, .tup ds => by
    show PyData.depth (.tuple (ds.map (toP k))) ≤ k + 1
    simp only [PyData.depth]
    have : ∀ l : List Dt, PyData.depthAll (l.map (toP k)) ≤ k := fun l => by
      induction l with
      | nil => simp [PyData.depthAll]
      | cons a r ih =>
        rw [List.map_cons]
        simp only [PyData.depthAll]
        have := toP_depth (k := k) (d := a)
        omega
    have := this ds
    omega
theorem toP_lay : ∀ {k : Nat} {d : Dt}, (toP k d).canLay0 = true
  | 0, .non => by simp [toP, PyData.canLay0]
  | 0, .int _ => by simp [toP, PyData.canLay0]
  | 0, .tup _ => by simp [toP, PyData.canLay0]
  | 0, .bl _ => by simp [toP, PyData.canLay0]
  | 0, .oth => by simp [toP, PyData.canLay0]
  | k + 1, .non => by simp [toP, PyData.canLay0]
  | k + 1, .int _ => by simp [toP, PyData.canLay0]
  | k + 1, .bl _ => by simp [toP, PyData.canLay0]
  | k + 1, .oth => by simp [toP, PyData.canLay0]
  | k + 1, .tup ds => by
    show PyData.canLay0 (.tuple (ds.map (toP k))) = true
    simp only [PyData.canLay0]
    induction ds with
    | nil => simp [PyData.canLayAll0]
    | cons a r ih =>
      rw [List.map_cons]
      simp only [PyData.canLayAll0, Bool.and_eq_true]
      exact ⟨toP_lay, ih⟩
theorem toP_shaped {k : Nat} {d : Dt} (hk : k ≤ 64) : SeqAt.shaped (toP k d) = true := by
  unfold SeqAt.shaped
  rw [toP_lay, Bool.true_and]
  exact decide_eq_true (Nat.le_trans toP_depth hk)
theorem dps_map {K : PySem.W.Frag} {H : Hp} {f : Dt → PyData} : ∀ {xs : List V} {ds : List Dt}, DVs H xs ds → (∀ d ∈ ds, ∀ v, DV H v d → Dp K H v (f d)) → DpAll K H xs (ds.map f)
  | _, _, .nil, _ => .nil
  | _, _, .cons h t, g => .cons (g _ List.mem_cons_self _ h) (dps_map t fun d hd => g d (List.mem_cons_of_mem _ hd))
theorem DV.dp {K : PySem.W.Frag} {H : Hp} : ∀ {k : Nat} {v : V} {d : Dt}, DV H v d → pl k d = true → Dp K H v (toP k d) := by
  intro k
  induction k with
  | zero =>
    intro v d h p
    cases h with
    | non => exact .non
    | int i => exact .int i
    | _ => cases p
  | succ k ih =>
    intro v d h p
    cases h with
    | non => exact .non
    | int i => exact .int i
    | @tup a xs ds ha hds hl => exact .tup (.of ha) (dps_map hds fun d hd v hv => ih hv (pl_tup.mp p d hd))
    | _ => cases p
theorem eqvAll_map {f : Dt → PyData} : ∀ {ds es : List Dt}, (∀ d ∈ ds, ∀ e ∈ es, (PyData.eqv (f d) (f e) = true ↔ d = e)) → (PyData.eqvAll (ds.map f) (es.map f) = true ↔ ds = es)
  | [], [], _ => by simp [PyData.eqvAll]
  | [], _ :: _, _ => by simp [PyData.eqvAll]
  | _ :: _, [], _ => by simp [PyData.eqvAll]
  | a :: r, b :: s, g => by
    have ih := eqvAll_map (ds := r) (es := s) fun d hd e he => g d (List.mem_cons_of_mem _ hd) e (List.mem_cons_of_mem _ he)
    rw [List.map_cons, List.map_cons]
    simp only [PyData.eqvAll, Bool.and_eq_true, List.cons.injEq]
    rw [ih, g a (by simp) b (by simp)]
theorem eqv_iff : ∀ {k : Nat} {d e : Dt}, pl k d = true → pl k e = true → (PyData.eqv (toP k d) (toP k e) = true ↔ d = e) := by
  intro k
  induction k with
  | zero =>
    intro d e hd he
    cases d <;> cases e <;> first | (simp [toP, PyData.eqv]; done) | (cases hd; done) | (cases he; done)
  | succ k ih =>
    intro d e hd he
    cases d with
    | tup ds =>
      cases e with
      | tup es =>
        show PyData.eqv (.tuple (ds.map (toP k))) (.tuple (es.map (toP k))) = true ↔ _
        simp only [PyData.eqv, Dt.tup.injEq]
        exact eqvAll_map fun d h e h' => ih (pl_tup.mp hd d h) (pl_tup.mp he e h')
      | _ => first | (simp [toP, PyData.eqv]; done) | (cases he; done)
    | _ => cases e <;> first | (simp [toP, PyData.eqv]; done) | (cases hd; done) | (cases he; done)
/-- whether two such values are one -/
def rNeP (K : PySem.W.Frag) : R2 := fun x y H Q => ∃ d e, DV H x d ∧ DV H y e ∧ pl 3 d = true ∧ pl 3 e = true ∧ ∀ b : Bool, (b = true ↔ d ≠ e) → Q (.bl b) H
def rEqP (K : PySem.W.Frag) : R2 := fun x y H Q => ∃ d e, DV H x d ∧ DV H y e ∧ pl 3 d = true ∧ pl 3 e = true ∧ ∀ b : Bool, (b = true ↔ d = e) → Q (.bl b) H
theorem op_neP {X : Cx} {K : PySem.W.Frag} (hu : X.A.units + 64 < cLine) (e : X.K = K := by rfl) : OpR X (compareOp .NotEq) (rNeP K) := by
  subst e
  intro pins s σ H x y v u Q I rx ry h
  obtain ⟨d, e, hd, he, pd, pe, q⟩ := h
  refine op_neD hu pins s σ H x y v u Q I rx ry ⟨_, _, hd.dp pd, he.dp pe, toP_shaped (by decide), toP_shaped (by decide), q _ ?_⟩
  rw [Bool.not_eq_true', ← Bool.not_eq_true, eqv_iff pd pe]
theorem op_eqP {X : Cx} {K : PySem.W.Frag} (hu : X.A.units + 64 < cLine) (e : X.K = K := by rfl) : OpR X (compareOp .Eq) (rEqP K) := by
  subst e
  intro pins s σ H x y v u Q I rx ry h
  obtain ⟨d, e, hd, he, pd, pe, q⟩ := h
  exact op_eqD hu pins s σ H x y v u Q I rx ry ⟨_, _, hd.dp pd, he.dp pe, toP_shaped (by decide), toP_shaped (by decide), q _ (eqv_iff pd pe)⟩
/-- None in a tuple -/
def rNoneInT (K : PySem.W.Frag) (neg : Bool) : R2 := fun x y H Q => ∃ ds, x = .non ∧ DV H y (.tup ds) ∧ pl 3 (.tup ds) = true ∧ Q (.bl (if neg then !(ds.any Dt.isNon) else ds.any Dt.isNon)) H
theorem non_any {k : Nat} {ds : List Dt} : (ds.map (toP k)).any (fun z => PyData.eqv z .none) = ds.any Dt.isNon ∨ ¬ ∀ d ∈ ds, pl k d = true := by
  by_cases h : ∀ d ∈ ds, pl k d = true
  · left
    rw [List.any_map, Bool.eq_iff_iff, List.any_eq_true, List.any_eq_true]
    have e : ∀ d ∈ ds, (((fun z => PyData.eqv z .none) ∘ toP k) d = true ↔ d.isNon = true) := fun d hd => by
      show PyData.eqv (toP k d) .none = true ↔ _
      have hp := h d hd
      cases d <;> cases k <;> first | (simp [toP, PyData.eqv, Dt.isNon]; done) | (cases hp; done)
    constructor
    · rintro ⟨d, hd, q⟩
      exact ⟨d, hd, (e d hd).mp q⟩
    · rintro ⟨d, hd, q⟩
      exact ⟨d, hd, (e d hd).mpr q⟩
  · exact .inr h
theorem op_noneIn' {X : Cx} {K : PySem.W.Frag} (hu : X.A.units + 65 < cLine) (e : X.K = K := by rfl) : OpR X (compareOp .In) (rNoneInT K false) := by
  intro pins s σ H x y v u Q I rx ry h
  obtain ⟨ds, rfl, hd, pd, q⟩ := h
  refine op_inT hu e pins s σ H _ y v u Q I rx ry ⟨_, ds.map (toP 2), .non, hd.dp pd, rfl, toP_shaped (k := 3) (d := .tup ds) (by decide), ?_⟩
  rcases non_any (k := 2) (ds := ds) with z | z
  · rw [z]; exact q
  · exact absurd (pl_tup.mp pd) z
theorem op_noneNotIn' {X : Cx} {K : PySem.W.Frag} (hu : X.A.units + 65 < cLine) (e : X.K = K := by rfl) : OpR X (compareOp .NotIn) (rNoneInT K true) := by
  intro pins s σ H x y v u Q I rx ry h
  obtain ⟨ds, rfl, hd, pd, q⟩ := h
  refine op_notInT hu e pins s σ H _ y v u Q I rx ry ⟨_, ds.map (toP 2), .non, hd.dp pd, rfl, toP_shaped (k := 3) (d := .tup ds) (by decide), ?_⟩
  rcases non_any (k := 2) (ds := ds) with z | z
  · rw [z]; exact q
  · exact absurd (pl_tup.mp pd) z
/-- t == (), t any tuple -/
def rEqE (K : PySem.W.Frag) : R2 := fun x y H Q => ∃ a b xs, x = .ref a ∧ y = .ref b ∧ H a = some (.tup xs) ∧ H b = some (.tup []) ∧ Q (.bl xs.isEmpty) H
theorem op_eqE {X : Cx} {K : PySem.W.Frag} (hu : X.A.units + 64 < cLine) (e : X.K = K := by rfl) : OpR X (compareOp .Eq) (rEqE K) := by
  subst e
  intro pins s σ H x y v u Q I rx ry h
  obtain ⟨a, b, xs, rfl, rfl, ha, hb, q⟩ := h
  cases rx
  cases ry
  obtain ⟨its, r, ht, _⟩ := I.tuple (xs := xs) (.of ha)
  obtain ⟨its2, r2, ht2, _⟩ := I.tuple (xs := []) (.of hb)
  cases r2
  refine SeqAt.eq_tupleAt (e := fun _ => true) ht ht2 (by omega) (fun j _ h2 => absurd h2 (by simp)) ⟨.bl xs.isEmpty, H, I, ?_, q⟩
  have hl := r.length
  cases xs with
  | nil => cases r; rfl
  | cons x t =>
    cases r
    show Value.bool _ = Value.bool false
    simp
/-! ### good rows -/
theorem lot_data {d : Dt} (h : lotB d = true) : d = .tup ((lotOf d).map Dt.int) ∧ pl 1 d = true := by
  cases d with
  | tup es =>
    have hw := (lotB_tup.mp h).1
    have e : es = (es.map Dt.toInt).map Dt.int := by
      rw [List.map_map]
      refine (List.map_id es).symm.trans (List.map_congr_left fun x hx => ?_)
      have := (hw x hx).1
      cases x with
      | int i => rfl
      | _ => cases this
    refine ⟨congrArg Dt.tup e, pl_tup.mpr fun x hx => ?_⟩
    have := (hw x hx).1
    cases x with
    | int i => rfl
    | _ => cases this
  | _ => cases h
theorem at_tup {n : Nat} {d : Dt} (h : atB n d = true) : ∃ ds, d = .tup ds ∧ ds.length = n ∧ vwsB n ds = true := by
  cases d with
  | tup ds =>
    unfold atB at h
    dsimp only at h
    rw [Bool.and_eq_true, Bool.and_eq_true, decide_eq_true_eq] at h
    exact ⟨ds, rfl, h.1, h.2.1⟩
  | _ => cases h
theorem at_pl {n : Nat} {d : Dt} (h : atB n d = true) : pl 2 d = true := by
  obtain ⟨ds, rfl, hl, hv⟩ := at_tup h
  refine pl_tup.mpr fun x hx => ?_
  obtain ⟨i, hi⟩ := List.mem_iff_getElem?.mp hx
  have hil := (List.getElem?_eq_some_iff.mp hi).1
  have := List.all_eq_true.mp hv i (List.mem_range.mpr hil)
  rw [List.getD_eq_getElem?_getD, hi] at this
  simp only [Option.getD_some] at this
  rcases Bool.or_eq_true_iff.mp this with z | z
  · cases x with
    | non => rfl
    | _ => cases z
  · exact (lot_data (viewB_iff.mp z).1).2
end Fp
/-! chains of rows: the mathematics -/
namespace Fp
open PySem PySem.Spec PyProof.Rows L2
theorem srt_eq : ∀ {l m : List Int}, l.Pairwise (· < ·) → m.Pairwise (· < ·) → (∀ x, x ∈ l ↔ x ∈ m) → l = m
  | [], [], _, _, _ => rfl
  | [], b :: m, _, _, h => absurd ((h b).mpr (by simp)) (by simp)
  | a :: l, [], _, _, h => absurd ((h a).mp (by simp)) (by simp)
  | a :: l, b :: m, h1, h2, h => by
    obtain ⟨p1, q1⟩ := List.pairwise_cons.mp h1
    obtain ⟨p2, q2⟩ := List.pairwise_cons.mp h2
    have e : a = b := by
      have ha := (h a).mp (by simp)
      have hb := (h b).mpr (by simp)
      rcases List.mem_cons.mp ha with z | z
      · exact z
      · rcases List.mem_cons.mp hb with y | y
        · exact y.symm
        · have := p2 a z
          have := p1 b y
          omega
    subst e
    rw [srt_eq q1 q2 fun x => ?_]
    constructor
    · intro hx
      have hl := p1 x hx
      rcases List.mem_cons.mp ((h x).mp (List.mem_cons_of_mem _ hx)) with z | z
      · omega
      · exact z
    · intro hx
      have hl := p2 x hx
      rcases List.mem_cons.mp ((h x).mpr (List.mem_cons_of_mem _ hx)) with z | z
      · omega
      · exact z
theorem srt_nodup {l : List Int} (h : l.Pairwise (· < ·)) : l.Nodup := h.imp fun h => by omega
theorem nodup_le {α : Type} [DecidableEq α] : ∀ {l m : List α}, l.Nodup → (∀ x ∈ l, x ∈ m) → l.length ≤ m.length
  | [], _, _, _ => Nat.zero_le _
  | a :: l, m, h, s => by
    obtain ⟨h1, h2⟩ := List.nodup_cons.mp h
    have ha := s a (by simp)
    have := nodup_le (m := m.erase a) h2 fun y hy => (List.mem_erase_of_ne (fun (e : y = a) => h1 (by rw [← e]; exact hy))).mpr (s y (List.mem_cons_of_mem _ hy))
    rw [List.length_erase_of_mem ha] at this
    have := List.length_pos_of_mem ha
    rw [List.length_cons]
    omega
/-- a subset that is no smaller is the whole -/
theorem sub_eq {l m : List Int} (hl : l.Nodup) (h : ∀ x ∈ l, x ∈ m) (hm : m.length ≤ l.length) : ∀ x ∈ m, x ∈ l := by
  intro x hx
  refine Classical.byContradiction fun n => ?_
  have := nodup_le (m := m.erase x) hl fun y hy => (List.mem_erase_of_ne (fun (e : y = x) => n (by rw [← e]; exact hy))).mpr (h y hy)
  rw [List.length_erase_of_mem hx] at this
  have : 0 < m.length := List.length_pos_of_mem hx
  omega
abbrev Row' := List (List Int)
structure RowOk (n : Nat) (r : Row') : Prop where
  len : r.length = n
  up : ∀ (i : Nat) (l : List Int), r[i]? = some l → List.Pairwise (· < ·) l
  rng : ∀ (i : Nat) (l : List Int), r[i]? = some l → ∀ x ∈ l, 0 ≤ x ∧ x < n
  self : ∀ (i : Nat) (l : List Int), r[i]? = some l → (i : Int) ∈ l
  cmp : ∀ (i j : Nat) (l m : List Int), r[i]? = some l → r[j]? = some m → (∀ x ∈ l, x ∈ m) ∨ ∀ x ∈ m, x ∈ l
  fit : ∀ (i j : Nat) (l m : List Int), r[i]? = some l → r[j]? = some m → (i : Int) ∈ m → ∀ x ∈ l, x ∈ m
def lotD (l : List Int) : Dt := .tup (l.map Dt.int)
def rowD (r : Row') : Dt := .tup (r.map lotD)
theorem lotOf_lotD (l : List Int) : lotOf (lotD l) = l := by
  show (l.map Dt.int).map Dt.toInt = l
  rw [List.map_map]
  exact List.map_id'' (fun _ => rfl) l
theorem lotD_inj {l m : List Int} (h : lotD l = lotD m) : l = m := by rw [← lotOf_lotD l, h, lotOf_lotD]
theorem vwAt_row {r : Row'} {i : Nat} {l : List Int} (h : r[i]? = some l) : vwAt (r.map lotD) i = l ∧ ((r.map lotD).getD i .non) = lotD l := by
  have e : ((r.map lotD).getD i .non) = lotD l := by rw [List.getD_eq_getElem?_getD, List.getElem?_map, h]; rfl
  exact ⟨by unfold vwAt; rw [e, lotOf_lotD], e⟩
theorem thr_row (r : Row') (i : Nat) : i ∈ thr (r.map lotD) ↔ i < r.length := by
  rw [mem_thr, List.length_map]
  refine ⟨fun h => h.1, fun h => ⟨h, ?_⟩⟩
  rw [(vwAt_row (List.getElem?_eq_getElem h)).2]; rfl
theorem lotOfB_lotD {n : Int} {l : List Int} : lotOfB n (lotD l) = true ↔ (∀ x ∈ l, 0 ≤ x ∧ x < n) ∧ l.Pairwise (· < ·) := by
  unfold lotD
  rw [lotOfB_tup, List.map_map, show (Dt.toInt ∘ Dt.int) = id from rfl, List.map_id]
  refine and_congr ?_ Iff.rfl
  constructor
  · intro h x hx
    have := h (.int x) (List.mem_map.mpr ⟨x, hx, rfl⟩)
    obtain ⟨_, a, b⟩ := this
    have a : 0 ≤ x := a
    have b : x ≤ n - 1 := b
    omega
  · intro h d hd
    obtain ⟨x, hx, rfl⟩ := List.mem_map.mp hd
    have := h x hx
    exact ⟨rfl, this.1, by show x ≤ n - 1; omega⟩
/-- a whole good row is one of views -/
theorem rowok_iff {n : Nat} (hn : 0 < n) {r : Row'} : wholeB n (rowD r) = true ↔ RowOk n r := by
  have hnon : hasNon (rowD r) = false := by
    show (r.map lotD).any Dt.isNon = false
    rw [List.any_eq_false]
    intro d hd
    obtain ⟨l, _, rfl⟩ := List.mem_map.mp hd
    simp [lotD, Dt.isNon]
  unfold wholeB
  rw [hnon, Bool.not_false, Bool.and_true, ← law_row hn]
  unfold rowD lawRowB
  dsimp only
  rw [Bool.and_eq_true, Bool.and_eq_true, Bool.and_eq_true, decide_eq_true_eq, List.all_eq_true, List.all_eq_true, List.length_map]
  constructor
  · rintro ⟨⟨h1, _⟩, h2, h3⟩
    have vw : ∀ i l, r[i]? = some l → lawVw n (r.map lotD) i = true := fun i l h => h2 i ((thr_row r i).mpr (List.getElem?_eq_some_iff.mp h).1)
    have pr : ∀ i j l m, r[i]? = some l → r[j]? = some m → okPair (r.map lotD) i j = true := fun i j l m h h' => by
      have := h3 i ((thr_row r i).mpr (List.getElem?_eq_some_iff.mp h).1)
      rw [List.all_eq_true] at this
      exact this j ((thr_row r j).mpr (List.getElem?_eq_some_iff.mp h').1)
    refine ⟨h1, fun i l h => ?_, fun i l h => ?_, fun i l h => ?_, fun i j l m h h' => ?_, fun i j l m h h' => ?_⟩
    · have := (lawVw_iff.mp (vw i l h)).1
      rw [(vwAt_row h).2, lotOfB_lotD] at this
      exact this.2
    · have := (lawVw_iff.mp (vw i l h)).1
      rw [(vwAt_row h).2, lotOfB_lotD] at this
      exact this.1
    · have := (lawVw_iff.mp (vw i l h)).2
      rw [(vwAt_row h).2, lotOf_lotD] at this
      exact this
    · have := (pair_iff.mp (pr i j l m h h')).1
      rw [(vwAt_row h).1, (vwAt_row h').1] at this
      exact this
    · have := (pair_iff.mp (pr i j l m h h')).2
      rw [(vwAt_row h).1, (vwAt_row h').1] at this
      exact this
  · intro R
    refine ⟨⟨R.len, ?_⟩, fun i hi => ?_, fun i hi => ?_⟩
    · rw [Bool.not_eq_true', List.all_eq_false]
      have h0 : 0 < r.length := by rw [R.len]; exact hn
      exact ⟨lotD r[0], List.mem_map.mpr ⟨_, List.getElem_mem h0, rfl⟩, by simp [lotD, Dt.isNon]⟩
    · have h := List.getElem?_eq_getElem ((thr_row r i).mp hi)
      refine lawVw_iff.mpr ?_
      rw [(vwAt_row h).2, lotOfB_lotD, lotOf_lotD]
      exact ⟨⟨R.rng i _ h, R.up i _ h⟩, R.self i _ h⟩
    · rw [List.all_eq_true]
      intro j hj
      have h := List.getElem?_eq_getElem ((thr_row r i).mp hi)
      have h' := List.getElem?_eq_getElem ((thr_row r j).mp hj)
      refine pair_iff.mpr ?_
      rw [(vwAt_row h).1, (vwAt_row h').1]
      exact ⟨R.cmp i j _ _ h h', R.fit i j _ _ h h'⟩
theorem whole_row {n : Nat} (hn : 0 < n) {d : Dt} (h : wholeB n d = true) : ∃ r, d = rowD r ∧ RowOk n r := by
  have h' := h
  unfold wholeB at h
  rw [Bool.and_eq_true, Bool.not_eq_true'] at h
  obtain ⟨ds, rfl, hl, hv⟩ := at_tup h.1
  have hnn : ∀ d ∈ ds, d.isNon = false := fun d hd => by
    have := List.any_eq_false.mp (show ds.any Dt.isNon = false from h.2) d hd
    simpa using this
  have e : ds = (ds.map lotOf).map lotD := by
    rw [List.map_map]
    refine (List.map_id ds).symm.trans (List.map_congr_left fun x hx => ?_)
    obtain ⟨i, hi⟩ := List.mem_iff_getElem?.mp hx
    have hil := (List.getElem?_eq_some_iff.mp hi).1
    have := List.all_eq_true.mp hv i (List.mem_range.mpr hil)
    rw [List.getD_eq_getElem?_getD, hi] at this
    simp only [Option.getD_some] at this
    rw [hnn x hx, Bool.false_or] at this
    exact (lot_data (viewB_iff.mp this).1).1
  have e2 : Dt.tup ds = rowD (ds.map lotOf) := congrArg Dt.tup e
  rw [e2] at h' ⊢
  exact ⟨_, rfl, (rowok_iff hn).mp h'⟩
end Fp
/-! the way from a row to the row of all, and chains -/
namespace Fp
open PySem PySem.Spec PyProof.Rows L2
/-- unlike at just one place -/
def Unl (r s : Row') : Prop := r.length = s.length ∧ ∃ a : Nat, a < r.length ∧ r[a]? ≠ s[a]? ∧ ∀ b, b ≠ a → r[b]? = s[b]?
theorem Unl.symm {r s : Row'} (h : Unl r s) : Unl s r := by
  obtain ⟨e, a, h1, h2, h3⟩ := h
  exact ⟨e.symm, a, by omega, Ne.symm h2, fun b hb => (h3 b hb).symm⟩
theorem near_set {r : Row'} {a : Nat} {l : List Int} (h : r.set a l ≠ r) : Unl r (r.set a l) := by
  have ha : a < r.length := Classical.byContradiction fun c => h (List.set_eq_of_length_le (by omega))
  refine ⟨by rw [List.length_set], a, ha, fun e => h ?_, fun b hb => by rw [List.getElem?_set_ne (Ne.symm hb)]⟩
  rw [List.getElem?_set_self ha, List.getElem?_eq_getElem ha] at e
  have e := Option.some.inj e
  rw [← e]
  exact List.set_getElem_self ha
/-- neighbours are unlike at just one place -/
def Lnk (ls : List Row') : Prop := ∀ (i : Nat) (x y : Row'), ls[i]? = some x → ls[i + 1]? = some y → Unl x y
theorem Lnk.rev {ls : List Row'} (h : Lnk ls) : Lnk ls.reverse := by
  intro i x y hx hy
  have hi : i + 1 < ls.length := by
    have := (List.getElem?_eq_some_iff.mp hy).1
    rwa [List.length_reverse] at this
  rw [List.getElem?_reverse (by omega)] at hx hy
  have e : ls.length - 1 - i = (ls.length - 1 - (i + 1)) + 1 := by omega
  rw [e] at hx
  exact (h _ _ _ hy hx).symm
theorem Lnk.cons {a b : Row'} {ls : List Row'} (h : Unl a b) (g : Lnk (b :: ls)) : Lnk (a :: b :: ls) := by
  intro i x y hx hy
  cases i with
  | zero => cases hx; cases hy; exact h
  | succ i => exact g i x y hx hy
theorem Lnk.tail {a : Row'} {ls : List Row'} (g : Lnk (a :: ls)) : Lnk ls := fun i x y hx hy => g (i + 1) x y hx hy
theorem lnk_nil : Lnk [] := fun i x y hx _ => by simp at hx
theorem lnk_one (a : Row') : Lnk [a] := fun i x y hx hy => by simp at hy
theorem Lnk.app : ∀ {ls ms : List Row'} {z : Row'}, Lnk (ls ++ [z]) → Lnk (z :: ms) → Lnk (ls ++ [z] ++ ms)
  | [], ms, z, _, g => g
  | [a], ms, z, h, g => Lnk.cons (h 0 a z rfl rfl) g
  | a :: b :: r, ms, z, h, g => Lnk.cons (h 0 a b rfl rfl) (Lnk.app (ls := b :: r) h.tail g)
/-- doubles out -/
def ddL : Row' → List Row' → List Row'
  | _, [] => []
  | p, x :: xs => if x = p then ddL x xs else x :: ddL x xs
theorem dd_snoc : ∀ (p : Row') (xs : List Row') (x : Row'), ddL p (xs ++ [x]) = ddL p xs ++ if x = (p :: xs).getLast (by simp) then [] else [x]
  | p, [], x => by
    by_cases h : x = p <;> simp [ddL, h]
  | p, y :: ys, x => by
    have ih := dd_snoc y ys x
    show (if y = p then ddL y (ys ++ [x]) else y :: ddL y (ys ++ [x])) = (if y = p then ddL y ys else y :: ddL y ys) ++ _
    rw [List.getLast_cons (by simp)]
    split
    · exact ih
    · rw [ih]; rfl
theorem dd_mem : ∀ {p : Row'} {xs : List Row'} {x : Row'}, x ∈ ddL p xs → x ∈ xs
  | _, [], _, h => h
  | p, y :: ys, x, h => by
    unfold ddL at h
    split at h
    · exact List.mem_cons_of_mem _ (dd_mem h)
    · rcases List.mem_cons.mp h with e | h
      · rw [e]; exact List.mem_cons_self
      · exact List.mem_cons_of_mem _ (dd_mem h)
theorem dd_lnk : ∀ {p : Row'} {xs : List Row'}, (∀ (i : Nat) (x y : Row'), (p :: xs)[i]? = some x → (p :: xs)[i + 1]? = some y → y ≠ x → Unl x y) → Lnk (p :: ddL p xs) ∧ (p :: ddL p xs).getLast? = (p :: xs).getLast?
  | p, [], _ => ⟨lnk_one p, rfl⟩
  | p, y :: ys, h => by
    have ih := dd_lnk (p := y) (xs := ys) fun i x z hx hz => h (i + 1) x z hx hz
    unfold ddL
    by_cases e : y = p
    · rw [if_pos e]
      subst e
      refine ⟨ih.1, ih.2.trans ?_⟩
      rw [List.getLast?_cons_cons]
    · rw [if_neg e]
      refine ⟨Lnk.cons (h 0 p y rfl rfl e) ih.1, ?_⟩
      rw [List.getLast?_cons_cons, List.getLast?_cons_cons]
      exact ih.2
/-- hands, by the sizes of their views -/
structure OrdOk (n : Nat) (r : Row') (o : List Nat) : Prop where
  len : o.length = n
  nd : o.Nodup
  lt : ∀ x ∈ o, x < n
  siz : ∀ (i j a b : Nat), i ≤ j → o[i]? = some a → o[j]? = some b → (r.getD a []).length ≤ (r.getD b []).length
/-- the lots of the first hands -/
structure PreOk (o : List Nat) (pre : Nat → List Int) : Prop where
  up : ∀ k, List.Pairwise (· < ·) (pre k)
  mem : ∀ k (x : Int), x ∈ pre k ↔ ∃ a ∈ o.take k, x = ((a : Nat) : Int)
theorem nodup_at {o : List Nat} (h : o.Nodup) {i j a : Nat} (hi : o[i]? = some a) (hj : o[j]? = some a) : i = j := by
  obtain ⟨h1, e1⟩ := List.getElem?_eq_some_iff.mp hi
  obtain ⟨h2, e2⟩ := List.getElem?_eq_some_iff.mp hj
  have := List.pairwise_iff_getElem.mp h
  rcases Nat.lt_trichotomy i j with z | z | z
  · exact absurd (e1.trans e2.symm) (this i j h1 h2 z)
  · exact z
  · exact absurd (e2.trans e1.symm) (this j i h2 h1 z)
theorem mem_take_iff {o : List Nat} {k a : Nat} : a ∈ o.take k ↔ ∃ i, i < k ∧ o[i]? = some a := by
  rw [List.mem_iff_getElem?]
  constructor
  · rintro ⟨i, hi⟩
    rw [List.getElem?_take] at hi
    split at hi
    · exact ⟨i, ‹_›, hi⟩
    · cases hi
  · rintro ⟨i, h1, h2⟩
    exact ⟨i, by rw [List.getElem?_take, if_pos h1]; exact h2⟩
section
variable {n : Nat} {r : Row'} {o : List Nat} {pre : Nat → List Int}
theorem OrdOk.all (O : OrdOk n r o) {a : Nat} (ha : a < n) : ∃ i : Nat, o[i]? = some a ∧ i < n := by
  have : a ∈ o := Classical.byContradiction fun c => by
    have := nodup_le (l := a :: o) (m := List.range n) (List.nodup_cons.mpr ⟨c, O.nd⟩) fun x hx => by
      rcases List.mem_cons.mp hx with e | e
      · rw [e]; exact List.mem_range.mpr ha
      · exact List.mem_range.mpr (O.lt x e)
    rw [List.length_cons, O.len, List.length_range] at this
    omega
  obtain ⟨i, hi⟩ := List.mem_iff_getElem?.mp this
  exact ⟨i, hi, by rw [← O.len]; exact (List.getElem?_eq_some_iff.mp hi).1⟩
theorem OrdOk.get (O : OrdOk n r o) {i : Nat} (hi : i < n) : ∃ a, o[i]? = some a ∧ a < n := by
  have h : i < o.length := by rw [O.len]; exact hi
  exact ⟨o[i], List.getElem?_eq_getElem h, O.lt _ (List.getElem_mem h)⟩
def upR (r : Row') (o : List Nat) (pre : Nat → List Int) : Nat → Row'
  | 0 => r
  | k + 1 => (upR r o pre k).set (o.getD k 0) (pre (k + 1))
def dnR (r : Row') (o : List Nat) (pre : Nat → List Int) (n : Nat) : Nat → Row'
  | 0 => upR r o pre n
  | k + 1 => (dnR r o pre n k).set (o.getD (n - 1 - k) 0) (pre n)
theorem up_len : ∀ k, (upR r o pre k).length = r.length
  | 0 => rfl
  | k + 1 => by unfold upR; rw [List.length_set, up_len k]
theorem dn_len : ∀ k, (dnR r o pre n k).length = r.length
  | 0 => up_len n
  | k + 1 => by unfold dnR; rw [List.length_set, dn_len k]
theorem up_at (O : OrdOk n r o) (hr : r.length = n) : ∀ k, k ≤ n → ∀ i a : Nat, o[i]? = some a → (upR r o pre k)[a]? = if i < k then some (pre (i + 1)) else r[a]?
  | 0, _, i, a, _ => by rw [if_neg (by omega)]; rfl
  | k + 1, hk, i, a, h => by
    have ih := up_at O hr k (by omega) i a h
    obtain ⟨b, hb, hbn⟩ := O.get (i := k) (by omega)
    have eb : o.getD k 0 = b := by rw [List.getD_eq_getElem?_getD, hb]; rfl
    unfold upR
    rw [eb]
    by_cases e : i = k
    · subst e
      rw [h] at hb
      cases hb
      rw [List.getElem?_set_self (by rw [up_len, hr]; exact hbn), if_pos (by omega)]
    · have ne : b ≠ a := fun z => e (nodup_at O.nd h (z ▸ hb))
      rw [List.getElem?_set_ne ne, ih]
      by_cases c : i < k
      · rw [if_pos c, if_pos (by omega)]
      · rw [if_neg c, if_neg (by omega)]
theorem dn_at (O : OrdOk n r o) (hr : r.length = n) : ∀ k, k ≤ n → ∀ i a : Nat, o[i]? = some a → i < n → (dnR r o pre n k)[a]? = some (if i < n - k then pre (i + 1) else pre n)
  | 0, _, i, a, h, hi => by
    unfold dnR
    rw [up_at O hr n (Nat.le_refl n) i a h, if_pos hi, if_pos (by omega)]
  | k + 1, hk, i, a, h, hi => by
    have ih := dn_at O hr k (by omega) i a h hi
    obtain ⟨b, hb, hbn⟩ := O.get (i := n - 1 - k) (by omega)
    have eb : o.getD (n - 1 - k) 0 = b := by rw [List.getD_eq_getElem?_getD, hb]; rfl
    unfold dnR
    rw [eb]
    by_cases e : i = n - 1 - k
    · subst e
      rw [h] at hb
      cases hb
      rw [List.getElem?_set_self (by rw [dn_len, hr]; exact hbn), if_neg (by omega)]
    · have ne : b ≠ a := fun z => e (nodup_at O.nd h (z ▸ hb))
      rw [List.getElem?_set_ne ne, ih]
      by_cases c : i < n - k
      · rw [if_pos c, if_pos (by omega)]
      · rw [if_neg c, if_neg (by omega)]
theorem pre_mono (P : PreOk o pre) {i j : Nat} (h : i ≤ j) : ∀ x ∈ pre i, x ∈ pre j := fun x hx => by
  obtain ⟨a, ha, e⟩ := (P.mem i x).mp hx
  obtain ⟨l, hl, hla⟩ := mem_take_iff.mp ha
  exact (P.mem j x).mpr ⟨a, mem_take_iff.mpr ⟨l, by omega, hla⟩, e⟩
theorem pre_rng (O : OrdOk n r o) (P : PreOk o pre) (k : Nat) : ∀ x ∈ pre k, 0 ≤ x ∧ x < n := fun x hx => by
  obtain ⟨a, ha, e⟩ := (P.mem k x).mp hx
  have := O.lt a (List.mem_of_mem_take ha)
  omega
theorem pre_in (O : OrdOk n r o) (P : PreOk o pre) {i k a : Nat} (h : o[i]? = some a) : ((a : Nat) : Int) ∈ pre k ↔ i < k := by
  rw [P.mem]
  constructor
  · rintro ⟨b, hb, e⟩
    obtain ⟨j, hj, hjb⟩ := mem_take_iff.mp hb
    have e : a = b := by omega
    subst e
    have := nodup_at O.nd h hjb
    omega
  · intro hk
    exact ⟨a, mem_take_iff.mpr ⟨i, hk, h⟩, rfl⟩
theorem RowOk.lenAt (R : RowOk n r) {a : Nat} {l : List Int} (h : r[a]? = some l) : (r.getD a []).length = l.length := by rw [List.getD_eq_getElem?_getD, h]; rfl
/-- the views of hands that come earlier lie in those of later ones -/
theorem earlier (R : RowOk n r) (O : OrdOk n r o) {i j a b : Nat} {l m : List Int} (hij : i ≤ j) (ha : o[i]? = some a) (hb : o[j]? = some b) (hl : r[a]? = some l) (hm : r[b]? = some m) : ∀ x ∈ l, x ∈ m := by
  rcases R.cmp a b l m hl hm with z | z
  · exact z
  · have := O.siz i j a b hij ha hb
    rw [R.lenAt hl, R.lenAt hm] at this
    exact sub_eq (srt_nodup (R.up b m hm)) z (by omega)
theorem pre_sub (R : RowOk n r) (O : OrdOk n r o) (P : PreOk o pre) {k j b : Nat} {m : List Int} (hkj : k ≤ j + 1) (hb : o[j]? = some b) (hm : r[b]? = some m) : ∀ x ∈ pre k, x ∈ m := fun x hx => by
  obtain ⟨a, ha, e⟩ := (P.mem k x).mp hx
  obtain ⟨i, hi, hia⟩ := mem_take_iff.mp ha
  have hla : r[a]? = some (r[a]'(by rw [R.len]; exact O.lt a (List.mem_of_mem_take ha))) := List.getElem?_eq_getElem _
  subst e
  exact earlier R O (by omega) hia hb hla hm _ (R.self a _ hla)
theorem up_ok (R : RowOk n r) (O : OrdOk n r o) (P : PreOk o pre) {k : Nat} (hk : k ≤ n) : RowOk n (upR r o pre k) := by
  have hl : (upR r o pre k).length = n := (up_len k).trans R.len
  have view : ∀ (a : Nat) (l : List Int), (upR r o pre k)[a]? = some l → ∃ i, o[i]? = some a ∧ i < n ∧ ((i < k ∧ l = pre (i + 1)) ∨ (k ≤ i ∧ r[a]? = some l)) := fun a l h => by
    have ha : a < n := by rw [← hl]; exact (List.getElem?_eq_some_iff.mp h).1
    obtain ⟨i, hi, hin⟩ := O.all ha
    refine ⟨i, hi, hin, ?_⟩
    rw [up_at O R.len k hk i a hi] at h
    by_cases c : i < k
    · rw [if_pos c] at h; exact .inl ⟨c, (Option.some.inj h).symm⟩
    · rw [if_neg c] at h; exact .inr ⟨by omega, h⟩
  refine ⟨hl, fun a l h => ?_, fun a l h => ?_, fun a l h => ?_, fun a b l m h h' => ?_, fun a b l m h h' hin => ?_⟩
  · obtain ⟨i, _, _, ⟨_, rfl⟩ | ⟨_, q⟩⟩ := view a l h
    · exact P.up _
    · exact R.up a l q
  · obtain ⟨i, _, _, ⟨_, rfl⟩ | ⟨_, q⟩⟩ := view a l h
    · exact pre_rng O P _
    · exact R.rng a l q
  · obtain ⟨i, hi, _, ⟨_, rfl⟩ | ⟨_, q⟩⟩ := view a l h
    · exact (pre_in O P hi).mpr (by omega)
    · exact R.self a l q
  · obtain ⟨i, hi, _, ⟨c1, rfl⟩ | ⟨c1, q1⟩⟩ := view a l h
    · obtain ⟨j, hj, _, ⟨c2, rfl⟩ | ⟨c2, q2⟩⟩ := view b m h'
      · rcases Nat.le_total (i + 1) (j + 1) with z | z
        · exact .inl (pre_mono P z)
        · exact .inr (pre_mono P z)
      · exact .inl (pre_sub R O P (by omega) hj q2)
    · obtain ⟨j, hj, _, ⟨c2, rfl⟩ | ⟨c2, q2⟩⟩ := view b m h'
      · exact .inr (pre_sub R O P (by omega) hi q1)
      · exact R.cmp a b l m q1 q2
  · obtain ⟨i, hi, _, ⟨c1, rfl⟩ | ⟨c1, q1⟩⟩ := view a l h
    · obtain ⟨j, hj, _, ⟨c2, rfl⟩ | ⟨c2, q2⟩⟩ := view b m h'
      · have := (pre_in O P hi).mp hin
        exact pre_mono P (by omega)
      · exact pre_sub R O P (by omega) hj q2
    · obtain ⟨j, hj, _, ⟨c2, rfl⟩ | ⟨c2, q2⟩⟩ := view b m h'
      · have := (pre_in O P hi).mp hin
        omega
      · exact R.fit a b l m q1 q2 hin
theorem dn_ok (R : RowOk n r) (O : OrdOk n r o) (P : PreOk o pre) {k : Nat} (hk : k ≤ n) : RowOk n (dnR r o pre n k) := by
  have hl : (dnR r o pre n k).length = n := (dn_len k).trans R.len
  have view : ∀ (a : Nat) (l : List Int), (dnR r o pre n k)[a]? = some l → ∃ i, o[i]? = some a ∧ i < n ∧ ((i < n - k ∧ l = pre (i + 1)) ∨ (n - k ≤ i ∧ l = pre n)) := fun a l h => by
    have ha : a < n := by rw [← hl]; exact (List.getElem?_eq_some_iff.mp h).1
    obtain ⟨i, hi, hin⟩ := O.all ha
    refine ⟨i, hi, hin, ?_⟩
    rw [dn_at O R.len k hk i a hi hin] at h
    by_cases c : i < n - k
    · rw [if_pos c] at h; exact .inl ⟨c, (Option.some.inj h).symm⟩
    · rw [if_neg c] at h; exact .inr ⟨by omega, (Option.some.inj h).symm⟩
  refine ⟨hl, fun a l h => ?_, fun a l h => ?_, fun a l h => ?_, fun a b l m h h' => ?_, fun a b l m h h' hin => ?_⟩
  · obtain ⟨i, _, _, ⟨_, rfl⟩ | ⟨_, rfl⟩⟩ := view a l h <;> exact P.up _
  · obtain ⟨i, _, _, ⟨_, rfl⟩ | ⟨_, rfl⟩⟩ := view a l h <;> exact pre_rng O P _
  · obtain ⟨i, hi, hin, ⟨_, rfl⟩ | ⟨_, rfl⟩⟩ := view a l h
    · exact (pre_in O P hi).mpr (by omega)
    · exact (pre_in O P hi).mpr hin
  · have cmp : ∀ u v, (∀ x ∈ pre u, x ∈ pre v) ∨ ∀ x ∈ pre v, x ∈ pre u := fun u v => (Nat.le_total u v).imp (pre_mono P) (pre_mono P)
    obtain ⟨i, hi, _, ⟨_, rfl⟩ | ⟨_, rfl⟩⟩ := view a l h <;> obtain ⟨j, hj, _, ⟨_, rfl⟩ | ⟨_, rfl⟩⟩ := view b m h' <;> exact cmp _ _
  · obtain ⟨i, hi, hi2, ⟨c1, rfl⟩ | ⟨c1, rfl⟩⟩ := view a l h <;> obtain ⟨j, hj, hj2, ⟨c2, rfl⟩ | ⟨c2, rfl⟩⟩ := view b m h'
    · have := (pre_in O P hi).mp hin
      exact pre_mono P (by omega)
    · exact pre_mono P (by omega)
    · have := (pre_in O P hi).mp hin
      omega
    · exact pre_mono P (Nat.le_refl _)
/-- the row of all -/
def fullL (n : Nat) : List Int := (List.range n).map fun (i : Nat) => (i : Int)
theorem fullL_up (n : Nat) : (fullL n).Pairwise (· < ·) := by
  unfold fullL
  rw [List.pairwise_map]
  exact List.pairwise_lt_range.imp fun h => by omega
theorem pre_all (O : OrdOk n r o) (P : PreOk o pre) : pre n = fullL n := by
  refine srt_eq (P.up n) (fullL_up n) fun x => ?_
  rw [P.mem]
  unfold fullL
  rw [List.mem_map, List.take_of_length_le (by rw [O.len]; exact Nat.le_refl _)]
  constructor
  · rintro ⟨a, ha, e⟩
    exact ⟨a, List.mem_range.mpr (O.lt a ha), e.symm⟩
  · rintro ⟨a, ha, e⟩
    obtain ⟨i, hi, _⟩ := O.all (List.mem_range.mp ha)
    exact ⟨a, List.mem_of_getElem? hi, e.symm⟩
theorem dn_all (R : RowOk n r) (O : OrdOk n r o) (P : PreOk o pre) : dnR r o pre n n = List.replicate n (fullL n) := by
  refine List.ext_getElem? fun a => ?_
  by_cases ha : a < n
  · obtain ⟨i, hi, hin⟩ := O.all ha
    rw [dn_at O R.len n (Nat.le_refl n) i a hi hin, if_neg (by omega), List.getElem?_replicate, if_pos ha, pre_all O P]
  · rw [List.getElem?_eq_none (by rw [dn_len, R.len]; omega), List.getElem?_eq_none (by rw [List.length_replicate]; omega)]
/-- all rows on the way -/
def wayR (r : Row') (o : List Nat) (pre : Nat → List Int) (n : Nat) : List Row' := ((List.range n).map fun k => upR r o pre (k + 1)) ++ (List.range n).map fun k => dnR r o pre n (k + 1)
theorem way_len : (wayR r o pre n).length = n + n := by simp [wayR]
theorem way_at {i : Nat} : (r :: wayR r o pre n)[i]? = if i ≤ n then some (upR r o pre i) else if i ≤ n + n then some (dnR r o pre n (i - n)) else none := by
  cases i with
  | zero => rw [if_pos (Nat.zero_le _)]; rfl
  | succ i =>
    rw [List.getElem?_cons_succ]
    unfold wayR
    by_cases h : i < n
    · rw [if_pos (by omega), List.getElem?_append_left (by simp; exact h), List.getElem?_map, List.getElem?_range h]; rfl
    · rw [if_neg (by omega), List.getElem?_append_right (by simp; omega), List.length_map, List.length_range, List.getElem?_map]
      by_cases h2 : i - n < n
      · rw [if_pos (by omega), List.getElem?_range h2, show i + 1 - n = i - n + 1 by omega]; rfl
      · rw [if_neg (by omega), List.getElem?_eq_none (by rw [List.length_range]; omega)]; rfl
def wayOf (r : Row') (o : List Nat) (pre : Nat → List Int) (n : Nat) : List Row' := r :: ddL r (wayR r o pre n)
structure WayOk (n : Nat) (r : Row') (ls : List Row') : Prop where
  ok : ∀ x ∈ ls, RowOk n x
  lnk : Lnk ls
  head : ls.head? = some r
  last : ls.getLast? = some (List.replicate n (fullL n))
  len : ls.length ≤ n + n + 1
theorem way_ok (hn : 0 < n) (R : RowOk n r) (O : OrdOk n r o) (P : PreOk o pre) : WayOk n r (wayOf r o pre n) := by
  have all : ∀ (i : Nat) x, (r :: wayR r o pre n)[i]? = some x → RowOk n x := fun i x h => by
    rw [way_at] at h
    by_cases c : i ≤ n
    · rw [if_pos c] at h
      rw [← Option.some.inj h]
      exact up_ok R O P c
    · rw [if_neg c] at h
      by_cases c2 : i ≤ n + n
      · rw [if_pos c2] at h
        rw [← Option.some.inj h]
        exact dn_ok R O P (by omega)
      · rw [if_neg c2] at h; cases h
  have near : ∀ (i : Nat) (x y : Row'), (r :: wayR r o pre n)[i]? = some x → (r :: wayR r o pre n)[i + 1]? = some y → y ≠ x → Unl x y := fun i x y hx hy ne => by
    rw [way_at] at hx hy
    by_cases c : i + 1 ≤ n
    · rw [if_pos (by omega)] at hx
      rw [if_pos c] at hy
      rw [← Option.some.inj hx, ← Option.some.inj hy] at ne ⊢
      exact near_set ne
    · rw [if_neg c] at hy
      by_cases c2 : i + 1 ≤ n + n
      · rw [if_pos c2] at hy
        have e : x = dnR r o pre n (i - n) := by
          by_cases c3 : i ≤ n
          · rw [if_pos c3] at hx
            have : i = n := by omega
            subst this
            rw [Nat.sub_self]
            exact (Option.some.inj hx).symm
          · rw [if_neg c3, if_pos (by omega)] at hx
            exact (Option.some.inj hx).symm
        have e2 : i + 1 - n = i - n + 1 := by omega
        rw [e2] at hy
        rw [e, ← Option.some.inj hy] at ne ⊢
        exact near_set ne
      · rw [if_neg c2] at hy; cases hy
  obtain ⟨h1, h2⟩ := dd_lnk near
  refine ⟨fun x hx => ?_, h1, rfl, h2.trans ?_, ?_⟩
  · have : x ∈ r :: wayR r o pre n := by
      rcases List.mem_cons.mp hx with e | e
      · rw [e]; exact List.mem_cons_self
      · exact List.mem_cons_of_mem _ (dd_mem e)
    obtain ⟨i, hi⟩ := List.mem_iff_getElem?.mp this
    exact all i x hi
  · rw [List.getLast?_eq_getElem?, way_at, List.length_cons, way_len, if_neg (by omega), if_pos (by omega), ← dn_all R O P]
    congr 2
    omega
  · have dl : ∀ (p : Row') (xs : List Row'), (ddL p xs).length ≤ xs.length := fun p xs => by
      induction xs generalizing p with
      | nil => exact Nat.le_refl _
      | cons a t ih =>
        unfold ddL
        have := ih a
        split
        · rw [List.length_cons]; omega
        · rw [List.length_cons, List.length_cons]; omega
    have := dl r (wayR r o pre n)
    rw [way_len] at this
    show (ddL r (wayR r o pre n)).length + 1 ≤ _
    omega
end
/-- a chain of rows -/
structure ChOk (n : Nat) (a b : Row') (ls : List Row') : Prop where
  ok : ∀ x ∈ ls, RowOk n x
  lnk : Lnk ls
  head : ls.head? = some a
  last : ls.getLast? = some b
theorem ways_ch {n : Nat} {a b : Row'} {ls ms : List Row'} (h : WayOk n a ls) (g : WayOk n b ms) : ChOk n a b (ls ++ ms.dropLast.reverse) := by
  rcases List.eq_nil_or_concat ls with rfl | ⟨l0, z, e1⟩
  · have := h.head; cases this
  rcases List.eq_nil_or_concat ms with rfl | ⟨m0, y, e2⟩
  · have := g.head; cases this
  rw [List.concat_eq_append] at e1 e2
  subst e1 e2
  have ez : z = List.replicate n (fullL n) := by have := h.last; simpa using this
  have ey : y = List.replicate n (fullL n) := by have := g.last; simpa using this
  have eyz : y = z := ey.trans ez.symm
  subst eyz
  have ed : (m0 ++ [y]).dropLast = m0 := by simp
  rw [ed]
  have hr := g.lnk.rev
  rw [List.reverse_append] at hr
  refine ⟨fun x hx => ?_, Lnk.app h.lnk hr, ?_, ?_⟩
  · rcases List.mem_append.mp hx with q | q
    · exact h.ok x q
    · exact g.ok x (List.mem_append_left _ (List.mem_reverse.mp q))
  · rw [List.head?_append, h.head]; rfl
  · rw [List.getLast?_append, List.getLast?_reverse]
    cases m0 with
    | nil =>
      have := g.head
      simp at this
      subst this
      simp
    | cons c t =>
      have := g.head
      simp at this
      subst this
      simp
end Fp
/-! t[::-1] of a tuple; xs[-2::-1] of a list -/
namespace Fp
open PySem PySem.Spec PyProof.Rows L2
section
variable {prog : Program} {w : World} {A : Around} {E : Value → Shared → Prop} {s : Shared}
theorem applied_rev {sl : Addr} {vs : Value} {n : Nat} {Q : Int × Int × Nat → Shared → Prop} (hs : s.heap.IsSliceOf sl .none .none vs) (ps : IsPart vs (some (-1))) (h : Q ((n : Int) - 1, -1, n) s) :
    wpAny (model prog w) A (Builtin.Slice.sliceApplied (.ref sl) (pure (n : Int))) Q E s := by
  obtain ⟨os, hos, hcs, hds⟩ := id hs
  unfold Builtin.Slice.sliceApplied Builtin.Slice.sliceFields
  refine wpAny_bind (wpAny_bind (wpAny_field hos hds (x := .none) rfl (wpAny_bind (wpAny_field hos hds (x := .none) rfl (wpAny_bind (wpAny_field hos hds (x := vs) rfl (wpAny_pure ?_)))))))
  refine wpAny_bind (HT.slicePart_ ps ?_)
  show wpAny _ _ (if ((-1 : Int) == 0) = true then _ else _) _ _ s
  rw [if_neg (by decide)]
  refine wpAny_bind (slicePart_none (wpAny_bind (slicePart_none (wpAny_bind (wpAny_pure ?_)))))
  have e : Builtin.Slice.sliceAdjust none none (-1) (n : Int) = ((n : Int) - 1, -1) := by
    unfold Builtin.Slice.sliceAdjust
    simp only [show ((-1 : Int) < 0) by decide, if_true]
  have p : Builtin.Slice.slicePlaces ((n : Int) - 1) (-1) (-1) = n := by
    unfold Builtin.Slice.slicePlaces
    simp only [show ¬ ((-1 : Int) > 0) by decide, if_false]
    by_cases c : (n : Int) - 1 > -1
    · rw [if_pos c, show (-(-1) : Int) = 1 by decide, Int.ediv_one]; omega
    · rw [if_neg c]; omega
  show wpAny _ _ (match Builtin.Slice.sliceAdjust none none (-1) (n : Int) with | (lo, hi) => pure (lo, (-1 : Int), Builtin.Slice.slicePlaces lo hi (-1))) _ _ s
  rw [e]
  show wpAny _ _ (pure ((n : Int) - 1, (-1 : Int), Builtin.Slice.slicePlaces ((n : Int) - 1) (-1) (-1))) _ _ s
  rw [p]
  exact wpAny_pure h
theorem pick_rev (xs : Array Value) : ((List.range xs.size).filterMap fun (m : Nat) => xs[(((xs.size : Nat) : Int) - 1 + (m : Int) * (-1)).toNat]?).toArray = xs.toList.reverse.toArray := by
  have e : ((List.range xs.size).filterMap fun (m : Nat) => xs[(((xs.size : Nat) : Int) - 1 + (m : Int) * (-1)).toNat]?) = ((List.range xs.size).map (fun k => xs.size - 1 - k)).filterMap (xs[·]?) := by
    rw [List.filterMap_map]
    refine congrArg (fun f => List.filterMap f (List.range xs.size)) (funext fun m => ?_)
    show xs[(((xs.size : Nat) : Int) - 1 + (m : Int) * (-1)).toNat]? = xs[xs.size - 1 - m]?
    congr 1
    omega
  rw [e, PySem.W.krv_range, List.filterMap_reverse, PySem.W.krv_all]
theorem item_rev {t sl : Addr} {items : Array Value} {vs : Value} {Q : Value → Shared → Prop} (ht : IsTup s.heap t items) (hs : s.heap.IsSliceOf sl .none .none vs) (ps : IsPart vs (some (-1)))
    (h : Q (.ref s.heap.objs.size) { s with heap := s.heap.push { cls := .type "tuple", data := .seq items.toList.reverse.toArray } }) (hsz : items.size ≤ sizeLine) : wpAny (model prog w) A (getItem (.ref t) (.ref sl)) Q E s := by
  have hok : sizeOk (.seq items.toList.reverse.toArray) := by
    show items.toList.reverse.toArray.size ≤ sizeLine
    rw [List.size_toArray, List.length_reverse, Array.length_toList]
    exact hsz
  obtain ⟨os, hos, hcs, hds⟩ := id hs
  have hTs : s.TypeIs (.ref sl) "slice" := ⟨os, hos, hcs⟩
  unfold getItem
  try with_reducible refine wpAny_holding ?_
  first | refine wpAny_bind (wpAny_pure ?_) | skip
  refine wpAny_bind (wpAny_sequenceKey ht.typeIs (by decide) ?_)
  refine wpAny_bind (wpAny_callSpecial?_slot (name := Str.ofString "__getitem__") ht.typeIs PyProof.Rows.slot_tuple_getitem
    (wpAny_call_entry PyProof.Rows.slot_tuple_getitem ht.typeIs entry_tuple_getitem ?_ (args_tuple_getitem _ _)))
  show wpAny _ _ (Builtin.Tuple.tupleItemsOf (.ref t) >>= _) _ _ s
  refine wpAny_bind (tupleItemsOf_ ht (wpAny_bind (wpAny_typeOf hTs ?_)))
  rw [if_pos (by decide)]
  refine wpAny_bind (applied_rev hs ps ?_)
  have hno : ¬ ((((items.size : Nat) : Int) - 1 == 0 && (-1 : Int) == 1 && items.size == items.size) = true) := fun q => by
    rw [Bool.and_eq_true, Bool.and_eq_true] at q
    exact absurd q.1.2 (by decide)
  show wpAny _ _ (if (((items.size : Nat) : Int) - 1 == 0 && (-1 : Int) == 1 && items.size == items.size) = true then _ else _) _ _ s
  rw [if_neg hno, pick_rev]
  first
    | exact wpAny_bind (m := Builtin.Tuple.tupleExact _) (wpAny_newObj_type (wpAny_pure ⟨_, rfl, wpAny_pure h⟩) hok)
    | exact wpAny_bind (m := Builtin.Tuple.tupleExact _) (wpAny_newObj_type (wpAny_bind (wpAny_pure (wpAny_pure ⟨_, rfl, wpAny_pure h⟩))) hok)
    | exact wpAny_bind (wpAny_bind (m := Builtin.Tuple.tupleExact _) (wpAny_newObj_type (wpAny_pure (wpAny_pure ⟨_, rfl, wpAny_pure h⟩)) hok))
    | exact wpAny_bind (wpAny_bind (m := Builtin.Tuple.tupleExact _) (wpAny_newObj_type (wpAny_pure ⟨_, rfl, wpAny_pure h⟩) hok))
end
theorem fm_congr {α β : Type} {f g : α → Option β} : ∀ {l : List α}, (∀ x ∈ l, f x = g x) → l.filterMap f = l.filterMap g
  | [], _ => rfl
  | a :: l, h => by
    rw [List.filterMap_cons, List.filterMap_cons, h a (by simp), fm_congr fun x hx => h x (List.mem_cons_of_mem _ hx)]
theorem pick_back (items : Array Value) (hn : 1 ≤ items.size) : slicePick items (some (-2)) none (some (-1)) = items.toList.dropLast.reverse.toArray := by
  have e : sliceBounds (some (-2)) none (some (-1)) items.size = (((items.size - 1 : Nat) : Int) - 1, -1, -1) := by
    unfold sliceBounds
    simp only [Option.getD_some, show ¬ ((-1 : Int) > 0) by decide, if_false, show ((-2 : Int) < 0) by decide, if_true]
    refine Prod.ext ?_ rfl
    show max (-1) (min (-2 + ((items.size : Nat) : Int)) (((items.size : Nat) : Int) - 1)) = ((items.size - 1 : Nat) : Int) - 1
    omega
  unfold slicePick
  rw [e]
  show ((sliceRange (((items.size - 1 : Nat) : Int) - 1) (-1) (-1)).filterMap (items[·]?)).toArray = _
  rw [PySem.W.krv_sliceRange, PySem.W.krv_range, List.filterMap_reverse]
  congr 2
  have h := PySem.W.krv_all (items.toList.dropLast.toArray)
  rw [show items.toList.dropLast.toArray.size = items.size - 1 by simp] at h
  rw [show items.toList.dropLast = items.toList.dropLast.toArray.toList by simp, ← h]
  refine fm_congr fun x hx => ?_
  have hx := List.mem_range.mp hx
  show items[x]? = items.toList.dropLast.toArray[x]?
  have e1 : items.toList.dropLast.toArray[x]? = items.toList.dropLast[x]? := by simp
  rw [e1, List.getElem?_dropLast, if_pos (by rw [Array.length_toList]; exact hx), Array.getElem?_toList]
def tRevT (K : PySem.W.Frag) (te : TE) : TE := fun σ H Q => te σ H fun x H1 => ∃ a xs, x = .ref a ∧ SqT K H1 a xs ∧ ∀ p, H1 p = none → Q (.ref p) (upd H1 p (.tup xs.reverse))
def tBack (K : PySem.W.Frag) (te : TE) : TE := fun σ H Q => te σ H fun x H1 => ∃ a xs, x = .ref a ∧ SqL K H1 a xs ∧ xs ≠ [] ∧ ∀ p, H1 p = none → Q (.ref p) (upd H1 p (.lst xs.dropLast.reverse))
theorem Vals.dropLast' : ∀ {xs : List V} {us : List Value}, Vals xs us → Vals xs.dropLast us.dropLast
  | _, _, .nil => .nil
  | [_], [_], .cons _ .nil => .nil
  | _ :: _ :: _, _ :: _ :: _, .cons h (.cons g t) => .cons h (Vals.dropLast' (.cons g t))
section
variable {X : Cx}
theorem pe_revT {e : Expr} {te : TE} {k : Nat} {p1 p2 p3 pos : Pos} (he : PE X e te) : PE X (.Subscript e (.Slice none none (some (.UnaryOp .USub (.Constant (.int 1) k p1) p2)) p3) pos) (tRevT X.K te) := by
  refine ⟨fun pins s σ H Q I h => ?_⟩
  refine Subscript_ (thn (he.run pins s σ H _ I h) fun v s1 ⟨x, H1, I1, r1, q1⟩ => ?_)
  obtain ⟨a, xs, ex, hx, q⟩ := q1
  subst ex
  cases r1
  have hst : PO X (some (.UnaryOp .USub (.Constant (.int 1) k p1) p2)) (tPart (tUn (rU fun i => .int (-i)) (tC (.int 1)))) := po_some (pe_un un_neg pe_int)
  refine wpAny_Slice (thn (po_none.run pins s1 σ H1 (fun o H2 => o = none ∧ H2 = H1) I1 ⟨rfl, rfl⟩) fun vl s2 ⟨l, H2, I2, pL, el, e2⟩ => ?_)
  subst el e2
  refine thn (po_none.run pins s2 σ H2 (fun o H3 => o = none ∧ H3 = H2) I2 ⟨rfl, rfl⟩) fun vu s3 ⟨u, H3, I3, pu, eu, e3⟩ => ?_
  subst eu e3
  refine thn (hst.run pins s3 σ H3 (fun o H4 => o = some (-1) ∧ H4 = H3) I3 ⟨1, rfl, -1, rfl, rfl, rfl⟩) fun vs s4 ⟨o, H4, I4, ps, eo, e4⟩ => ?_
  subst eo e4
  cases pL
  cases pu
  have I5 : Inv X pins σ H4 { s4 with heap := s4.heap.push { cls := .type "slice", data := .fields #[.none, .none, vs] } } := I4.kept (t' := s4.toks) fun b ob q => Heap.get?_push_of_some _ q
  obtain ⟨its, r, ht, hz⟩ := I5.tuple hx
  have hlen := r.length
  show wpAny (model X.prog X.w) X.A (subscriptTail e (.Slice none none (some (.UnaryOp .USub (.Constant (.int 1) k p1) p2)) p3) (.ref a) (.ref s4.heap.objs.size)) (EP X pins σ Q) X.xe { s4 with heap := s4.heap.push { cls := .type "slice", data := .fields #[.none, .none, vs] } }
  refine tail_any (ops := [.ref a, .ref s4.heap.objs.size]) ht.typeIs (PyProof.Rows.slot_tuple_getitem.lookup) ?_ (by with_unfolding_all rfl)
  refine item_rev ht (Heap.IsSliceOf.new _ .none .none vs) ps ?_ (by rw [List.size_toArray]; omega)
  refine ⟨.ref _, _, I5.laid (t' := s4.toks) (o := .tup xs.reverse) (fun b ob q => Heap.get?_push_of_some _ q) (Nat.le_refl _) ?_, rfl, q _ (I5.hok.fresh (Nat.le_refl _))⟩
  exact ⟨by rw [List.length_reverse]; exact hz, _, r.reverse, IsTup.new _ _⟩
theorem pe_back2 {e : Expr} {te : TE} {k k2 : Nat} {p1 p2 p3 p4 p5 pos : Pos} (he : PE X e te) : PE X (.Subscript e (.Slice (some (.UnaryOp .USub (.Constant (.int 2) k2 p4) p5)) none (some (.UnaryOp .USub (.Constant (.int 1) k p1) p2)) p3) pos) (tBack X.K te) := by
  refine ⟨fun pins s σ H Q I h => ?_⟩
  refine Subscript_ (thn (he.run pins s σ H _ I h) fun v s1 ⟨x, H1, I1, r1, q1⟩ => ?_)
  obtain ⟨a, xs, ex, hx, hne, q⟩ := q1
  subst ex
  cases r1
  have hst : PO X (some (.UnaryOp .USub (.Constant (.int 1) k p1) p2)) (tPart (tUn (rU fun i => .int (-i)) (tC (.int 1)))) := po_some (pe_un un_neg pe_int)
  have hst2 : PO X (some (.UnaryOp .USub (.Constant (.int 2) k2 p4) p5)) (tPart (tUn (rU fun i => .int (-i)) (tC (.int 2)))) := po_some (pe_un un_neg pe_int)
  refine wpAny_Slice (thn (hst2.run pins s1 σ H1 (fun o H2 => o = some (-2) ∧ H2 = H1) I1 ⟨2, rfl, -2, rfl, rfl, rfl⟩) fun vl s2 ⟨l, H2, I2, pL, el, e2⟩ => ?_)
  subst el e2
  refine thn (po_none.run pins s2 σ H2 (fun o H3 => o = none ∧ H3 = H2) I2 ⟨rfl, rfl⟩) fun vu s3 ⟨u, H3, I3, pu, eu, e3⟩ => ?_
  subst eu e3
  refine thn (hst.run pins s3 σ H3 (fun o H4 => o = some (-1) ∧ H4 = H3) I3 ⟨1, rfl, -1, rfl, rfl, rfl⟩) fun vs s4 ⟨o, H4, I4, ps, eo, e4⟩ => ?_
  subst eo e4
  have I5 : Inv X pins σ H4 { s4 with heap := s4.heap.push { cls := .type "slice", data := .fields #[vl, vu, vs] } } := I4.kept (t' := s4.toks) fun b ob q => Heap.get?_push_of_some _ q
  obtain ⟨its, r, ht, hz⟩ := I5.list hx
  have hlen := r.length
  have h1 : 1 ≤ its.toArray.size := by
    have := List.length_pos_iff.mpr hne
    rw [List.size_toArray]; omega
  show wpAny (model X.prog X.w) X.A (subscriptTail e (.Slice (some (.UnaryOp .USub (.Constant (.int 2) k2 p4) p5)) none (some (.UnaryOp .USub (.Constant (.int 1) k p1) p2)) p3) (.ref a) (.ref s4.heap.objs.size)) (EP X pins σ Q) X.xe { s4 with heap := s4.heap.push { cls := .type "slice", data := .fields #[vl, vu, vs] } }
  refine tail_any (ops := [.ref a, .ref s4.heap.objs.size]) ht.isList.typeIs (PySem.slot_list_getitem.lookup) ?_ (by with_unfolding_all rfl)
  refine wpAny_getItem_list_slice ht.isList (Heap.IsSliceOf.new _ vl vu vs) pL pu ps (by decide) ?_ (by rw [List.size_toArray]; omega)
  rw [pick_back _ h1]
  refine ⟨.ref _, _, I5.laid (t' := s4.toks) (o := .lst xs.dropLast.reverse) (fun b ob q => Heap.get?_push_of_some _ q) (Nat.le_refl _) ?_, rfl, q _ (I5.hok.fresh (Nat.le_refl _))⟩
  exact ⟨by rw [List.length_reverse, List.length_dropLast]; omega, _, 0, (Vals.dropLast' r).reverse, Heap.get?_push_size _ rfl⟩
end
end Fp
namespace Fp
open PySem PySem.Spec PyProof.Rows L2
/-- how many places of two rows are unlike -/
def neI (ds es : List Dt) (i : Nat) : Bool := !PyData.eqv (toP 2 (ds.getD i .non)) (toP 2 (es.getD i .non))
def unl (ds es : List Dt) : Nat := ((List.range ds.length).filter (neI ds es)).length
def spExcD : Sp := fun vs H Q _ => ∃ (v y : V) (p : Nat) (ds : List Dt) (e : Dt), vs = [v, .int p, y] ∧ DV H v (.tup ds) ∧ DV H y e ∧ p < ds.length ∧ ∀ c H', Same H H' → DV H' (.ref c) (.tup (ds.set p e)) → Q (.ref c) H'
def spLotOfD (K : PySem.W.Frag) : Sp := fun vs H Q _ => ∃ (a : Addr) (ns : List Int), vs = [.ref a] ∧ SqL K H a (ns.map V.int) ∧ ns.length < 60 ∧ ∀ c H' zs, Same H H' → zs.Pairwise (· < ·) → (∀ x : Int, x ∈ zs ↔ x ∈ ns) → DV H' (.ref c) (lotD zs) → Q (.ref c) H'
def spUnlD : Sp := fun vs H Q _ => ∃ (v y : V) (ds es : List Dt), vs = [v, y] ∧ DV H v (.tup ds) ∧ DV H y (.tup es) ∧ ds.length = es.length ∧ pl 3 (.tup ds) = true ∧ pl 3 (.tup es) = true ∧ ∀ H', Same H H' → Q (.int (unl ds es : Nat)) H'
theorem dvs_ints (H : Hp) : ∀ zs : List Int, DVs H (zs.map V.int) (zs.map Dt.int)
  | [] => .nil
  | z :: r => .cons (.int z) (dvs_ints H r)
theorem u64 {k : Nat} {A : Around} (r : Room k A) : A.units + 64 < cLine := by have := u65 r; omega
section
variable {P : Program} {w : World} {K : PySem.W.Frag} {mg : Str → Option Value} {base : Heap} {f : Addr} {fd : FuncData} {C : Addr}
abbrev s_is_whole_row : Stmt := top 19
theorem sc_is_whole_row : FnScope ["many", "value"] ["many", "value"] (defScope s_is_whole_row) := ⟨rfl, rfl, rfl, by decide +kernel, rfl, by decide +kernel, by decide +kernel⟩
theorem ok_is_whole_row (F : Fun K "is_whole_row" "is_whole_row" s_is_whole_row f fd) (G_is_at_once : Fd P w K mg base CX0 "is_at_once" 4 ["many", "value"] spAtD) : FnOk P w K mg base CX0 5 f fd ["many", "value"] spRowD := by
  refine F.ok sc_is_whole_row (fun vs H Q E h => ?_) (fun cdv A outer s H vs Q E hr h => ?_)
  · obtain ⟨n, v, d, rfl, _⟩ := h
    rfl
  obtain ⟨n, v, d, rfl, h1, h5, hd, k⟩ := h
  refine ⟨_, (pss_one (ps_ret (pe_and (pe_fd G_is_at_once (hr.mono (by first | decide | omega)) rfl (pa_cons (pv 0) (pa_cons (pv 1) pa_nil))) (pe_one (pe_cmpR (op_noneNotIn' (u65 hr)) pe_non (pv 1) rfl))))), ?_⟩
  refine ⟨_, rfl, _, rfl, n, v, d, rfl, h1, h5, hd, fun H1 g1 => ?_⟩
  refine ⟨_, rfl, ite2 (fun c => ?_) (fun c => ?_)⟩
  · obtain ⟨ds, rfl, _⟩ := at_tup c
    refine ⟨_, rfl, ds, rfl, hd.same g1, pl_up (at_pl c), ?_⟩
    have e : wholeB n (.tup ds) = !ds.any Dt.isNon := by
      show (atB n (.tup ds) && !ds.any Dt.isNon) = _
      rw [c, Bool.true_and]
    rw [e] at k
    exact k _ g1
  · have e : wholeB n d = false := by
      unfold wholeB
      rw [show atB n d = false by simpa using c]; rfl
    rw [e] at k
    exact k _ g1
abbrev s_lot_of : Stmt := top 10
theorem sc_lot_of : FnScope ["words"] ["words"] (defScope s_lot_of) := ⟨rfl, rfl, rfl, by decide +kernel, rfl, by decide +kernel, by decide +kernel⟩
theorem ok_lot_of (F : Fun K "lot_of" "lot_of" s_lot_of f fd) (T : RTx mg) : FnOk P w K mg base CX0 1 f fd ["words"] (spLotOfD K) := by
  refine F.ok sc_lot_of (fun vs H Q E h => ?_) (fun cdv A outer s H vs Q E hr h => ?_)
  · obtain ⟨a, ns, rfl, _⟩ := h
    rfl
  obtain ⟨a, ns, rfl, ha, hl, k⟩ := h
  refine ⟨_, (pss_one (ps_ret (pe_callTy call_tuple_of rfl T.tuple (by decide +kernel) (pa_cons (pe_callB (cr_sortedSet rfl) rfl T.sorted (by decide +kernel) (pa_cons (pe_callTy (cr_setI rfl) rfl T.set (by decide +kernel) (pa_cons (pv 0) pa_nil)) pa_nil)) pa_nil)))), ?_⟩
  refine ⟨_, rfl, a, ns, rfl, ha, by omega, fun s1 c hc n1 => ?_⟩
  have g1 := same_new n1 (SetO w s1 (fun j => decide (j ∈ ns)) c)
  refine ⟨s1, _, c, rfl, upd_same, by omega, fun zs p hz hm hzl np => ?_⟩
  have g2 := same_new np (.lst (zs.map V.int))
  refine ⟨p, _, rfl, .inl ⟨.of upd_same, fun l nl => ?_⟩⟩
  have g3 := same_new nl (.tup (zs.map V.int))
  refine k l _ zs ((g1.trans g2).trans g3) hz (fun x => (hm x).trans decide_eq_true_iff) (.tup upd_same ?_ (by rw [List.length_map]; omega))
  exact dvs_ints _ zs
end
end Fp
/-! sorted(xs), xs a list of tuples of integers of any lengths, none of them empty -/
namespace SrtO
open PySem PyProof.Rows Srt
section
variable {prog : Program} {w : World} {A : Around} {E : Value → Shared → Prop} {s : Shared}
theorem lots_lex {b fin : Bool} {Q : Bool → Shared → Prop} {xs ys : List Value} {ns ms : List Int} (i : Nat) (hx : IntsAre xs ns) (hy : IntsAre ys ms) (hf : fin = decide (xs.length < ys.length)) (h : Q (HT.lexLt ns ms) s) :
    PySem.W.KatLex prog w A b fin Q (xs.zip ys) i s := by
  induction hx generalizing ys ms i with
  | nil =>
    cases hy with
    | nil =>
      rw [show fin = false from hf.trans (decide_eq_false (by simp))]
      exact PySem.W.kat_nil h
    | cons q u hy =>
      rw [show fin = true from hf.trans (decide_eq_true (by simp))]
      exact PySem.W.kat_nil h
  | @cons p t xs ns hx ih =>
    cases hy with
    | nil =>
      rw [show fin = false from hf.trans (decide_eq_false (by simp))]
      exact PySem.W.kat_nil h
    | @cons q u ys ms hy =>
      show PySem.W.KatLex prog w A b fin Q ((Value.int p t, Value.int q u) :: xs.zip ys) i s
      rw [HT.lexLt_cons] at h
      refine PySem.W.kat_cons (wpAny_eqBool_int ?_)
      by_cases e : p = q
      · subst e
        rw [beq_self_eq_true]
        rw [if_pos rfl] at h
        refine PySem.W.kat_yes ?_
        exact ih (i + 1) hy (by simpa using hf) h
      · rw [show (p == q) = false from beq_eq_false_iff_ne.mpr e]
        rw [if_neg e] at h
        exact PySem.W.kat_no (TS.oneLt_ints _ h)
/-- v is a tuple of these integers -/
def IsLot (h : Heap) (v : Value) (ns : List Int) : Prop := ∃ (a : Addr) (o : Obj) (its : List Value) (n : Nat), v = .ref a ∧ h.get? a = some o ∧ o.cls = .type "tuple" ∧ o.data = .seq its.toArray n ∧ IntsAre its ns
theorem IsLot.keeps {h h' : Heap} {v : Value} {ns : List Int} (x : IsLot h v ns) (k : ∀ b o, h.get? b = some o → o.cls = .type "tuple" → h'.get? b = some o) : IsLot h' v ns := by
  obtain ⟨a, o, its, n, e, ho, hc, hd, hi⟩ := x
  exact ⟨a, o, its, n, e, k _ _ ho hc, hc, hd, hi⟩
theorem lot_cmp {vs : List Value} {k : Value → List Int} (hp : ∀ v ∈ vs, IsLot s.heap v (k v)) : Cmp prog w A s (tuples' true) (fun p => p.1 ∈ vs) (lt2 fun v u => HT.lexLt (k v) (k u)) := by
  intro p q hm hm'
  obtain ⟨a, o, its, n, e, ho, hc, hd, hi⟩ := hp _ hm
  obtain ⟨a', o', its', n', e', ho', hc', hd', hi'⟩ := hp _ hm'
  show wpAny (model prog w) A (keyLt' (tuples' true) p.1 q.1) (fun r s' => s' = s ∧ r = HT.lexLt (k p.1) (k q.1)) (fun _ _ => False) s
  rw [e] at hi ⊢
  rw [e'] at hi' ⊢
  refine PySem.W.kat_lt ho hd ho' hd' ?_
  exact lots_lex 0 hi hi' (by simp) ⟨rfl, rfl⟩
theorem lots_firsts : ∀ {vs : List Value} {k : Value → List Int}, (∀ v ∈ vs, IsLot s.heap v (k v) ∧ k v ≠ []) → ∃ fs, PySem.W.KatTups s.heap vs fs ∧ fs.length = vs.length ∧ ∀ f ∈ fs, ∃ x t, f = Value.int x t
  | [], _, _ => ⟨[], .nil, rfl, fun f hf => by cases hf⟩
  | v :: vs, k, h => by
    obtain ⟨fs, h1, h2, h3⟩ := lots_firsts fun u hu => h u (List.mem_cons_of_mem _ hu)
    obtain ⟨⟨a, o, its, n, e, ho, hc, hd, hi⟩, hne⟩ := h v List.mem_cons_self
    generalize k v = ns at hi hne
    cases hi with
    | nil => exact absurd rfl hne
    | @cons p t xs ns hx =>
      rw [e]
      refine ⟨.int p t :: fs, PySem.W.KatTups.cons ho hc hd (by simp) h1, by rw [List.length_cons, List.length_cons, h2], fun f hf => ?_⟩
      rcases List.mem_cons.mp hf with z | z
      · exact ⟨p, t, z⟩
      · exact h3 f z
theorem lots_sortableO {a : Addr} {vs : List Value} {k : Value → List Int} (h0 : 0 < vs.length) (hp : ∀ v ∈ vs, IsLot s.heap v (k v) ∧ k v ≠ []) (ha : ∀ o, s.heap.get? a = some o → o.cls ≠ .type "tuple") : SortableO prog w A s a vs fun v u => HT.lexLt (k v) (k u) := by
  intro h' keep
  have hp' : ∀ v ∈ vs, IsLot h' v (k v) ∧ k v ≠ [] := fun v hm => ⟨(hp v hm).1.keeps fun b o e c => keep b o (fun z => by subst z; exact ha o e c) e, (hp v hm).2⟩
  obtain ⟨fs, h1, h2, h3⟩ := lots_firsts (s := { s with heap := h' }) hp'
  refine ⟨tuples' true, fun Q E hq => ?_, lot_cmp (s := { s with heap := h' }) fun v hm => (hp' v hm).1⟩
  refine PySem.W.kat_kind (T := .type "int") h1 (by omega) (fun f hm => ?_) (by rfl) ?_
  · obtain ⟨x, t, rfl⟩ := h3 f hm
    exact PySem.W.Looks.now
  · have e : (Value.type "int" != Value.type "tuple") = true := by first | decide +kernel | rfl | decide
    rw [e]
    exact hq
/-- sorted(l) of such tuples: sorted by their integers, stable -/
theorem sorted_lotsO {l : Addr} {vs : List Value} {k : Value → List Int} {Q : Value → Shared → Prop} (hl : s.heap.IsList l vs.toArray) (hz : vs.length ≤ sizeLine) (hp : ∀ v ∈ vs, IsLot s.heap v (k v) ∧ k v ≠ [])
    (h : ∀ (h' : Heap) (d : Addr) (out : List Value), Srtd (fun v u => HT.lexLt (k v) (k u)) out → Stb (fun v u => HT.lexLt (k v) (k u)) out vs → (∀ b o, s.heap.get? b = some o → h'.get? b = some o) → s.heap.objs.size ≤ d → (∃ n, h'.get? d = some (seqObj "list" out.toArray n)) → Q (.ref d) { s with heap := h' }) :
    wpAny (model prog w) A (call (.builtin "sorted") [.ref l]) Q E s := by
  refine sorted_ord (NtL.swo_lexL k) hl hz (fun h2 h₁ a ha kk => ?_) fun out hs hb => ?_
  · refine lots_sortableO (s := { s with heap := h₁ }) (by omega) (fun v hm => ⟨(hp v hm).1.keeps fun b o e _ => (kk b o e).2, (hp v hm).2⟩) fun o e => ?_
    have e' : some o = some (seqObj "list" vs.toArray 0) := e.symm.trans ha
    cases e'
    intro c
    exact absurd (Value.type.inj c) (by decide)
  · exact h _ _ out hs hb (fun b o e => sortedAll_old e) (Nat.le_succ _) (sortedAll_at s.heap vs out.toArray)
end
end SrtO
namespace L2
open PySem PySem.Spec PyProof.Rows
/-- x before y: by their integers -/
abbrev ltL (k : V → List Int) (x y : V) : Bool := HT.lexLt (k x) (k y)
/-- sorted(xs), xs a list of tuples of integers, none empty (k says which): a new list, sorted, equal ones in their order -/
def rSortedLO (K : PySem.W.Frag) : List V → Hp → VK → Prop := fun vs H Q => ∃ (a : Addr) (xs : List V) (k : V → List Int), vs = [V.ref a] ∧ SqL K H a xs ∧ (∀ x ∈ xs, ∃ t, x = V.ref t ∧ H t = some (.tup ((k x).map V.int)) ∧ k x ≠ []) ∧
  ∀ ys p, SrtO.Srtd (ltL k) ys → SrtO.Stb (ltL k) ys xs → H p = none → Q (.ref p) (upd H p (.lst ys))
section
variable {X : Cx}
theorem cr_sortedLO : CallR X (.builtin "sorted") (rSortedLO X.K) := by
  intro pins s σ H vs us Q I r h
  obtain ⟨a, xs, k, rfl, hs, hx, q⟩ := h
  obtain ⟨its, rv, hl, hz⟩ := I.list hs
  obtain ⟨u, rfl, ru⟩ := vals1 r
  obtain rfl : u = Value.ref a := ru
  obtain ⟨e1, e2⟩ := refs_back rv fun x m => by
    obtain ⟨t, e, _⟩ := hx x m
    exact ⟨t, e⟩
  refine SrtO.sorted_lotsO (k := fun u => k (backV u)) hl.isList (by rw [← rv.length]; exact hz) (fun v hv => ?_) fun h' d out h1 h2 kp hd hn => ?_
  · obtain ⟨t, rfl⟩ := e2 v hv
    have hm : V.ref t ∈ xs := by rw [e1]; exact List.mem_map.mpr ⟨_, hv, rfl⟩
    obtain ⟨t', e, ht, hne⟩ := hx _ hm
    cases e
    obtain ⟨_, its2, r2, o, ho, hc, n, hd⟩ := I.hok _ _ ht
    exact ⟨⟨t, o, its2, n, rfl, ho, hc, hd, Fp.ints_vals r2⟩, hne⟩
  · have h3 : ∀ u ∈ out, ∃ a, u = Value.ref a := fun u hu => e2 u (h2.perm.mem_iff.mp hu)
    obtain ⟨n, hn⟩ := hn
    have hb : SrtO.Stb (ltL k) (out.map backV) xs := by
      rw [e1]
      exact SrtO.Stb.map (NtL.swo_lexL k) backV h2
    refine ⟨.ref d, upd H d (.lst (out.map backV)), I.laid (t' := s.toks) kp hd ⟨?_, out, n, vals_back h3, hn⟩, rfl, q _ d (SrtO.srtd_map h1) hb (I.hok.fresh hd)⟩
    rw [hb.len]
    exact hz
end
end L2
/-! sorted(xs), xs a list of rows: tuples, none empty, of tuples of integers -/
namespace Fp
open PySem PySem.Spec PyProof.Rows L2
/-- rows, by their lots, these by their integers -/
def lexR : List (List Int) → List (List Int) → Bool
  | [], [] => false
  | [], _ :: _ => true
  | _ :: _, [] => false
  | x :: xs, y :: ys => if x = y then lexR xs ys else HT.lexLt x y
theorem lexI_total : ∀ {x y : List Int}, HT.lexLt x y = false → HT.lexLt y x = false → x = y
  | [], [], _, _ => rfl
  | [], y :: ys, h, _ => by rw [HT.lexLt_nil_cons] at h; cases h
  | x :: xs, [], _, h => by rw [HT.lexLt_nil_cons] at h; cases h
  | x :: xs, y :: ys, h, g => by
    rw [HT.lexLt_cons] at h g
    by_cases e : x = y
    · rw [if_pos e] at h
      rw [if_pos e.symm] at g
      rw [e, lexI_total h g]
    · rw [if_neg e] at h
      rw [if_neg (Ne.symm e)] at g
      have a := of_decide_eq_false h
      have b := of_decide_eq_false g
      omega
theorem lexR_irr : ∀ {x : List (List Int)}, lexR x x = false
  | [] => rfl
  | x :: xs => by
    show (if x = x then lexR xs xs else _) = false
    rw [if_pos rfl]; exact lexR_irr
theorem lexR_total : ∀ {x y : List (List Int)}, lexR x y = false → lexR y x = false → x = y
  | [], [], _, _ => rfl
  | [], y :: ys, h, _ => by cases h
  | x :: xs, [], _, h => by cases h
  | x :: xs, y :: ys, h, g => by
    have h : (if x = y then lexR xs ys else HT.lexLt x y) = false := h
    have g : (if y = x then lexR ys xs else HT.lexLt y x) = false := g
    by_cases e : x = y
    · rw [if_pos e] at h
      rw [if_pos e.symm] at g
      rw [e, lexR_total h g]
    · rw [if_neg e] at h
      rw [if_neg (Ne.symm e)] at g
      exact absurd (lexI_total h g) e
theorem lexR_asym : ∀ {x y : List (List Int)}, lexR x y = true → lexR y x = false
  | [], [], h => by cases h
  | [], y :: ys, _ => rfl
  | x :: xs, [], h => by cases h
  | x :: xs, y :: ys, h => by
    have h : (if x = y then lexR xs ys else HT.lexLt x y) = true := h
    show (if y = x then lexR ys xs else HT.lexLt y x) = false
    by_cases e : x = y
    · rw [if_pos e] at h
      rw [if_pos e.symm]
      exact lexR_asym h
    · rw [if_neg e] at h
      rw [if_neg (Ne.symm e)]
      exact NtL.lex_asym _ _ h
theorem lexR_tr : ∀ {x y z : List (List Int)}, lexR y x = false → lexR z y = false → lexR z x = false
  | [], y, z, _, _ => by cases z <;> rfl
  | x :: xs, [], z, h, _ => by cases h
  | x :: xs, y :: ys, [], _, h => by cases h
  | x :: xs, y :: ys, z :: zs, h, g => by
    have h : (if y = x then lexR ys xs else HT.lexLt y x) = false := h
    have g : (if z = y then lexR zs ys else HT.lexLt z y) = false := g
    show (if z = x then lexR zs xs else HT.lexLt z x) = false
    by_cases e1 : y = x
    · rw [if_pos e1] at h
      by_cases e2 : z = y
      · rw [if_pos e2] at g
        rw [if_pos (e2.trans e1)]
        exact lexR_tr h g
      · rw [if_neg e2] at g
        rw [if_neg (fun q => e2 (q.trans e1.symm))]
        rw [← e1]; exact g
    · rw [if_neg e1] at h
      by_cases e2 : z = y
      · rw [if_neg (fun q => e1 (e2.symm.trans q)), e2]
        exact h
      · rw [if_neg e2] at g
        by_cases e3 : z = x
        · have : HT.lexLt y z = false := by rw [e3]; exact h
          exact absurd (lexI_total g this) e2
        · rw [if_neg e3]
          exact NtL.lex_tr _ _ _ h g
theorem swo_lexR {α : Type} (k : α → List (List Int)) : SrtO.Swo (fun v u : α => lexR (k v) (k u)) := ⟨fun x y h => lexR_asym h, fun x y z h g => lexR_tr h g⟩
section
variable {prog : Program} {w : World} {A : Around} {E : Value → Shared → Prop} {s : Shared}
open SrtO Srt
theorem lot_reads : ∀ {its : List Value} {ns : List Int}, IntsAre its ns → ReadsAll s.heap its (ns.map PyData.int) []
  | _, _, .nil => .nil
  | _, _, .cons n t h => .cons (as := []) (bs := []) (.int n t) (lot_reads h)
theorem lotP_lay (ns : List Int) : (PyData.tuple (ns.map PyData.int)).canLay0 = true := by
  have : toP 1 (lotD ns) = .tuple (ns.map PyData.int) := by
    show PyData.tuple ((ns.map Dt.int).map (toP 0)) = _
    rw [List.map_map]; rfl
  rw [← this]; exact toP_lay
theorem lotP_dep (ns : List Int) : (PyData.tuple (ns.map PyData.int)).depth ≤ 1 := by
  have : toP 1 (lotD ns) = .tuple (ns.map PyData.int) := by
    show PyData.tuple ((ns.map Dt.int).map (toP 0)) = _
    rw [List.map_map]; rfl
  rw [← this]; exact toP_depth
theorem lotP_eqv (ns ms : List Int) : PyData.eqv (.tuple (ns.map PyData.int)) (.tuple (ms.map PyData.int)) = decide (ns = ms) := by
  have e : ∀ ns : List Int, toP 1 (lotD ns) = .tuple (ns.map PyData.int) := fun ns => by
    show PyData.tuple ((ns.map Dt.int).map (toP 0)) = _
    rw [List.map_map]; rfl
  have p : ∀ ns : List Int, pl 1 (lotD ns) = true := fun ns => pl_tup.mpr fun d hd => by obtain ⟨i, _, rfl⟩ := List.mem_map.mp hd; rfl
  rw [← e, ← e, Bool.eq_iff_iff, eqv_iff (p _) (p _), decide_eq_true_iff]
  exact ⟨lotD_inj, fun z => by rw [z]⟩
theorem lot_eq {p q : Value} {ns ms : List Int} {Q : Bool → Shared → Prop} (hu : A.units + 1 < cLine) (hp : IsLot s.heap p ns) (hq : IsLot s.heap q ms) (h : Q (decide (ns = ms)) s) : wpAny (model prog w) A (eqBool p q) Q E s := by
  obtain ⟨a, o, its, n, rfl, ho, hc, hd, hi⟩ := hp
  obtain ⟨b, o2, its2, n2, rfl, ho2, hc2, hd2, hi2⟩ := hq
  refine PySem.SeqAt.eqBoolOverData prog w A E s _ _ (.tuple (ns.map PyData.int)) (.tuple (ms.map PyData.int)) [] [] Q (.tuple ho hc hd (lot_reads hi)) (.tuple ho2 hc2 hd2 (lot_reads hi2)) (lotP_lay _) (lotP_lay _) ?_ (by rw [lotP_eqv]; exact h)
  have := lotP_dep ns
  omega
theorem lot_lt {p q : Value} {ns ms : List Int} {Q : Bool → Shared → Prop} (hu : A.units < cLine) (hp : IsLot s.heap p ns) (hq : IsLot s.heap q ms) (h : Q (HT.lexLt ns ms) s) : wpAny (model prog w) A (oneLt' false p q) Q E s := by
  obtain ⟨a, o, its, n, rfl, ho, hc, hd, hi⟩ := hp
  obtain ⟨b, o2, its2, n2, rfl, ho2, hc2, hd2, hi2⟩ := hq
  exact PySem.W.kat_one _ _ (HT.lt_tupInts (Q := PySem.W.BoolBack Q) ⟨o, ho, hc, n, hd⟩ ⟨o2, ho2, hc2, n2, hd2⟩ hi hi2 hu h)
theorem rows_lex {fin : Bool} {Q : Bool → Shared → Prop} (hu : A.units + 1 < cLine) : ∀ {xs ys : List Value} {rs qs : List (List Int)} (i : Nat), Paired (IsLot s.heap) xs rs → Paired (IsLot s.heap) ys qs → fin = decide (xs.length < ys.length) → Q (lexR rs qs) s → PySem.W.KatLex prog w A false fin Q (xs.zip ys) i s
  | _, _, _, _, i, .nil, .nil, hf, h => by
    rw [show fin = false from hf.trans (decide_eq_false (by simp))]
    exact PySem.W.kat_nil h
  | _, _, _, _, i, .nil, .cons _ _, hf, h => by
    rw [show fin = true from hf.trans (decide_eq_true (by simp))]
    exact PySem.W.kat_nil h
  | _, _, _, _, i, .cons _ _, .nil, hf, h => by
    rw [show fin = false from hf.trans (decide_eq_false (by simp))]
    exact PySem.W.kat_nil h
  | _, _, _, _, i, .cons (b := r) hp t, .cons (b := q) hq t2, hf, h => by
    have h : Q (if r = q then _ else _) s := h
    refine PySem.W.kat_cons (lot_eq hu hp hq ?_)
    by_cases e : r = q
    · rw [decide_eq_true e]
      rw [if_pos e] at h
      exact PySem.W.kat_yes (rows_lex hu (i + 1) t t2 (by simpa using hf) h)
    · rw [decide_eq_false e]
      rw [if_neg e] at h
      exact PySem.W.kat_no (lot_lt (by omega) hp hq h)
/-- v is a row: a tuple of such tuples -/
def IsRowV (h : Heap) (v : Value) (rs : List (List Int)) : Prop := ∃ (a : Addr) (o : Obj) (its : List Value) (n : Nat), v = .ref a ∧ h.get? a = some o ∧ o.cls = .type "tuple" ∧ o.data = .seq its.toArray n ∧ Paired (IsLot h) its rs
theorem lots_keep {h h' : Heap} (k : ∀ b o, h.get? b = some o → o.cls = .type "tuple" → h'.get? b = some o) : ∀ {its : List Value} {rs : List (List Int)}, Paired (IsLot h) its rs → Paired (IsLot h') its rs
  | _, _, .nil => .nil
  | _, _, .cons a t => .cons (a.keeps k) (lots_keep k t)
theorem IsRowV.keeps {h h' : Heap} {v : Value} {rs : List (List Int)} (x : IsRowV h v rs) (k : ∀ b o, h.get? b = some o → o.cls = .type "tuple" → h'.get? b = some o) : IsRowV h' v rs := by
  obtain ⟨a, o, its, n, e, ho, hc, hd, hi⟩ := x
  exact ⟨a, o, its, n, e, k _ _ ho hc, hc, hd, lots_keep k hi⟩
theorem row_cmp {vs : List Value} {k : Value → List (List Int)} (hu : A.units + 1 < cLine) (hp : ∀ v ∈ vs, IsRowV s.heap v (k v)) : Cmp prog w A s (tuples' false) (fun p => p.1 ∈ vs) (lt2 fun v u => lexR (k v) (k u)) := by
  intro p q hm hm'
  obtain ⟨a, o, its, n, e, ho, hc, hd, hi⟩ := hp _ hm
  obtain ⟨a', o', its', n', e', ho', hc', hd', hi'⟩ := hp _ hm'
  show wpAny (model prog w) A (keyLt' (tuples' false) p.1 q.1) (fun r s' => s' = s ∧ r = lexR (k p.1) (k q.1)) (fun _ _ => False) s
  rw [e] at hi ⊢
  rw [e'] at hi' ⊢
  refine PySem.W.kat_lt ho hd ho' hd' ?_
  exact rows_lex hu 0 hi hi' (by simp) ⟨rfl, rfl⟩
theorem rows_firsts : ∀ {vs : List Value} {k : Value → List (List Int)}, (∀ v ∈ vs, IsRowV s.heap v (k v) ∧ k v ≠ []) → ∃ fs, PySem.W.KatTups s.heap vs fs ∧ fs.length = vs.length ∧ ∀ f ∈ fs, ∃ ns, IsLot s.heap f ns
  | [], _, _ => ⟨[], .nil, rfl, fun f hf => by cases hf⟩
  | v :: vs, k, h => by
    obtain ⟨fs, h1, h2, h3⟩ := rows_firsts fun u hu => h u (List.mem_cons_of_mem _ hu)
    obtain ⟨⟨a, o, its, n, e, ho, hc, hd, hi⟩, hne⟩ := h v List.mem_cons_self
    generalize k v = rs at hi hne
    cases hi with
    | nil => exact absurd rfl hne
    | @cons p r _ _ hp t =>
      rw [e]
      refine ⟨p :: fs, PySem.W.KatTups.cons ho hc hd (by simp) h1, by rw [List.length_cons, List.length_cons, h2], fun f hf => ?_⟩
      rcases List.mem_cons.mp hf with z | z
      · rw [z]; exact ⟨_, hp⟩
      · exact h3 f z
theorem rows_sortableO {a : Addr} {vs : List Value} {k : Value → List (List Int)} (hu : A.units + 1 < cLine) (h0 : 0 < vs.length) (hp : ∀ v ∈ vs, IsRowV s.heap v (k v) ∧ k v ≠ []) (ha : ∀ o, s.heap.get? a = some o → o.cls ≠ .type "tuple") : SortableO prog w A s a vs fun v u => lexR (k v) (k u) := by
  intro h' keep
  have hp' : ∀ v ∈ vs, IsRowV h' v (k v) ∧ k v ≠ [] := fun v hm => ⟨(hp v hm).1.keeps fun b o e c => keep b o (fun z => by subst z; exact ha o e c) e, (hp v hm).2⟩
  obtain ⟨fs, h1, h2, h3⟩ := rows_firsts (s := { s with heap := h' }) hp'
  refine ⟨tuples' false, fun Q E hq => ?_, row_cmp (s := { s with heap := h' }) hu fun v hm => (hp' v hm).1⟩
  refine PySem.W.kat_kind (T := .type "tuple") h1 (by omega) (fun f hm => ?_) (by rfl) ?_
  · obtain ⟨ns, b, o, its, n, rfl, ho, hc, hd, hi⟩ := h3 f hm
    rw [← hc]
    exact (PySem.W.Looks.ld ho).andThen .now
  · have e : (Value.type "tuple" != Value.type "tuple") = false := by first | decide +kernel | rfl | decide
    rw [e]
    exact hq
theorem sorted_rowsO {l : Addr} {vs : List Value} {k : Value → List (List Int)} {Q : Value → Shared → Prop} (hu : A.units + 4 < cLine) (hl : s.heap.IsList l vs.toArray) (hz : vs.length ≤ sizeLine) (hp : ∀ v ∈ vs, IsRowV s.heap v (k v) ∧ k v ≠ [])
    (h : ∀ (h' : Heap) (d : Addr) (out : List Value), Srtd (fun v u => lexR (k v) (k u)) out → Stb (fun v u => lexR (k v) (k u)) out vs → (∀ b o, s.heap.get? b = some o → h'.get? b = some o) → s.heap.objs.size ≤ d → (∃ n, h'.get? d = some (seqObj "list" out.toArray n)) → Q (.ref d) { s with heap := h' }) :
    wpAny (model prog w) A (call (.builtin "sorted") [.ref l]) Q E s := by
  refine sorted_ord (swo_lexR k) hl hz (fun h2 h₁ a ha kk => ?_) fun out hs hb => ?_
  · refine rows_sortableO (s := { s with heap := h₁ }) (by show A.units + 1 + 1 + 1 < cLine; omega) (by omega) (fun v hm => ⟨(hp v hm).1.keeps fun b o e _ => (kk b o e).2, (hp v hm).2⟩) fun o e => ?_
    have e' : some o = some (seqObj "list" vs.toArray 0) := e.symm.trans ha
    cases e'
    intro c
    exact absurd (Value.type.inj c) (by decide)
  · exact h _ _ out hs hb (fun b o e => sortedAll_old e) (Nat.le_succ _) (sortedAll_at s.heap vs out.toArray)
end
abbrev ltR (k : V → List (List Int)) (x y : V) : Bool := lexR (k x) (k y)
/-- x is a row of these lots -/
def RowAt (H : Hp) (x : V) (rs : List (List Int)) : Prop := ∃ t ys, x = .ref t ∧ H t = some (.tup ys) ∧ Paired (fun y ns => ∃ c, y = .ref c ∧ H c = some (.tup (ns.map V.int))) ys rs
/-- sorted(xs), xs a list of rows, none empty: a new list, sorted, equal ones in their order -/
def rSortedRO (K : PySem.W.Frag) : List V → Hp → VK → Prop := fun vs H Q => ∃ (a : Addr) (xs : List V) (k : V → List (List Int)), vs = [V.ref a] ∧ SqL K H a xs ∧ (∀ x ∈ xs, RowAt H x (k x) ∧ k x ≠ []) ∧
  ∀ ys p, SrtO.Srtd (ltR k) ys → SrtO.Stb (ltR k) ys xs → H p = none → Q (.ref p) (upd H p (.lst ys))
section
variable {X : Cx}
theorem lots_of {pins : List (Addr × Obj)} {s : Shared} {σ : L2.St} {H : Hp} (I : Inv X pins σ H s) : ∀ {ys : List V} {us : List Value} {rs : List (List Int)}, Vals ys us → Paired (fun y ns => ∃ c, y = .ref c ∧ H c = some (.tup (ns.map V.int))) ys rs → Paired (SrtO.IsLot s.heap) us rs
  | _, _, _, .nil, .nil => .nil
  | _, _, _, .cons r t, .cons ⟨c, e, hc⟩ q => by
    subst e
    cases r
    obtain ⟨_, its2, r2, o, ho, hcl, n, hd⟩ := I.hok _ _ hc
    exact .cons ⟨c, o, its2, n, rfl, ho, hcl, hd, ints_vals r2⟩ (lots_of I t q)
theorem cr_sortedRO (hu : X.A.units + 64 < cLine) : CallR X (.builtin "sorted") (rSortedRO X.K) := by
  intro pins s σ H vs us Q I r h
  obtain ⟨a, xs, k, rfl, hs, hx, q⟩ := h
  obtain ⟨its, rv, hl, hz⟩ := I.list hs
  obtain ⟨u, rfl, ru⟩ := vals1 r
  obtain rfl : u = Value.ref a := ru
  obtain ⟨e1, e2⟩ := refs_back rv fun x m => by
    obtain ⟨⟨t, ys, e, _⟩, _⟩ := hx x m
    exact ⟨t, e⟩
  refine sorted_rowsO (k := fun u => k (backV u)) (by omega) hl.isList (by rw [← rv.length]; exact hz) (fun v hv => ?_) fun h' d out h1 h2 kp hd hn => ?_
  · obtain ⟨t, rfl⟩ := e2 v hv
    have hm : V.ref t ∈ xs := by rw [e1]; exact List.mem_map.mpr ⟨_, hv, rfl⟩
    obtain ⟨⟨t', ys, e, ht, hp⟩, hne⟩ := hx _ hm
    cases e
    obtain ⟨_, its2, r2, o, ho, hc, n, hd⟩ := I.hok _ _ ht
    exact ⟨⟨t, o, its2, n, rfl, ho, hc, hd, lots_of I r2 hp⟩, hne⟩
  · have h3 : ∀ u ∈ out, ∃ a, u = Value.ref a := fun u hu => e2 u (h2.perm.mem_iff.mp hu)
    obtain ⟨n, hn⟩ := hn
    have hb : SrtO.Stb (ltR k) (out.map backV) xs := by
      rw [e1]
      exact SrtO.Stb.map (swo_lexR k) backV h2
    refine ⟨.ref d, upd H d (.lst (out.map backV)), I.laid (t' := s.toks) kp hd ⟨?_, out, n, vals_back h3, hn⟩, rfl, q _ d (SrtO.srtd_map h1) hb (I.hok.fresh hd)⟩
    rw [hb.len]
    exact hz
end
end Fp
/-! lots within a lot -/
namespace Fp
open PySem PySem.Spec PyProof.Rows L2
def LotV (H : Hp) (y : V) (l : List Int) : Prop := ∃ c, y = .ref c ∧ H c = some (.tup (l.map V.int))
theorem LotV.same {H H' : Hp} {y : V} {l : List Int} (g : Same H H') : LotV H y l → LotV H' y l := fun ⟨c, e, h⟩ => ⟨c, e, g _ _ h⟩
theorem LotV.put {H : Hp} {y : V} {l : List Int} {a : Addr} {xs ys : List V} (h : H a = some (.lst xs)) : LotV H y l → LotV (upd H a (.lst ys)) y l := fun ⟨c, e, hc⟩ => ⟨c, e, by rw [upd_ne (fun z => by rw [z, h] at hc; cases hc)]; exact hc⟩
def LotsV (H : Hp) : List V → List (List Int) → Prop := Paired (LotV H)
theorem LotsV.same {H H' : Hp} {ys : List V} {ls : List (List Int)} (g : Same H H') (h : LotsV H ys ls) : LotsV H' ys ls := pr_imp (fun _ _ => LotV.same g) h
theorem LotsV.put {H : Hp} {ys : List V} {ls : List (List Int)} {a : Addr} {xs zs : List V} (e : H a = some (.lst xs)) (h : LotsV H ys ls) : LotsV (upd H a (.lst zs)) ys ls := pr_imp (fun _ _ => LotV.put e) h
/-- all lots of these words but the empty one, as lots_within tells them -/
def lwAll (ws : List Int) : List (List Int) := ws.foldl (fun ls w => ls ++ ls.map (· ++ [w])) [[]]
theorem lwAll_snoc (ws : List Int) (w : Int) : lwAll (ws ++ [w]) = lwAll ws ++ (lwAll ws).map (· ++ [w]) := by unfold lwAll; rw [List.foldl_append]; rfl
theorem lw_len : ∀ (ws : List Int) (acc : List (List Int)), (ws.foldl (fun ls w => ls ++ ls.map (· ++ [w])) acc).length = acc.length * 2 ^ ws.length
  | [], acc => by simp
  | w :: ws, acc => by
    rw [List.foldl_cons, lw_len ws, List.length_append, List.length_map, List.length_cons, Nat.pow_succ, ← Nat.two_mul, Nat.mul_comm 2, Nat.mul_assoc, Nat.mul_comm 2]
theorem lwAll_len (ws : List Int) : (lwAll ws).length = 2 ^ ws.length := by
  unfold lwAll
  rw [lw_len]; simp
theorem lw_small : ∀ (ws : List Int) (acc : List (List Int)) (n : Nat), (∀ l ∈ acc, l.length ≤ n) → ∀ l ∈ ws.foldl (fun ls w => ls ++ ls.map (· ++ [w])) acc, l.length ≤ n + ws.length
  | [], acc, n, h, l, hl => h l hl
  | w :: ws, acc, n, h, l, hl => by
    have := lw_small ws (acc ++ acc.map (· ++ [w])) (n + 1) (fun m hm => by
      rcases List.mem_append.mp hm with hm | hm
      · have := h m hm; omega
      · obtain ⟨m', hm', rfl⟩ := List.mem_map.mp hm
        have := h m' hm'
        rw [List.length_append, List.length_singleton]; omega) l hl
    rw [List.length_cons]; omega
theorem op_catAK {X : Cx} {K : PySem.W.Frag} (e : X.K = K := by rfl) : OpR X (binaryOp .Add) (rCatA K) := by subst e; exact op_catA
theorem pr_left {α β : Type} {R : α → β → Prop} : ∀ {xs : List α} {ys : List β} {i : Nat} {x : α}, Paired R xs ys → xs[i]? = some x → ∃ y, ys[i]? = some y ∧ R x y
  | _, _, _, _, .nil, h => by simp at h
  | _, _, 0, _, .cons r _, h => by
    simp at h; subst h
    exact ⟨_, rfl, r⟩
  | _, _, i + 1, _, .cons _ t, h => by
    obtain ⟨y, h1, h2⟩ := pr_left t (by simpa using h)
    exact ⟨y, by simpa using h1, h2⟩
theorem pr_app2 {α β : Type} {R : α → β → Prop} : ∀ {xs xs' : List α} {ys ys' : List β}, Paired R xs ys → Paired R xs' ys' → Paired R (xs ++ xs') (ys ++ ys')
  | _, _, _, _, .nil, h => h
  | _, _, _, _, .cons r t, h => .cons r (pr_app2 t h)
theorem pr_drop2 {α β : Type} {R : α → β → Prop} : ∀ {n : Nat} {xs : List α} {ys : List β}, Paired R xs ys → Paired R (xs.drop n) (ys.drop n)
  | 0, _, _, h => h
  | _ + 1, _, _, .nil => .nil
  | n + 1, _, _, .cons _ t => pr_drop2 (n := n) t
theorem pr_take2 {α β : Type} {R : α → β → Prop} : ∀ {n : Nat} {xs : List α} {ys : List β}, Paired R xs ys → Paired R (xs.take n) (ys.take n)
  | 0, _, _, _ => .nil
  | _ + 1, _, _, .nil => .nil
  | n + 1, _, _, .cons r t => .cons r (pr_take2 (n := n) t)
theorem pr_len2 {α β : Type} {R : α → β → Prop} : ∀ {xs : List α} {ys : List β}, Paired R xs ys → xs.length = ys.length
  | _, _, .nil => rfl
  | _, _, .cons _ t => by rw [List.length_cons, List.length_cons, pr_len2 t]
def spLW (K : PySem.W.Frag) : Sp := fun vs H Q _ => ∃ (a : Addr) (ws : List Int), vs = [.ref a] ∧ SqL K H a (ws.map V.int) ∧ ws.length ≤ 5 ∧ ∀ c H' ys, Same H H' → H' c = some (.lst ys) → LotsV H' ys ((lwAll ws).drop 1) → Q (.ref c) H'
section
variable {P : Program} {w : World} {K : PySem.W.Frag} {mg : Str → Option Value} {base : Heap} {f : Addr} {fd : FuncData} {C : Addr}
abbrev s_lots_within : Stmt := top 12
theorem sc_lots_within : FnScope ["words", "lots", "word", "lot"] ["words"] (defScope s_lots_within) := ⟨rfl, rfl, rfl, by decide +kernel, rfl, by decide +kernel, by decide +kernel⟩
theorem ok_lots_within (F : Fun K "lots_within" "lots_within" s_lots_within f fd) : FnOk P w K mg base CX0 1 f fd ["words"] (spLW K) := by
  refine F.ok sc_lots_within (fun vs H Q E h => ?_) (fun cdv A outer s H vs Q E hr h => ?_)
  · obtain ⟨a, ws, rfl, _⟩ := h
    rfl
  obtain ⟨a, ws, rfl, ha, hl, k⟩ := h
  refine ⟨_, (pss_cons (ps_set (i := 1) sc_lots_within.nd rfl (Or.inl rfl) (pe_lst (pa_cons (pe_tup pa_nil) pa_nil)))
  (pss_cons (ps_for PassesOwn.never rfl (pi_list (pv 0)) (pg_name (i := 2) sc_lots_within.nd rfl (Or.inr rfl)) (pss_one (ps_set (i := 1) sc_lots_within.nd rfl (Or.inl rfl) (pe_op op_cat (pv 1) (pe_lc (own := [("lot", 3)]) (g := (gName 3)) (tt := tYes) rfl sc_lots_within.nd (pi_list (pv 1)) (blkOk_by (own := [("lot", 3)]) (N := ["words", "lots", "word", "lot"]) (sc := defScope s_lots_within) (by decide +kernel)) (fun _ _ _ _ _ => (pg_name (i := 3) sc_lots_within.nd rfl (Or.inl rfl))) (fun _ _ _ _ _ => pts_nil) (fun _ _ _ _ _ => (pe_op op_catAK (pv 3) (pe_tup (pa_cons (pv 2) pa_nil)))))))))
  (pss_one (ps_ret (pe_slice sl_list (pv 1) (po_some pe_int) po_none))))), ?_⟩
  refine seq_in ?_
  refine asg_in ?_
  refine ⟨szl (by show 0 ≤ _; decide), fun t0 nt0 => ⟨szl (by show 1 ≤ _; decide), fun l0 nl0 => ?_⟩⟩
  have s0 := (same_new nt0 (.tup [])).trans (same_new nl0 (.lst [.ref t0]))
  have ht0 : LotV (upd (upd H t0 (.tup [])) l0 (.lst [.ref t0])) (.ref t0) [] := ⟨t0, rfl, same_new nl0 _ _ _ upd_same⟩
  refine g_set ?_
  refine nx_in ?_
  refine seq_in ?_
  refine ⟨_, rfl, a, rfl, ⟨_, ha.ext s0⟩, for_list (K := K) (a := a) (xs := ws.map V.int) (fun i σ H' => ∃ l u2 ys, σ = [some (.ref a), some (.ref l), u2, none] ∧ Same H H' ∧ H' l = some (.lst ys) ∧ LotsV H' ys (lwAll (ws.take i))) ⟨l0, none, _, rfl, s0, upd_same, .cons ht0 .nil⟩ ?_ ?_ ?_⟩
  · rintro i σ H' _ ⟨l, u2, ys, rfl, g, _⟩
    exact ha.ext g
  · rintro i x σ H1 hx ⟨l, u2, ys, rfl, g1, hl1, hy⟩
    rw [List.getElem?_map] at hx
    obtain ⟨wd, hwd, rfl⟩ := Option.map_eq_some_iff.mp hx
    have hyl := pr_len2 hy
    have hL := lwAll_len (ws.take i)
    have hS := lw_small (ws.take i) [[]] 0 (fun l hl => by rw [List.mem_singleton.mp hl]; exact Nat.le_refl _)
    have htl : (ws.take i).length ≤ 5 := by rw [List.length_take]; omega
    have hb : 2 ^ (ws.take i).length ≤ 32 := Nat.le_trans (Nat.pow_le_pow_right (by decide) htl) (by decide)
    have hS : ∀ l ∈ lwAll (ws.take i), l.length ≤ 5 := fun l hl => by have := hS l hl; omega
    generalize hLs : lwAll (ws.take i) = Ls at hy hyl hL hS
    refine g_set ?_
    refine asg_in ?_
    refine ⟨_, rfl, _, rfl, l, rfl, ⟨_, .of hl1⟩, fun D hD => ?_⟩
    refine lc_list (K := K) (a := l) (xs := ys) (fun j H2 => Same H1 H2 ∧ ∃ acc, H2 D = some (.lst acc) ∧ LotsV H2 acc ((Ls.take j).map (· ++ [wd]))) ⟨same_new hD _, [], upd_same, .nil⟩ (fun j H2 _ z => .of (z.1 _ _ hl1)) ?_ ?_
    · rintro j y H2 hy2 ⟨g2, acc, hD2, hacc⟩
      obtain ⟨lj, hlj, c, rfl, hc⟩ := pr_left hy hy2
      have h5 := hS lj (List.mem_of_getElem? hlj)
      have hal := pr_len2 hacc
      rw [List.length_map, List.length_take] at hal
      refine ⟨rfl, yes_in ?_⟩
      refine ⟨_, rfl, _, rfl, szl (by show 1 ≤ _; decide), fun t nt => ?_⟩
      have g3 := same_new nt (.tup [.int wd])
      refine catA_any (g3 _ _ (g2 _ _ hc)) upd_same (by rw [List.length_map]; show _ + 1 ≤ _; omega) fun q H3 g4 hq => ?_
      have g34 := g3.trans g4
      have hD3 := g34 _ _ hD2
      refine ⟨acc, hD3, szt (by omega), fun o u ho => ?_, acc ++ [.ref q], upd_same, ?_⟩
      · rw [upd_ne (ne_of_none ho hD)]; exact g34 _ _ (g2 _ _ ho)
      · rw [List.take_add_one, hlj, Option.toList_some, List.map_append]
        refine LotsV.put hD3 (pr_app2 (hacc.same g34) (.cons ⟨q, rfl, ?_⟩ .nil))
        rw [hq, List.map_append]; rfl
    rintro H2 ⟨g2, acc, hD2, hacc⟩
    rw [List.take_of_length_le (by omega)] at hacc
    have hal := pr_len2 hacc
    rw [List.length_map] at hal
    refine ⟨l, D, ys, acc, rfl, rfl, g2 _ _ hl1, hD2, szl (by omega), fun q nq => ?_⟩
    have g3 := same_new nq (.lst (ys ++ acc))
    refine ⟨q, _, _, rfl, (g1.trans g2).trans g3, upd_same, ?_⟩
    rw [List.take_add_one, hwd, Option.toList_some, lwAll_snoc, hLs]
    exact pr_app2 ((hy.same g2).same g3) (hacc.same g3)
  · rintro σ H1 ⟨l, u2, ys, rfl, g1, hl1, hy⟩
    rw [List.length_map, List.take_length] at hy
    refine nx_in ?_
    refine ret_in ?_
    refine ⟨_, rfl, 1, rfl, ?_⟩
    refine noP_in ?_
    refine ⟨l, _, rfl, .of hl1, fun q nq => ?_⟩
    have e : cutV ys (some (1 : Int)) none = ys.drop 1 := cutA_from (n := 1)
    rw [e]
    have g2 := same_new nq (.lst (ys.drop 1))
    exact k q _ _ (g1.trans g2) upd_same (pr_drop2 (hy.same g2))
end
end Fp
namespace Fp
open PySem PySem.Spec PyProof.Rows L2
theorem pi_tupK {X : Cx} {K : PySem.W.Frag} {tg l : Expr} {tl : TE} (hl : PE X l tl) (e : X.K = K := by rfl) : PI X tg l (iTup K tl) := by subst e; exact pi_tup hl
/-- the row of a chain of views, these from the least -/
def vwM (vs : List (List Int)) (h : Nat) : List Int := (vs.filter fun l => decide ((h : Int) ∈ l)).headD []
def rowM (n : Nat) (vs : List (List Int)) : List (List Int) := (List.range n).map (vwM vs)
def spRowOf : Sp := fun vs H Q _ => ∃ (n : Nat) (x : V) (cs : List (List Int)), vs = [.int n, x] ∧ n ≤ 5 ∧ RowAt H x cs ∧ cs.length ≤ 5 ∧ (∀ l ∈ cs, l.length ≤ 5 ∧ ∀ i ∈ l, 0 ≤ i ∧ i < 5) ∧ (∀ h : Nat, h < n → ∃ l ∈ cs, (h : Int) ∈ l) ∧ ∀ y H', Same H H' → RowAt H' y (rowM n cs) → Q y H'
section
variable {P : Program} {w : World} {K : PySem.W.Frag} {mg : Str → Option Value} {base : Heap} {f : Addr} {fd : FuncData} {C : Addr}
def osc_row_of : Scope := { kind := .function, names := [(".0", .local), ("hand", .cell), ("views", .cell)], isGenerator := false, isCoroutine := false }
abbrev s_row_of : Stmt := top 22
theorem sc_row_of : FnScope ["many", "views", "hand", "view"] ["many", "views"] (defScope s_row_of) := ⟨rfl, rfl, rfl, by decide +kernel, rfl, by decide +kernel, by decide +kernel⟩
theorem ok_row_of (F : Fun K "row_of" "row_of" s_row_of f fd) (T : RTx mg) : FnOk P w K mg base CX0 1 f fd ["many", "views"] spRowOf := by
  refine F.ok sc_row_of (fun vs H Q E h => ?_) (fun cdv A outer s H vs Q E hr h => ?_)
  · obtain ⟨n, x, cs, rfl, _⟩ := h
    rfl
  obtain ⟨n, x, cs, rfl, h5, hx, hc5, hcs, hin, k⟩ := h
  refine ⟨_, (pss_one (ps_ret (pe_callTy call_tuple_of rfl T.tuple (by decide +kernel) (pa_cons (pe_lc (own := [("hand", 2)]) (g := (gName 2)) (tt := tYes) rfl sc_row_of.nd (pi_range1 rfl T.range (pa_cons (pv 0) pa_nil)) (blkOk_by (own := [("hand", 2)]) (N := ["many", "views", "hand", "view"]) (sc := defScope s_row_of) (by decide +kernel)) (fun _ _ _ _ _ => (pg_name (i := 2) sc_row_of.nd rfl (Or.inr rfl))) (fun _ _ _ _ _ => pts_nil) (fun _ _ _ _ _ => (pe_ix ix_listK (pe_lc (own := [("view", 3)]) (g := (gName 3))  rfl sc_row_of.nd (pi_tupK (pv 1)) (blkOk_by (own := [("view", 3)]) (N := ["many", "views", "hand", "view"]) (sc := osc_row_of) (by decide +kernel)) (fun _ _ _ _ _ => (pg_name (i := 3) sc_row_of.nd rfl (Or.inl rfl))) (fun _ _ _ _ _ => (pts_one (pt_cmpR op_in_seqK (pv 2) (pv 3) rfl))) (fun _ _ _ _ _ => (pv 3))) pe_int (fun _ _ => rfl)))) pa_nil)))), ?_⟩
  obtain ⟨t, ys, rfl, ht, hy⟩ := hx
  have hy : LotsV H ys cs := hy
  refine ret_in ?_
  refine ⟨_, rfl, (n : Int), rfl, by omega, by omega, fun D hD => ?_⟩
  refine lc_it (walk_range (lo := 0) (n := n)) (fun i H1 => Same H H1 ∧ ∃ acc, H1 D = some (.lst acc) ∧ LotsV H1 acc ((List.range i).map (vwM cs))) ⟨same_new hD _, [], upd_same, .nil⟩ (fun _ _ _ _ => True.intro) ?_ ?_
  · rintro i x H1 H1' hi ⟨g1, acc, hD1, hacc⟩ ⟨rfl, rfl⟩
    have hal := pr_len2 hacc
    rw [List.length_map, List.length_range] at hal
    refine ⟨rfl, yes_in ?_⟩
    refine ⟨_, rfl, t, rfl, ⟨_, .of (g1 _ _ ht)⟩, fun D2 hD2 => ?_⟩
    refine lc_it (walk_tup (xs := ys)) (fun j H2 => Same H1' H2 ∧ ∃ bcc, H2 D2 = some (.lst bcc) ∧ LotsV H2 bcc ((cs.take j).filter fun l => decide ((i : Int) ∈ l))) ⟨same_new hD2 _, [], upd_same, .nil⟩ (fun j H2 _ z => .of (z.1 _ _ (g1 _ _ ht))) ?_ ?_
    · rintro j y H2 H2' hj ⟨g2, bcc, hDb, hb⟩ ⟨rfl, hyj⟩
      obtain ⟨l, hl, c, rfl, hc⟩ := pr_left hy hyj
      have hbl := pr_len2 hb
      have hb5 : bcc.length ≤ 5 := by
        rw [hbl]
        refine Nat.le_trans (List.length_filter_le _ _) ?_
        rw [List.length_take]; omega
      have ev : inV (.int (0 + (i : Nat))) (l.map V.int) = decide ((i : Int) ∈ l) := by rw [Int.zero_add]; exact inV_int _ _
      refine ⟨rfl, _, rfl, _, rfl, c, l.map V.int, rfl, .inr (.of (g2 _ _ (g1 _ _ hc))), rfl, int_flat l, _, rfl, ?_⟩
      show if inV (.int (0 + (i : Nat))) (l.map V.int) = true then _ else _
      rw [ev, List.take_add_one, hl, Option.toList_some, List.filter_append]
      refine ite2 (fun z => ?_) (fun z => ?_)
      · refine ⟨_, rfl, bcc, hDb, szt (by omega), fun o u ho => ?_, bcc ++ [.ref c], upd_same, ?_⟩
        · rw [upd_ne (ne_of_none ho hD2)]; exact g2 _ _ ho
        · rw [List.filter_cons, if_pos z]
          exact LotsV.put hDb (pr_app2 hb (.cons ⟨c, rfl, g2 _ _ (g1 _ _ hc)⟩ .nil))
      · refine ⟨g2, bcc, hDb, ?_⟩
        rw [List.filter_cons, if_neg z, List.filter_nil, List.append_nil]
        exact hb
    rintro H2 ⟨g2, bcc, hDb, hb⟩
    rw [List.take_of_length_le (by rw [pr_len2 hy]; exact Nat.le_refl _)] at hb
    have hne : (cs.filter fun l => decide ((i : Int) ∈ l)) ≠ [] := fun z => by
      obtain ⟨l, hl, hi'⟩ := hin i hi
      have : l ∈ cs.filter fun l => decide ((i : Int) ∈ l) := List.mem_filter.mpr ⟨hl, decide_eq_true hi'⟩
      rw [z] at this; cases this
    have ev : vwM cs i = (cs.filter fun l => decide ((i : Int) ∈ l)).headD [] := rfl
    generalize (cs.filter fun l => decide ((i : Int) ∈ l)) = fs at hb hne ev
    cases hb with
    | nil => exact absurd rfl hne
    | @cons y0 l0 _ _ h0 _ =>
      refine ⟨D2, _, 0, y0, rfl, rfl, .of hDb, atI_nat (j := 0) rfl, ?_⟩
      have hD2' := g2 _ _ hD1
      refine ⟨acc, hD2', szt (by omega), fun o u ho => ?_, acc ++ [y0], upd_same, ?_⟩
      · rw [upd_ne (ne_of_none ho hD)]; exact g2 _ _ (g1 _ _ ho)
      · rw [List.range_succ, List.map_append, List.map_cons, List.map_nil, ev]
        exact LotsV.put hD2' (pr_app2 (hacc.same g2) (.cons h0 .nil))
  rintro H1 ⟨g1, acc, hD1, hacc⟩
  refine ⟨D, acc, rfl, .inl ⟨.of hD1, fun q nq => ?_⟩⟩
  have g2 := same_new nq (.tup acc)
  exact k _ _ (g1.trans g2) ⟨q, acc, rfl, upd_same, hacc.same g2⟩
end
end Fp
namespace Fp
open PySem PySem.Spec PyProof.Rows L2
theorem op_notin_seqK {X : Cx} {K : PySem.W.Frag} (e : X.K = K := by rfl) : OpR X (compareOp .NotIn) (rIn K true) := by subst e; exact op_notIn_seq
def leftM (n : Nat) (came : List Int) : List Int := (fullL n).filter fun x => decide (x ∉ came)
def viewM (n : Nat) (came lot : List Int) : List Int := (fullL n).filter fun x => decide (x ∈ came ++ lot)
/-- all chains of views above this one -/
def wdM : Nat → Nat → List Int → List (List (List Int))
  | 0, _, _ => [[]]
  | k + 1, n, came => if leftM n came = [] then [[]] else ((lwAll (leftM n came)).drop 1).flatMap fun lot => (wdM k n (viewM n came lot)).map (viewM n came lot :: ·)
def gB : Nat → Nat
  | 0 => 1
  | k + 1 => 2 ^ (k + 1) * gB k
theorem gB_le : ∀ {k : Nat}, k ≤ 5 → gB k ≤ 32768 ∧ 1 ≤ gB k
  | 0, _ => by decide
  | 1, _ => by decide
  | 2, _ => by decide
  | 3, _ => by decide
  | 4, _ => by decide
  | 5, _ => by decide
  | k + 6, h => by omega
theorem full_mem {n : Nat} {x : Int} : x ∈ fullL n ↔ 0 ≤ x ∧ x < n := by
  unfold fullL
  rw [List.mem_map]
  constructor
  · rintro ⟨i, hi, rfl⟩
    have := List.mem_range.mp hi
    omega
  · rintro ⟨a, b⟩
    exact ⟨x.toNat, List.mem_range.mpr (by omega), by omega⟩
theorem view_mem {n : Nat} {came lot : List Int} {x : Int} : x ∈ viewM n came lot ↔ (0 ≤ x ∧ x < n) ∧ (x ∈ came ∨ x ∈ lot) := by
  unfold viewM
  rw [List.mem_filter, full_mem, decide_eq_true_iff, List.mem_append]
theorem left_mem {n : Nat} {came : List Int} {x : Int} : x ∈ leftM n came ↔ (0 ≤ x ∧ x < n) ∧ x ∉ came := by
  unfold leftM
  rw [List.mem_filter, full_mem, decide_eq_true_iff]
theorem lw_mem : ∀ (ws : List Int) (acc : List (List Int)) (S : List Int), (∀ l ∈ acc, ∀ x ∈ l, x ∈ S) → (∀ x ∈ ws, x ∈ S) → ∀ l ∈ ws.foldl (fun ls w => ls ++ ls.map (· ++ [w])) acc, ∀ x ∈ l, x ∈ S
  | [], acc, S, h, _, l, hl => h l hl
  | w :: ws, acc, S, h, hw, l, hl => lw_mem ws (acc ++ acc.map (· ++ [w])) S (fun m hm x hx => by
      rcases List.mem_append.mp hm with hm | hm
      · exact h m hm x hx
      · obtain ⟨m', hm', rfl⟩ := List.mem_map.mp hm
        rcases List.mem_append.mp hx with hx | hx
        · exact h m' hm' x hx
        · rw [List.mem_singleton.mp hx]; exact hw w List.mem_cons_self) (fun x hx => hw x (List.mem_cons_of_mem _ hx)) l hl
theorem lw_ne : ∀ (ws : List Int) (r : List (List Int)), (∀ l ∈ r, l ≠ []) → ∃ r', ws.foldl (fun ls w => ls ++ ls.map (· ++ [w])) ([] :: r) = [] :: r' ∧ ∀ l ∈ r', l ≠ []
  | [], r, h => ⟨r, rfl, h⟩
  | w :: ws, r, h => by
    obtain ⟨r', e, h'⟩ := lw_ne ws (r ++ ([] :: r).map (· ++ [w])) (fun l hl => by
      rcases List.mem_append.mp hl with hl | hl
      · exact h l hl
      · obtain ⟨m, _, rfl⟩ := List.mem_map.mp hl
        simp)
    exact ⟨r', e, h'⟩
theorem lots_ok {ws l : List Int} (h : l ∈ (lwAll ws).drop 1) : l ≠ [] ∧ ∀ x ∈ l, x ∈ ws := by
  refine ⟨?_, ?_⟩
  · obtain ⟨r', e, h'⟩ := lw_ne ws [] (fun l hl => by cases hl)
    have e : lwAll ws = [] :: r' := e
    rw [e] at h
    exact h' l h
  · exact lw_mem ws [[]] ws (fun m hm x hx => by rw [List.mem_singleton.mp hm] at hx; cases hx) (fun x hx => hx) l (List.mem_of_mem_drop h)
theorem left_less {n : Nat} {came lot : List Int} (h : lot ∈ (lwAll (leftM n came)).drop 1) : (leftM n (viewM n came lot)).length + 1 ≤ (leftM n came).length := by
  obtain ⟨hne, hm⟩ := lots_ok h
  obtain ⟨x, hx⟩ : ∃ x, x ∈ lot := List.exists_mem_of_ne_nil _ hne
  have nd : (leftM n (viewM n came lot)).Nodup := srt_nodup ((fullL_up n).filter _)
  have hxl := left_mem.mp (hm x hx)
  have := nodup_le (l := x :: leftM n (viewM n came lot)) (m := leftM n came) (List.nodup_cons.mpr ⟨fun z => (left_mem.mp z).2 (view_mem.mpr ⟨hxl.1, .inr hx⟩), nd⟩) fun y hy => by
    rcases List.mem_cons.mp hy with e | hy
    · rw [e]; exact hm x hx
    · have := left_mem.mp hy
      exact left_mem.mpr ⟨this.1, fun z => this.2 (view_mem.mpr ⟨this.1, .inl z⟩)⟩
  rwa [List.length_cons] at this
theorem wd_len {n : Nat} : ∀ (k : Nat) (came : List Int) (rs : List (List Int)), rs ∈ wdM k n came → rs.length ≤ k
  | 0, _, rs, h => by rw [List.mem_singleton.mp h]; exact Nat.le_refl _
  | k + 1, came, rs, h => by
    unfold wdM at h
    by_cases e : leftM n came = []
    · rw [if_pos e] at h
      rw [List.mem_singleton.mp h]; exact Nat.zero_le _
    · rw [if_neg e] at h
      obtain ⟨lot, _, h⟩ := List.mem_flatMap.mp h
      obtain ⟨rs', h', rfl⟩ := List.mem_map.mp h
      have := wd_len k _ rs' h'
      rw [List.length_cons]; omega
theorem RowAt.same {H H' : Hp} {x : V} {rs : List (List Int)} (g : Same H H') : RowAt H x rs → RowAt H' x rs := fun ⟨t, ys, e, h, p⟩ => ⟨t, ys, e, g _ _ h, pr_imp (fun _ _ ⟨c, e, hc⟩ => ⟨c, e, g _ _ hc⟩) p⟩
theorem RowAt.put {H : Hp} {x : V} {rs : List (List Int)} {a : Addr} {us vs : List V} (q : H a = some (.lst us)) : RowAt H x rs → RowAt (upd H a (.lst vs)) x rs := fun ⟨t, ys, e, h, p⟩ => ⟨t, ys, e, by rw [upd_ne (fun z => by rw [z, q] at h; cases h)]; exact h, pr_imp (fun _ _ ⟨c, e, hc⟩ => ⟨c, e, by rw [upd_ne (fun z => by rw [z, q] at hc; cases hc)]; exact hc⟩) p⟩
def ChsV (H : Hp) : List V → List (List (List Int)) → Prop := Paired (RowAt H)
def spWD (k0 : Nat) : Sp := fun vs H Q _ => ∃ (k n : Nat) (y : V) (came : List Int), vs = [.int n, y] ∧ n ≤ 5 ∧ LotV H y came ∧ (leftM n came).length ≤ k ∧ k < k0 ∧ (∀ x ∈ came, 0 ≤ x ∧ x < n) ∧ came.length ≤ 5 ∧ k ≤ 5 ∧ ∀ c H' zs, Same H H' → H' c = some (.lst zs) → ChsV H' zs (wdM k n came) → zs.length ≤ gB k → Q (.ref c) H'
section
variable {P : Program} {w : World} {K : PySem.W.Frag} {mg : Str → Option Value} {base : Heap} {f : Addr} {fd : FuncData} {C : Addr}
abbrev s_ways_down : Stmt := top 21
theorem sc_ways_down : FnScope ["many", "came", "left", "found", "lot", "view", "hand", "views"] ["many", "came"] (defScope s_ways_down) := ⟨rfl, rfl, rfl, by decide +kernel, rfl, by decide +kernel, by decide +kernel⟩
theorem ok_ways_down {k0 : Nat} (F : Fun K "ways_down" "ways_down" s_ways_down f fd) (T : RTx mg) (G_lot_of : Fd P w K mg base CX0 "lot_of" 1 ["words"] (spLotOfD K)) (G_lots_within : Fd P w K mg base CX0 "lots_within" 1 ["words"] (spLW K)) (G_ways_down : Fd P w K mg base CX0 "ways_down" (k0 + 1) ["many", "came"] (spWD k0)) : FnOk P w K mg base CX0 (k0 + 2) f fd ["many", "came"] (spWD (k0 + 1)) := by
  refine F.ok sc_ways_down (fun vs H Q E h => ?_) (fun cdv A outer s H vs Q E hr h => ?_)
  · obtain ⟨k, n, y, came, rfl, _⟩ := h
    rfl
  obtain ⟨k, n, y, came, rfl, h5, hy, hk, hk0, hin, hcl, hk5, q⟩ := h
  refine ⟨_, (pss_cons (ps_setLc (i := 2) (own := [("hand", 6)]) (g := (gName 6))  rfl sc_ways_down.nd rfl rfl (sw_true rfl rfl rfl (by decide +kernel)) (pi_range1 rfl T.range (pa_cons (pv 0) pa_nil)) (blkOk_by (own := [("hand", 6)]) (N := ["many", "came", "left", "found", "lot", "view", "hand", "views"]) (sc := defScope s_ways_down) (by decide +kernel)) (fun _ _ _ _ _ => (pg_name (i := 6) sc_ways_down.nd rfl (Or.inl rfl))) (fun _ _ _ _ _ => (pts_one (pt_cmpR op_notin_seqK (pv 6) (pv 1) rfl))) (fun _ _ _ _ _ => (pv 6)))
  (pss_cons (ps_if (pt_not (pt_truth (pv 2) (by intro _; rfl))) (pss_one (ps_ret (pe_lst (pa_cons (pe_tup pa_nil) pa_nil)))) pss_nil)
  (pss_cons (ps_set (i := 3) sc_ways_down.nd rfl (Or.inl rfl) (pe_lst pa_nil))
  (pss_cons (ps_for PassesOwn.never rfl (pi_list (pe_fd G_lots_within (hr.mono (by first | decide | omega)) rfl (pa_cons (pv 2) pa_nil))) (pg_name (i := 4) sc_ways_down.nd rfl (Or.inl rfl)) (pss_cons (ps_set (i := 5) sc_ways_down.nd rfl (Or.inr rfl) (pe_fd G_lot_of (hr.mono (by first | decide | omega)) rfl (pa_cons (pe_lst (StX.pa_star (pv 1) (StX.pa_star (pv 4) pa_nil))) pa_nil)))
  (pss_one (ps_expr (pe_bm PySem.F.plainAttrs_list PySem.F.slot_list_extend PySem.F.type_list_extend mt_extend (pv 3) (pa_cons (pe_lc (own := [("views", 7)]) (g := (gName 7)) (tt := tYes) rfl sc_ways_down.nd (pi_list (pe_fd G_ways_down hr rfl (pa_cons (pv 0) (pa_cons (pv 5) pa_nil)))) (blkOk_by (own := [("views", 7)]) (N := ["many", "came", "left", "found", "lot", "view", "hand", "views"]) (sc := defScope s_ways_down) (by decide +kernel)) (fun _ _ _ _ _ => (pg_name (i := 7) sc_ways_down.nd rfl (Or.inl rfl))) (fun _ _ _ _ _ => pts_nil) (fun _ _ _ _ _ => (pe_op op_catAK (pe_tup (pa_cons (pv 5) pa_nil)) (pv 7)))) pa_nil))))))
  (pss_one (ps_ret (pv 3))))))), ?_⟩
  obtain ⟨ca, rfl, hca⟩ := hy
  refine seq_in ?_
  refine asg_in ?_
  refine ⟨_, rfl, (n : Int), rfl, by omega, by omega, fun L hL => ?_⟩
  refine lc_it (walk_range (lo := 0) (n := n)) (fun i H1 => Same H H1 ∧ H1 L = some (.lst ((((List.range i).map fun j : Nat => (j : Int)).filter fun x => decide (x ∉ came)).map V.int))) ⟨same_new hL _, upd_same⟩ (fun _ _ _ _ => True.intro) ?_ ?_
  · rintro i x H1 H1' hi ⟨g1, h1⟩ ⟨rfl, rfl⟩
    have ev : inV (.int (0 + (i : Nat))) (came.map V.int) = decide ((i : Int) ∈ came) := by rw [Int.zero_add]; exact inV_int _ _
    refine ⟨rfl, _, rfl, _, rfl, ca, came.map V.int, rfl, .inr (.of (g1 _ _ hca)), rfl, int_flat came, _, rfl, ?_⟩
    show if (!inV (.int (0 + (i : Nat))) (came.map V.int)) = true then _ else _
    rw [ev, List.range_succ, List.map_append, List.filter_append]
    refine ite2 (fun z => ?_) (fun z => ?_)
    · have z' : decide ((i : Int) ∉ came) = true := by simpa using z
      refine ⟨_, rfl, _, h1, szt (by rw [List.length_map]; have := List.length_filter_le (fun x => decide (x ∉ came)) ((List.range i).map fun j : Nat => (j : Int)); rw [List.length_map, List.length_range] at this; omega), fun o u ho => ?_, ?_⟩
      · rw [upd_ne (ne_of_none ho hL)]; exact g1 _ _ ho
      · rw [upd_same, List.map_cons, List.map_nil, List.filter_cons, if_pos z', List.filter_nil, List.map_append, List.map_cons, List.map_nil]
        simp
    · have z' : ¬ decide ((i : Int) ∉ came) = true := by simpa using z
      refine ⟨g1, ?_⟩
      rw [h1, List.map_cons, List.map_nil, List.filter_cons, if_neg z', List.filter_nil, List.append_nil]
  rintro H1 ⟨g1, h1⟩
  have h1 : H1 L = some (.lst ((leftM n came).map V.int)) := h1
  have hll : (leftM n came).length ≤ 5 := Nat.le_trans hk hk5
  refine g_set ?_
  refine nx_in ?_
  refine seq_in ?_
  refine ⟨_, rfl, _, .inl ⟨_, .of h1, rfl⟩, ite2 (fun c => ?_) (fun c => ?_)⟩
  · have he : leftM n came = [] := by
      cases e : leftM n came with
      | nil => rfl
      | cons a b => rw [e] at c; simp at c
    refine ret_in ?_
    refine ⟨szl (by show 0 ≤ _; decide), fun t nt => ⟨szl (by show 1 ≤ _; decide), fun l nl => ?_⟩⟩
    have g2 := same_new nl (.lst [.ref t])
    have ew : wdM k n came = [[]] := by
      cases k with
      | zero => rfl
      | succ k => unfold wdM; rw [if_pos he]
    refine q l _ [.ref t] ((g1.trans (same_new nt _)).trans g2) upd_same ?_ (gB_le hk5).2
    rw [ew]
    exact .cons ⟨t, [], rfl, g2 _ _ upd_same, .nil⟩ .nil
  have hne : leftM n came ≠ [] := fun z => by rw [z] at c; simp at c
  obtain ⟨k', rfl⟩ : ∃ k', k = k' + 1 := ⟨k - 1, by have := List.length_pos_iff.mpr hne; omega⟩
  have ew : wdM (k' + 1) n came = ((lwAll (leftM n came)).drop 1).flatMap fun lot => (wdM k' n (viewM n came lot)).map (viewM n came lot :: ·) := by
    conv => lhs; unfold wdM
    rw [if_neg hne]
  refine next_in ?_
  refine nx_in ?_
  refine seq_in ?_
  refine asg_in ?_
  refine ⟨szl (by show 0 ≤ _; decide), fun fl nfl => ?_⟩
  have s2 := same_new nfl (.lst [])
  have nflH : H fl = none := by
    cases e : H fl with
    | none => rfl
    | some o => rw [g1 _ _ e] at nfl; cases nfl
  have hfl2 : upd H1 fl (.lst []) fl = some (.lst []) := upd_same
  have h2 := s2 _ _ h1
  have g12 := g1.trans s2
  generalize upd H1 fl (.lst []) = H2 at s2 hfl2 h2 g12
  refine g_set ?_
  refine nx_in ?_
  refine seq_in ?_
  refine ⟨_, rfl, L, leftM n came, rfl, .of h2, hll, fun cl H4 ys g4 hcl4 hys => ⟨cl, rfl, ⟨_, .of hcl4⟩, ?_⟩⟩
  have g14 := g12.trans g4
  have hfl4 := g4 _ _ hfl2
  have hyl := pr_len2 hys
  have hlw := lwAll_len (leftM n came)
  have hlen31 : ys.length ≤ 2 ^ (k' + 1) := by
    rw [hyl, List.length_drop, hlw]
    exact Nat.le_trans (Nat.sub_le _ _) (Nat.pow_le_pow_right (by decide) hk)
  have necl : cl ≠ fl := fun z => by
    rw [z, hfl4] at hcl4
    have e : ([] : List V) = ys := by injection hcl4 with e; injection e
    rw [← e, List.length_drop, hlw] at hyl
    have := List.length_pos_iff.mpr hne
    have h2 : 2 ^ 1 ≤ 2 ^ (leftM n came).length := Nat.pow_le_pow_right (by decide) this
    have : ([] : List V).length = 0 := rfl
    omega
  have hgb := gB_le (k := k') (by omega)
  have hgb2 := gB_le hk5
  have egb : gB (k' + 1) = 2 ^ (k' + 1) * gB k' := rfl
  refine for_list (K := K) (a := cl) (xs := ys) (fun i σ H' => ∃ u4 u5 fs, σ = [some (.int n), some (.ref ca), some (.ref L), some (.ref fl), u4, u5, none, none] ∧ But [fl] H4 H' ∧ H' fl = some (.lst fs) ∧ ChsV H' fs ((((lwAll (leftM n came)).drop 1).take i).flatMap fun lot => (wdM k' n (viewM n came lot)).map (viewM n came lot :: ·)) ∧ fs.length ≤ i * gB k') ⟨none, none, [], rfl, But.refl _ _, hfl4, .nil, Nat.zero_le _⟩ ?_ ?_ ?_
  · rintro i σ H' _ ⟨u4, u5, fs, rfl, g, _⟩
    exact .of (g _ _ (by simpa using necl) hcl4)
  · rintro i x σ H5 hx ⟨u4, u5, fs, rfl, g5, hfl5, hch, hfs⟩
    obtain ⟨lot, hlot, cx, rfl, hcx⟩ := pr_left hys hx
    have hil := get_lt hx
    have hlm := List.mem_of_getElem? hlot
    have hlo := lots_ok hlm
    have nflx : ∀ {b o}, H4 b = some o → (∀ zs, o ≠ .lst zs) → H5 b = some o := fun {b o} e nn => g5 _ _ (by
      have nb : b ≠ fl := fun z => by rw [z, hfl4] at e; cases e; exact nn _ rfl
      simpa using nb) e
    have hcx5 := nflx hcx (fun _ z => by cases z)
    have hca5 := nflx (g14 _ _ hca) (fun _ z => by cases z)
    have hlot5 : lot.length ≤ 5 := Nat.le_trans (by
      have hS := lw_small (leftM n came) [[]] 0 (fun l hl => by rw [List.mem_singleton.mp hl]; exact Nat.le_refl _) lot (List.mem_of_mem_drop hlm)
      omega) hll
    refine g_set ?_
    refine seq_in ?_
    refine asg_in ?_
    refine ⟨_, rfl, ca, came.map V.int, rfl, .inl (.of hca5), _, rfl, cx, lot.map V.int, rfl, .inl (.of hcx5), szl ?_, fun wl nwl => ?_⟩
    · simp only [List.length_append, List.length_map, List.length_nil]; omega
    have s6 := same_new nwl (.lst (came.map V.int ++ (lot.map V.int ++ [])))
    have e6 : came.map V.int ++ (lot.map V.int ++ []) = (came ++ lot).map V.int := by rw [List.append_nil, List.map_append]
    rw [e6] at s6 ⊢
    refine ⟨wl, came ++ lot, rfl, .of upd_same, by rw [List.length_append]; omega, fun cv H7 zv g7 hzp hzm hdv => ?_⟩
    have ezv : zv = viewM n came lot := srt_eq hzp ((fullL_up n).filter _) fun x => by
      rw [hzm, view_mem, List.mem_append]
      exact ⟨fun z => ⟨z.elim (hin x) fun z => (left_mem.mp (hlo.2 x z)).1, z⟩, fun z => z.2⟩
    subst ezv
    have g67 := s6.trans g7
    have hcv : H7 cv = some (.tup ((viewM n came lot).map V.int)) := by
      cases hdv with
      | tup h1 h2 _ =>
        have := DVs.ints h2 (fun x hx => by obtain ⟨i, _, rfl⟩ := List.mem_map.mp hx; rfl)
        rw [this, show ((viewM n came lot).map Dt.int).map Dt.toInt = viewM n came lot from by rw [List.map_map]; exact List.map_id _] at h1
        exact h1
    have hv5 : (viewM n came lot).length ≤ 5 := by
      refine Nat.le_trans (List.length_filter_le _ _) ?_
      unfold fullL
      rw [List.length_map, List.length_range]; exact h5
    have hfl7 := g67 _ _ hfl5
    refine g_set ?_
    refine nx_in ?_
    refine ⟨_, rfl, .inl ⟨rfl, _, .of hfl7⟩, ?_⟩
    refine ⟨_, rfl, _, rfl, k', n, _, viewM n came lot, rfl, h5, ⟨cv, rfl, hcv⟩, by have := left_less hlm; omega, by omega, fun x hx => (view_mem.mp hx).1, hv5, by omega, fun c8 H8 zs g8 hc8 hch8 hl8 => ⟨c8, rfl, ⟨_, .of hc8⟩, fun D hD => ?_⟩⟩
    refine lc_list (K := K) (a := c8) (xs := zs) (fun j H9 => Same H8 H9 ∧ ∃ acc, H9 D = some (.lst acc) ∧ ChsV H9 acc (((wdM k' n (viewM n came lot)).take j).map (viewM n came lot :: ·))) ⟨same_new hD _, [], upd_same, .nil⟩ (fun j H9 _ z => .of (z.1 _ _ hc8)) ?_ ?_
    · rintro j z H9 hz ⟨g9, acc, hD9, hacc⟩
      obtain ⟨rs, hrs, t9, ys9, rfl, ht9, hp9⟩ := pr_left hch8 hz
      have hal := pr_len2 hacc
      rw [List.length_map, List.length_take] at hal
      have hjl := get_lt hz
      refine ⟨rfl, yes_in ?_⟩
      refine ⟨_, rfl, szl (by show 1 ≤ _; decide), fun tt ntt => ⟨_, rfl, ?_⟩⟩
      have s10 := same_new ntt (.tup [.ref cv])
      refine catA_any upd_same (s10 _ _ (g9 _ _ ht9)) ?_ fun c10 H10 g10 hc10 => ?_
      · have hw := wd_len k' (viewM n came lot) rs (List.mem_of_getElem? hrs)
        have hp := pr_len2 hp9
        show 1 + ys9.length ≤ _
        omega
      have gg := s10.trans g10
      have hD10 := gg _ _ hD9
      refine ⟨acc, hD10, szt (by omega), fun o u ho => ?_, acc ++ [.ref c10], upd_same, ?_⟩
      · rw [upd_ne (ne_of_none ho hD)]; exact gg _ _ (g9 _ _ ho)
      · rw [List.take_add_one, hrs, Option.toList_some, List.map_append]
        have hrow : RowAt H10 (.ref c10) (viewM n came lot :: rs) := ⟨c10, _, rfl, hc10, .cons ⟨cv, rfl, (g8.trans (g9.trans gg)) _ _ hcv⟩ (pr_imp (fun _ _ ⟨c, e, hc⟩ => ⟨c, e, (g9.trans gg) _ _ hc⟩) hp9)⟩
        exact pr_imp (fun _ _ h => RowAt.put hD10 h) (pr_app2 (pr_imp (fun _ _ h => RowAt.same gg h) hacc) (.cons hrow .nil))
    rintro H9 ⟨g9, acc, hD9, hacc⟩
    rw [List.take_of_length_le (by rw [← pr_len2 hch8]; exact Nat.le_refl _)] at hacc
    have hal := pr_len2 hacc
    rw [List.length_map, ← pr_len2 hch8] at hal
    have hfl9 := g9 _ _ (g8 _ _ hfl7)
    refine ⟨fl, D, fs, acc, rfl, rfl, hfl9, hD9, szl ?_, ?_⟩
    · have := Nat.mul_le_mul_right (gB k') (Nat.le_trans (Nat.le_of_lt hil) hlen31)
      omega
    refine ⟨_, _, fs ++ acc, rfl, ?_, upd_same, ?_, ?_⟩
    · intro b o nb e
      rw [upd_ne (by simpa using nb)]
      exact (g8.trans g9) _ _ (g67 _ _ (g5 _ _ nb e))
    · rw [List.take_add_one, hlot, Option.toList_some, List.flatMap_append, List.flatMap_cons, List.flatMap_nil, List.append_nil]
      exact pr_imp (fun _ _ h => RowAt.put hfl9 h) (pr_app2 (pr_imp (fun _ _ h => RowAt.same ((g67.trans g8).trans g9) h) hch) hacc)
    · rw [List.length_append, Nat.succ_mul]
      omega
  · rintro σ H5 ⟨u4, u5, fs, rfl, g5, hfl5, hch, hfs⟩
    rw [List.take_of_length_le (by rw [← hyl]; exact Nat.le_refl _), ← ew] at hch
    refine nx_in ?_
    refine ret_in ?_
    refine ⟨_, rfl, q fl H5 fs (fun b o e => ?_) hfl5 hch ?_⟩
    · have nb : b ≠ fl := fun z => by rw [z, nflH] at e; cases e
      exact g5 _ _ (by simpa using nb) (g14 _ _ e)
    · rw [egb]
      exact Nat.le_trans hfs (Nat.mul_le_mul_right _ hlen31)
end
end Fp
/-! tuple(list): a tuple of which it is known that it has no dict; its methods -/
namespace L2
open PySem PySem.Spec PyProof.Rows
section
variable {X : Cx}
theorem call_tupleF : CallR X (.type "tuple") (fun xs H Q => ∃ p ys, xs = [.ref p] ∧ SqL X.K H p ys ∧ ∀ l o, H l = none → o.dict = none → Q (.ref l) (upd H l (.frz o (.tup ys)))) := by
  intro pins s σ H xs us Q I r h
  obtain ⟨p, ys, rfl, hq, q⟩ := h
  obtain ⟨u, rfl, rx⟩ := vals1 r
  cases rx
  obtain ⟨its, r', pl, hz⟩ := I.list hq
  have hlen := r'.length
  refine call_tuple_list pl.isList (fun h' kp => ?_) (by simp only [List.size_toArray] <;> omega)
  have I1 : Inv X pins σ H { s with heap := h' } := I.kept (t' := s.toks) kp
  have I2 : Inv X pins σ (upd H h'.objs.size (.frz { cls := .type "tuple", data := .seq its.toArray } (.tup ys))) { s with heap := h'.push { cls := .type "tuple", data := .seq its.toArray } } :=
    I1.laid (t' := s.toks) (fun b o e => Heap.get?_push_of_some _ e) (Nat.le_refl _) (show ObjOk X.prog X.w _ _ _ (.frz { cls := .type "tuple", data := .seq its.toArray } (.tup ys)) from ⟨Heap.get?_push_size _ rfl, hz, its, r', IsTup.new _ _⟩)
  exact ⟨.ref h'.objs.size, _, I2, rfl, q _ _ (I1.hok.fresh (Nat.le_refl _)) rfl⟩
/-- o.m(..) of such a tuple -/
def tBMF (r : V → List V → Hp → VK → Prop) (to : TE) (t : TA) : TE := fun σ H Q => to σ H fun x H1 => (∃ p ys, x = .ref p ∧ TF H1 p ys) ∧ t σ H1 fun xs H2 => r x xs H2 Q
theorem pe_bmF {id name : String} {r : V → List V → Hp → VK → Prop} {o e : Expr} {es : List Expr} {to : TE} {t : TA} {apos cpos : Pos} (slot : Slot "tuple" name id) (hty : typeOf (.builtin id) = pure (.type "method_descriptor")) (hm : MtR X id r) (ho : PE X o to) (ha : PA X (e :: es) t)
    (hbase : attributeBase o name X.env (eval o X.env) = eval o X.env := by rfl)
    (hfew : ((backTo cpos (starEach (e :: es) X.env)).all (fun x => !x.1) && (backToKw cpos (keywordEach [] X.env)).all (fun x => x.1.isSome)
      && decide ((e :: es).length + ([] : List Keyword).length + (if ([] : List Keyword).isEmpty then 0 else 1) < 30)) = true := by rfl)
    (hline : (apos.endLine == cpos.line) = true := by rfl) (hs : starEach (e :: es) X.env = (false, eval e X.env) :: starEach es X.env := by rfl) (hplain : (backTo cpos (starEach es X.env)).any (·.1) = false := by rfl) :
    PE X (.Call (.Attribute o name apos) (e :: es) [] cpos) (tBMF r to t) := by
  refine ⟨fun pins s σ H Q I h => ?_⟩
  refine wpAny_Call_method_late hbase hfew hline rfl (thn (ho.run pins s σ H _ I h) fun v s1 ⟨x, H1, I1, r1, ⟨p, ys, ex, ⟨ob, hob, hdd⟩⟩, q1⟩ => ?_)
  subst ex
  have hr1 := r1
  cases r1
  have e1 := (I1.hok p _ hob).1
  obtain ⟨its, rv, pl, hz⟩ := I1.tuple (.inl (.inr ⟨ob, hob⟩))
  refine ⟨"tuple", id, PySem.F.plainAttrs_tuple, slot, hty, pl.typeIs, fun a ea => by cases ea; exact ⟨ob, e1, hdd⟩, ?_⟩
  have hA := ha.run cpos pins s1 σ H1 _ I1 q1
  rw [hs] at hA ⊢
  refine Calls.callWith_builtin (by show (false || (backTo cpos (starEach es X.env)).any (·.1)) = false; rw [hplain] <;> rfl) (Calls.evalArgs_plain ?_)
  exact thn hA fun us s2 ⟨vs, H2, I2, r2, q2⟩ => hm pins s2 σ H2 _ vs _ us Q I2 hr1 r2 q2
end
end L2
namespace Fp
open PySem PySem.Spec PyProof.Rows L2
theorem wd_ok {n : Nat} (h5 : n ≤ 5) : ∀ (k : Nat) (came : List Int) (rs : List (List Int)), (leftM n came).length ≤ k → rs ∈ wdM k n came → (∀ x ∈ leftM n came, ∃ l ∈ rs, x ∈ l) ∧ ∀ l ∈ rs, l.length ≤ 5 ∧ ∀ i ∈ l, 0 ≤ i ∧ i < 5
  | 0, came, rs, hk, h => by
    rw [List.mem_singleton.mp h]
    have e : leftM n came = [] := List.length_eq_zero_iff.mp (by omega)
    exact ⟨fun x hx => by (rw [e] at hx; cases hx), fun l hl => by cases hl⟩
  | k + 1, came, rs, hk, h => by
    unfold wdM at h
    by_cases e : leftM n came = []
    · rw [if_pos e] at h
      rw [List.mem_singleton.mp h]
      exact ⟨fun x hx => by (rw [e] at hx; cases hx), fun l hl => by cases hl⟩
    · rw [if_neg e] at h
      obtain ⟨lot, hlot, h⟩ := List.mem_flatMap.mp h
      obtain ⟨rs', h', rfl⟩ := List.mem_map.mp h
      have hless := left_less hlot
      obtain ⟨i1, i2⟩ := wd_ok h5 k _ rs' (by omega) h'
      refine ⟨fun x hx => ?_, fun l hl => ?_⟩
      · by_cases c : x ∈ lot
        · exact ⟨_, List.mem_cons_self, view_mem.mpr ⟨(left_mem.mp hx).1, .inr c⟩⟩
        · obtain ⟨l, hl, hxl⟩ := i1 x (left_mem.mpr ⟨(left_mem.mp hx).1, fun z => (view_mem.mp z).2.elim (left_mem.mp hx).2 c⟩)
          exact ⟨l, List.mem_cons_of_mem _ hl, hxl⟩
      · rcases List.mem_cons.mp hl with z | z
        · rw [z]
          refine ⟨?_, fun i hi => by have := (view_mem.mp hi).1; omega⟩
          refine Nat.le_trans (List.length_filter_le _ _) ?_
          unfold fullL
          rw [List.length_map, List.length_range]; exact h5
        · exact i2 l z
theorem left_nil (n : Nat) : leftM n [] = fullL n := by
  unfold leftM
  exact List.filter_eq_self.mpr fun x _ => by simp
theorem lots_inj {H : Hp} : ∀ {ys : List V} {rs qs : List (List Int)}, LotsV H ys rs → LotsV H ys qs → rs = qs
  | _, _, _, .nil, .nil => rfl
  | _, _, _, .cons ⟨c, e, h⟩ t, .cons ⟨c2, e2, h2⟩ t2 => by
    rw [lots_inj t t2]
    rw [e] at e2
    cases e2
    rw [h] at h2
    injection h2 with h2
    injection h2 with h2
    congr 1
    have := congrArg (List.map fun v : V => match v with
      | .int i => i
      | _ => 0) h2
    rw [List.map_map, List.map_map] at this
    have e : ∀ l : List Int, l.map ((fun v : V => match v with
      | .int i => i
      | _ => 0) ∘ V.int) = l := fun l => List.map_id l
    rw [e, e] at this
    exact this
theorem row_inj {H : Hp} {x : V} {rs qs : List (List Int)} (h : RowAt H x rs) (g : RowAt H x qs) : rs = qs := by
  obtain ⟨t, ys, rfl, ht, hp⟩ := h
  obtain ⟨t2, ys2, e, ht2, hp2⟩ := g
  cases e
  rw [ht] at ht2
  cases ht2
  exact lots_inj hp hp2
open Classical in
/-- the row that stands there -/
noncomputable def rowK (H : Hp) (x : V) : List (List Int) := if h : ∃ rs, RowAt H x rs then h.choose else []
theorem rowK_eq {H : Hp} {x : V} {rs : List (List Int)} (h : RowAt H x rs) : rowK H x = rs := by
  have e : ∃ rs, RowAt H x rs := ⟨rs, h⟩
  unfold rowK
  rw [dif_pos e]
  exact row_inj e.choose_spec h
theorem rows_map {H : Hp} : ∀ {xs : List V} {rs : List (List (List Int))}, ChsV H xs rs → xs.map (rowK H) = rs
  | _, _, .nil => rfl
  | _, _, .cons h t => by rw [List.map_cons, rowK_eq h, rows_map t]
theorem rows_back {H : Hp} : ∀ {xs : List V}, (∀ x ∈ xs, ∃ rs, RowAt H x rs) → ChsV H xs (xs.map (rowK H))
  | [], _ => .nil
  | x :: xs, h => by
    obtain ⟨rs, hr⟩ := h x List.mem_cons_self
    exact .cons (by rw [rowK_eq hr]; exact hr) (rows_back fun y hy => h y (List.mem_cons_of_mem _ hy))
def Sorted (rows : List (List (List Int))) : Prop := rows.Pairwise fun a b => lexR b a = false
def spER : Sp := fun vs H Q _ => ∃ n : Nat, vs = [.int n] ∧ 1 ≤ n ∧ n ≤ 5 ∧ ∀ t ys rows H', Same H H' → TF H' t ys → ChsV H' ys rows → Sorted rows → rows.Perm ((wdM n n []).map (rowM n)) → ys.length ≤ 32768 → Q (.ref t) H'
section
variable {P : Program} {w : World} {K : PySem.W.Frag} {mg : Str → Option Value} {base : Heap} {f : Addr} {fd : FuncData} {C : Addr}
theorem all_ways_down (F : Fun K "ways_down" "ways_down" s_ways_down f fd) (b : Binds K fd ["many", "came"] []) (mm : mg "ways_down" = some (.ref f)) (T : RTx mg) (G_lot_of : Fd P w K mg base CX0 "lot_of" 1 ["words"] (spLotOfD K)) (G_lots_within : Fd P w K mg base CX0 "lots_within" 1 ["words"] (spLW K)) : ∀ n : Nat, Fd P w K mg base CX0 "ways_down" (n + 1) ["many", "came"] (spWD n)
  | 0 => ⟨f, fd, mm, F.kp, b, (none0 (fun vs H Q E h => by obtain ⟨k, n, y, came, _, _, _, _, hk, _⟩ := h; omega)).mono (Nat.zero_le _)⟩
  | n + 1 => ⟨f, fd, mm, F.kp, b, ok_ways_down F T G_lot_of G_lots_within (all_ways_down F b mm T G_lot_of G_lots_within n)⟩
abbrev s_every_row : Stmt := top 20
theorem sc_every_row : FnScope ["many", "views"] ["many"] (defScope s_every_row) := ⟨rfl, rfl, rfl, by decide +kernel, rfl, by decide +kernel, by decide +kernel⟩
theorem ok_every_row (F : Fun K "every_row" "every_row" s_every_row f fd) (T : RTx mg) (G_check_many : Fd P w K mg base CX0 "check_many" 2 ["many"] spChkD) (G_ways_down : Fd P w K mg base CX0 "ways_down" 7 ["many", "came"] (spWD 6)) (G_row_of : Fd P w K mg base CX0 "row_of" 1 ["many", "views"] spRowOf) : FnOk P w K mg base CX0 8 f fd ["many"] spER := by
  refine F.ok sc_every_row (fun vs H Q E h => ?_) (fun cdv A outer s H vs Q E hr h => ?_)
  · obtain ⟨n, rfl, _⟩ := h
    rfl
  obtain ⟨n, rfl, h1, h5, q⟩ := h
  refine ⟨_, (pss_cons (ps_expr (pe_fd G_check_many (hr.mono (by first | decide | omega)) rfl (pa_cons (pv 0) pa_nil)))
  (pss_one (ps_ret (pe_callTy call_tupleF rfl T.tuple (by decide +kernel) (pa_cons (pe_callB (cr_sortedRO (u64 hr)) rfl T.sorted (by decide +kernel) (pa_cons (pe_lc (own := [("views", 1)]) (g := (gName 1)) (tt := tYes) rfl sc_every_row.nd (pi_list (pe_fd G_ways_down (hr.mono (by first | decide | omega)) rfl (pa_cons (pv 0) (pa_cons (pe_tup pa_nil) pa_nil)))) (blkOk_by (own := [("views", 1)]) (N := ["many", "views"]) (sc := defScope s_every_row) (by decide +kernel)) (fun _ _ _ _ _ => (pg_name (i := 1) sc_every_row.nd rfl (Or.inl rfl))) (fun _ _ _ _ _ => pts_nil) (fun _ _ _ _ _ => (pe_fd G_row_of (hr.mono (by first | decide | omega)) rfl (pa_cons (pv 0) (pa_cons (pv 1) pa_nil))))) pa_nil)) pa_nil))))), ?_⟩
  have hleft : (leftM n []).length = n := by rw [left_nil]; unfold fullL; rw [List.length_map, List.length_range]
  refine seq_in ?_
  refine ⟨_, rfl, n, rfl, h1, h5, ?_⟩
  refine nx_in ?_
  refine ret_in ?_
  refine ⟨_, rfl, szl (by show 0 ≤ _; decide), fun t0 nt0 => ?_⟩
  have s0 := same_new nt0 (.tup [])
  refine ⟨n, n, _, [], rfl, h5, ⟨t0, rfl, upd_same⟩, by omega, by omega, (fun x hx => by cases hx), by decide, h5, fun c H1 zs g1 hc1 hch hzl => ⟨c, rfl, ⟨_, .of hc1⟩, fun D hD => ?_⟩⟩
  have hzl := Nat.le_trans hzl (gB_le h5).1
  refine lc_list (K := K) (a := c) (xs := zs) (fun j H2 => Same H1 H2 ∧ ∃ acc, H2 D = some (.lst acc) ∧ ChsV H2 acc (((wdM n n []).take j).map (rowM n))) ⟨same_new hD _, [], upd_same, .nil⟩ (fun j H2 _ z => .of (z.1 _ _ hc1)) ?_ ?_
  · rintro j z H2 hz ⟨g2, acc, hD2, hacc⟩
    obtain ⟨rs, hrs, hrow⟩ := pr_left hch hz
    have hal := pr_len2 hacc
    rw [List.length_map, List.length_take] at hal
    have hjl := get_lt hz
    have hm := List.mem_of_getElem? hrs
    obtain ⟨w1, w2⟩ := wd_ok h5 n [] rs (by omega) hm
    have w3 := wd_len n [] rs hm
    refine ⟨rfl, yes_in ?_⟩
    refine ⟨_, rfl, _, rfl, n, z, rs, rfl, h5, hrow.same g2, by omega, w2, fun h hh => w1 _ (by rw [left_nil]; exact full_mem.mpr (by omega)), fun y H3 g3 hy => ?_⟩
    have hD3 := g3 _ _ hD2
    refine ⟨acc, hD3, szt (by omega), fun o u ho => ?_, acc ++ [y], upd_same, ?_⟩
    · rw [upd_ne (ne_of_none ho hD)]; exact g3 _ _ (g2 _ _ ho)
    · rw [List.take_add_one, hrs, Option.toList_some, List.map_append]
      exact pr_imp (fun _ _ h => RowAt.put hD3 h) (pr_app2 (pr_imp (fun _ _ h => RowAt.same g3 h) hacc) (.cons hy .nil))
  rintro H2 ⟨g2, acc, hD2, hacc⟩
  rw [List.take_of_length_le (by rw [← pr_len2 hch]; exact Nat.le_refl _)] at hacc
  have hal := pr_len2 hacc
  rw [List.length_map, ← pr_len2 hch] at hal
  have hmap := rows_map hacc
  have hev : ∀ x ∈ acc, ∃ rs, RowAt H2 x rs ∧ rs ≠ [] := fun x hx => by
    obtain ⟨i, hi⟩ := List.mem_iff_getElem?.mp hx
    obtain ⟨rs, hrs, hr⟩ := pr_left hacc hi
    refine ⟨rs, hr, fun z => ?_⟩
    obtain ⟨cs, _, rfl⟩ := List.mem_map.mp (List.mem_of_getElem? hrs)
    have := congrArg List.length z
    unfold rowM at this
    rw [List.length_map, List.length_range] at this
    simp at this
    omega
  refine ⟨D, acc, rowK H2, rfl, .of hD2, fun x hx => ?_, fun ys p hsr hst np => ?_⟩
  · obtain ⟨rs, hr, hne⟩ := hev x hx
    rw [rowK_eq hr]
    exact ⟨hr, hne⟩
  have g3 := same_new np (.lst ys)
  refine ⟨p, ys, rfl, .of upd_same, fun l o nl hod => ?_⟩
  have g4 := same_new nl (.frz o (.tup ys))
  have hyl : ys.length = acc.length := hst.perm.length_eq
  have hys : ∀ x ∈ ys, ∃ rs, RowAt H2 x rs := fun x hx => by
    obtain ⟨rs, hr, _⟩ := hev x (hst.perm.mem_iff.mp hx)
    exact ⟨rs, hr⟩
  refine q l ys (ys.map (rowK H2)) _ ((((s0.trans g1).trans g2).trans g3).trans g4) ⟨o, upd_same, hod⟩ (pr_imp (fun _ _ h => RowAt.same (g3.trans g4) h) (rows_back hys)) (List.pairwise_map.mpr hsr) ?_ (by omega)
  rw [← hmap]
  exact hst.perm.map _
end
end Fp
namespace Fp
open PySem PySem.Spec PyProof.Rows L2
theorem srtR_uniq : ∀ {l m : List (List (List Int))}, Sorted l → Sorted m → l.Perm m → l = m
  | [], m, _, _, p => (List.Perm.nil_eq p)
  | a :: l, [], _, _, p => absurd p.length_eq (by simp)
  | a :: l, b :: m, hl, hm, p => by
    have h1 := List.pairwise_cons.mp hl
    have h2 := List.pairwise_cons.mp hm
    have e : a = b := by
      by_cases e : a = b
      · exact e
      · have ha : a ∈ m := by
          have := p.mem_iff.mp (List.mem_cons_self (a := a) (l := l))
          rcases List.mem_cons.mp this with z | z
          · exact absurd z e
          · exact z
        have hb : b ∈ l := by
          have := p.mem_iff.mpr (List.mem_cons_self (a := b) (l := m))
          rcases List.mem_cons.mp this with z | z
          · exact absurd z.symm e
          · exact z
        exact (lexR_total (h2.1 a ha) (h1.1 b hb))
    subst e
    rw [srtR_uniq h1.2 h2.2 (List.Perm.cons_inv p)]
def insR (a : List (List Int)) : List (List (List Int)) → List (List (List Int))
  | [] => [a]
  | b :: l => if lexR b a = true then b :: insR a l else a :: b :: l
def sortR (l : List (List (List Int))) : List (List (List Int)) := l.foldr insR []
theorem insR_perm (a : List (List Int)) : ∀ l, (insR a l).Perm (a :: l)
  | [] => List.Perm.refl _
  | b :: l => by
    unfold insR
    by_cases c : lexR b a = true
    · rw [if_pos c]
      exact ((insR_perm a l).cons b).trans (List.Perm.swap a b l)
    · rw [if_neg c]
theorem insR_srt (a : List (List Int)) : ∀ {l}, Sorted l → Sorted (insR a l)
  | [], _ => List.pairwise_singleton _ _
  | b :: l, h => by
    have h1 := List.pairwise_cons.mp h
    unfold insR
    by_cases c : lexR b a = true
    · rw [if_pos c]
      refine List.pairwise_cons.mpr ⟨fun x hx => ?_, insR_srt a h1.2⟩
      rcases List.mem_cons.mp ((insR_perm a l).mem_iff.mp hx) with z | z
      · rw [z]; exact lexR_asym c
      · exact h1.1 x z
    · rw [if_neg c]
      refine List.pairwise_cons.mpr ⟨fun x hx => ?_, h⟩
      rcases List.mem_cons.mp hx with z | z
      · rw [z]; exact Bool.eq_false_iff.mpr c
      · exact lexR_tr (Bool.eq_false_iff.mpr c) (h1.1 x z)
theorem sortR_perm : ∀ l, (sortR l).Perm l
  | [] => List.Perm.refl _
  | a :: l => (insR_perm a (sortR l)).trans ((sortR_perm l).cons a)
theorem sortR_srt : ∀ l, Sorted (sortR l)
  | [] => List.Pairwise.nil
  | a :: l => insR_srt a (sortR_srt l)
/-- all whole rows of n, in their order -/
def erM (n : Nat) : List (List (List Int)) := sortR ((wdM n n []).map (rowM n))
theorem er_eq {n : Nat} {rows : List (List (List Int))} (h : Sorted rows) (p : rows.Perm ((wdM n n []).map (rowM n))) : rows = erM n := srtR_uniq h (sortR_srt _) (p.trans (sortR_perm _).symm)
theorem er_len : (erM 1).length = 1 ∧ (erM 2).length = 3 ∧ (erM 3).length = 13 ∧ (erM 4).length = 75 := by decide +kernel
end Fp
namespace Fp
open PySem PySem.Spec PyProof.Rows L2
/-! the law's own count of all rows, block by block -/
def blkM (left : List Int) (bits : Nat) : List Int := ((List.range left.length).filter fun i => decide (bits / 2 ^ i % 2 = 1)).map fun i => left.getD i 0
def vieM (n : Nat) (seen block : List Int) : List Int := (fullL n).filter fun x => decide (x ∈ seen ++ block)
def freM (block view : List Int) (row : List (List Int)) : List (List Int) := (List.range row.length).map fun h : Nat => if (h : Int) ∈ block then view else row.getD h []
/-- what one that waits brings -/
def brgM (n : Nat) (p : List Int × List (List Int)) : List (List Int × List (List Int)) :=
  (List.range (2 ^ (leftM n p.1).length - 1)).map fun b => (vieM n p.1 (blkM (leftM n p.1) (1 + b)), freM (blkM (leftM n p.1) (1 + b)) (vieM n p.1 (blkM (leftM n p.1) (1 + b))) p.2)
def lapM (n : Nat) (s : List (List Int × List (List Int)) × List (List (List Int))) : List (List Int × List (List Int)) × List (List (List Int)) :=
  ((s.1.flatMap (brgM n)).filter fun q => decide (q.1.length ≠ n), s.2 ++ ((s.1.flatMap (brgM n)).filter fun q => decide (q.1.length = n)).map (·.2))
def lapsM (n : Nat) : Nat → List (List Int × List (List Int)) × List (List (List Int))
  | 0 => ([([], List.replicate n [])], [])
  | k + 1 => lapM n (lapsM n k)
theorem lawM_eq : ∀ n : Nat, 1 ≤ n → n ≤ 4 → sortR (lapsM n n).2 = erM n := fun n h1 h4 => by
  rcases (show n = 1 ∨ n = 2 ∨ n = 3 ∨ n = 4 by omega) with rfl | rfl | rfl | rfl <;> decide +kernel
end Fp
namespace Fp
open PySem PySem.Spec PyProof.Rows L2
/-! every whole row is among them -/
theorem sub_lw : ∀ (ws : List Int) (acc : List (List Int)) (a l : List Int), a ∈ acc → l.Sublist ws → a ++ l ∈ ws.foldl (fun ls w => ls ++ ls.map (· ++ [w])) acc
  | [], acc, a, l, ha, hl => by
    cases hl
    rw [List.append_nil]; exact ha
  | w :: ws, acc, a, l, ha, hl => by
    rw [List.foldl_cons]
    cases hl with
    | cons _ h => exact sub_lw ws _ a l (List.mem_append_left _ ha) h
    | @cons_cons l' _ _ h =>
      have := sub_lw ws (acc ++ acc.map (· ++ [w])) (a ++ [w]) l' (List.mem_append_right _ (List.mem_map.mpr ⟨a, ha, rfl⟩)) h
      rwa [List.append_assoc] at this
theorem lw_sub {ws l : List Int} (h : l.Sublist ws) (hne : l ≠ []) : l ∈ (lwAll ws).drop 1 := by
  have m := sub_lw ws [[]] [] l List.mem_cons_self h
  obtain ⟨r', e, _⟩ := lw_ne ws [] (fun l hl => by cases hl)
  rw [e, List.nil_append] at m
  have e : lwAll ws = [] :: r' := e
  rw [e]
  rcases List.mem_cons.mp m with z | z
  · exact absurd z hne
  · exact z
theorem least {α : Type} (f : α → Nat) : ∀ {l : List α}, l ≠ [] → ∃ a ∈ l, ∀ b ∈ l, f a ≤ f b
  | [], h => absurd rfl h
  | [a], _ => ⟨a, List.mem_cons_self, fun b hb => by rw [List.mem_singleton.mp hb]; exact Nat.le_refl _⟩
  | a :: c :: l, _ => by
    obtain ⟨b, hb, hm⟩ := least f (l := c :: l) (by simp)
    by_cases e : f a ≤ f b
    · refine ⟨a, List.mem_cons_self, fun x hx => ?_⟩
      rcases List.mem_cons.mp hx with z | z
      · rw [z]; exact Nat.le_refl _
      · exact Nat.le_trans e (hm x z)
    · refine ⟨b, List.mem_cons_of_mem _ hb, fun x hx => ?_⟩
      rcases List.mem_cons.mp hx with z | z
      · rw [z]; omega
      · exact hm x z
theorem vw_in {v : List Int} {cs : List (List Int)} {h : Nat} (hv : (h : Int) ∈ v) : vwM (v :: cs) h = v := by
  unfold vwM
  rw [List.filter_cons, if_pos (decide_eq_true hv)]; rfl
theorem vw_out {v : List Int} {cs : List (List Int)} {h : Nat} (hv : (h : Int) ∉ v) : vwM (v :: cs) h = vwM cs h := by
  unfold vwM
  rw [List.filter_cons, if_neg (by simpa using hv)]
theorem chain_has {n : Nat} {r : Row'} (R : RowOk n r) : ∀ (k : Nat) (came : List Int), (leftM n came).length ≤ k → (came = [] ∨ ∃ (i : Nat) (m : List Int), r[i]? = some m ∧ came = m) → (∀ (i : Nat) (m : List Int), r[i]? = some m → (i : Int) ∈ came → ∀ x ∈ m, x ∈ came) → ∃ cs ∈ wdM k n came, ∀ h : Nat, (h : Int) ∈ leftM n came → r[h]? = some (vwM cs h)
  | 0, came, hk, _, _ => ⟨[], List.mem_singleton.mpr rfl, fun h hh => by
    have e : leftM n came = [] := List.length_eq_zero_iff.mp (by omega)
    rw [e] at hh; cases hh⟩
  | k + 1, came, hk, hcame, hcl => by
    by_cases e : leftM n came = []
    · refine ⟨[], ?_, fun h hh => by rw [e] at hh; cases hh⟩
      unfold wdM
      rw [if_pos e]; exact List.mem_singleton.mpr rfl
    have at_ : ∀ x ∈ leftM n came, ∃ (h : Nat) (m : List Int), x = (h : Int) ∧ r[h]? = some m := fun x hx => by
      have := (left_mem.mp hx).1
      have hlt : x.toNat < r.length := by rw [R.len]; omega
      exact ⟨x.toNat, r[x.toNat], by omega, List.getElem?_eq_getElem hlt⟩
    obtain ⟨x0, hx0, hmin⟩ := least (fun x : Int => (r.getD x.toNat []).length) e
    obtain ⟨h0, v, rfl, hv⟩ := at_ x0 hx0
    have gv : r.getD ((h0 : Nat) : Int).toNat [] = v := by rw [Int.toNat_natCast, List.getD_eq_getElem?_getD, hv]; rfl
    have hself := R.self h0 v hv
    have hsub : ∀ x ∈ came, x ∈ v := by
      rcases hcame with z | ⟨i, m, hm, rfl⟩
      · intro x hx; rw [z] at hx; cases hx
      · rcases R.cmp i h0 came v hm hv with z | z
        · exact z
        · exact absurd (z _ hself) (left_mem.mp hx0).2
    have hlot : ((leftM n came).filter fun x => decide (x ∈ v)) ∈ (lwAll (leftM n came)).drop 1 := lw_sub List.filter_sublist fun z => by
      have : ((h0 : Nat) : Int) ∈ (leftM n came).filter fun x => decide (x ∈ v) := List.mem_filter.mpr ⟨hx0, decide_eq_true hself⟩
      rw [z] at this; cases this
    have hview : viewM n came ((leftM n came).filter fun x => decide (x ∈ v)) = v := srt_eq ((fullL_up n).filter _) (R.up h0 v hv) fun x => by
      rw [view_mem, List.mem_filter, decide_eq_true_iff]
      constructor
      · rintro ⟨_, z | ⟨_, z⟩⟩
        · exact hsub x z
        · exact z
      · intro hx
        have hr := R.rng h0 v hv x hx
        refine ⟨hr, ?_⟩
        by_cases c : x ∈ came
        · exact .inl c
        · exact .inr ⟨left_mem.mpr ⟨hr, c⟩, hx⟩
    have hless := left_less hlot
    rw [hview] at hless
    obtain ⟨cs, hcs, hall⟩ := chain_has R k v (by omega) (.inr ⟨h0, v, hv, rfl⟩) fun i m hm hi x hx => R.fit i h0 m v hm hv hi x hx
    refine ⟨v :: cs, ?_, fun h hh => ?_⟩
    · unfold wdM
      rw [if_neg e]
      exact List.mem_flatMap.mpr ⟨_, hlot, by rw [hview]; exact List.mem_map.mpr ⟨cs, hcs, rfl⟩⟩
    · by_cases c : (h : Int) ∈ v
      · rw [vw_in c]
        obtain ⟨h', m, eh, hm⟩ := at_ _ hh
        have eh : h = h' := by omega
        subst eh
        have hmv := R.fit h h0 m v hm hv c
        have hl := hmin _ hh
        rw [gv] at hl
        have gm : r.getD ((h : Nat) : Int).toNat [] = m := by rw [Int.toNat_natCast, List.getD_eq_getElem?_getD, hm]; rfl
        rw [gm] at hl
        have := sub_eq (srt_nodup (R.up h m hm)) hmv hl
        rw [hm, srt_eq (R.up h m hm) (R.up h0 v hv) fun x => ⟨hmv x, this x⟩]
      · rw [vw_out c]
        exact hall h (left_mem.mpr ⟨(left_mem.mp hh).1, c⟩)
theorem mem_er {n : Nat} {r : Row'} (R : RowOk n r) : r ∈ erM n := by
  have hleft : (leftM n []).length = n := by rw [left_nil]; unfold fullL; rw [List.length_map, List.length_range]
  obtain ⟨cs, hcs, hall⟩ := chain_has R n [] (by omega) (.inl rfl) fun i m _ hi => by cases hi
  refine (sortR_perm _).mem_iff.mpr (List.mem_map.mpr ⟨cs, hcs, ?_⟩)
  refine List.ext_getElem? fun i => ?_
  unfold rowM
  rw [List.getElem?_map]
  by_cases c : i < n
  · rw [List.getElem?_range c]
    exact (hall i (by rw [left_nil]; exact full_mem.mpr (by omega))).symm
  · rw [List.getElem?_eq_none (by rw [List.length_range]; omega), List.getElem?_eq_none (by rw [R.len]; omega)]
    rfl
end Fp
namespace Fp
open PySem PySem.Spec PyProof.Rows L2
def spWayD : Sp := fun vs H Q _ => ∃ (n : Nat) (v : V) (r : Row'), vs = [.int n, v] ∧ 1 ≤ n ∧ n ≤ 5 ∧ DV H v (rowD r) ∧ RowOk n r ∧ ∀ l H' xs ls, Same H H' → H' l = some (.lst xs) → DVs H' xs (ls.map rowD) → WayOk n r ls → Q (.ref l) H'
theorem ord_of {n : Nat} {r : Row'} {PL : List (Int × Int)} (hp : PL.Perm ((List.range n).map fun j : Nat => (((r.getD j []).length : Int), (j : Int)))) (hs : PL.Pairwise fun p q => SrtO.lexB q p = false) :
    OrdOk n r (PL.map fun p => p.2.toNat) ∧ PL.map (fun p => V.int p.2) = (PL.map fun p => p.2.toNat).map fun a : Nat => V.int (a : Int) := by
  have mem : ∀ p ∈ PL, ∃ j : Nat, j < n ∧ p = (((r.getD j []).length : Int), (j : Int)) := fun p hp' => by
    obtain ⟨j, hj, e⟩ := List.mem_map.mp (hp.mem_iff.mp hp')
    exact ⟨j, List.mem_range.mp hj, e.symm⟩
  have hperm : (PL.map fun p => p.2.toNat).Perm (List.range n) := by
    have := hp.map fun p : Int × Int => p.2.toNat
    rw [List.map_map] at this
    have e : (List.range n).map ((fun p : Int × Int => p.2.toNat) ∘ fun j : Nat => (((r.getD j []).length : Int), (j : Int))) = List.range n := by
      refine (List.map_congr_left fun j _ => ?_).trans (List.map_id _)
      show ((j : Int)).toNat = j
      omega
    rw [e] at this
    exact this
  refine ⟨⟨by rw [hperm.length_eq, List.length_range], hperm.nodup_iff.mpr List.nodup_range, fun x hx => List.mem_range.mp (hperm.mem_iff.mp hx), fun i j a b hij ha hb => ?_⟩, ?_⟩
  · rw [List.getElem?_map] at ha hb
    obtain ⟨p, hp1, rfl⟩ := Option.map_eq_some_iff.mp ha
    obtain ⟨q, hq1, rfl⟩ := Option.map_eq_some_iff.mp hb
    obtain ⟨u, hu, rfl⟩ := mem p (List.mem_of_getElem? hp1)
    obtain ⟨v, hv, rfl⟩ := mem q (List.mem_of_getElem? hq1)
    show (r.getD ((u : Int)).toNat []).length ≤ (r.getD ((v : Int)).toNat []).length
    rw [Int.toNat_natCast, Int.toNat_natCast]
    rcases Nat.lt_or_eq_of_le hij with c | c
    · obtain ⟨l1, e1⟩ := List.getElem?_eq_some_iff.mp hp1
      obtain ⟨l2, e2⟩ := List.getElem?_eq_some_iff.mp hq1
      have := List.pairwise_iff_getElem.mp hs i j l1 l2 c
      rw [e1, e2, SrtO.lexB_no] at this
      have := fun z => this (.inl z)
      have h : ¬ (((r.getD v []).length : Int) < ((r.getD u []).length : Int)) := this
      omega
    · subst c
      have e := congrArg Prod.fst (Option.some.inj (hp1.symm.trans hq1))
      have e : ((r.getD u []).length : Int) = ((r.getD v []).length : Int) := e
      omega
  · rw [List.map_map]
    refine List.map_congr_left fun p hp' => ?_
    obtain ⟨j, _, rfl⟩ := mem p hp'
    show V.int (j : Int) = V.int ((((j : Int)).toNat : Nat) : Int)
    rw [Int.toNat_natCast]
def preF (n : Nat) (o : List Nat) (k : Nat) : List Int := (fullL n).filter fun x => (o.take k).any fun a => decide (x = (a : Int))
theorem preF_mem {n : Nat} {r : Row'} {o : List Nat} (O : OrdOk n r o) (k : Nat) (x : Int) : x ∈ preF n o k ↔ ∃ a ∈ o.take k, x = ((a : Nat) : Int) := by
  unfold preF
  rw [List.mem_filter, List.any_eq_true]
  constructor
  · rintro ⟨_, a, ha, e⟩
    exact ⟨a, ha, of_decide_eq_true e⟩
  · rintro ⟨a, ha, e⟩
    exact ⟨by rw [e]; exact List.mem_map.mpr ⟨a, List.mem_range.mpr (O.lt a (List.mem_of_mem_take ha)), rfl⟩, a, ha, decide_eq_true e⟩
theorem preF_ok {n : Nat} {r : Row'} {o : List Nat} (O : OrdOk n r o) : PreOk o (preF n o) := ⟨fun k => (fullL_up n).filter _, preF_mem O⟩
theorem preF_eq {n : Nat} {r : Row'} {o : List Nat} (O : OrdOk n r o) {k : Nat} {L : List Int} (hL : L.Pairwise (· < ·)) (hm : ∀ x : Int, x ∈ L ↔ x ∈ (o.take k).map fun a : Nat => (a : Int)) : L = preF n o k := by
  refine srt_eq hL ((preF_ok O).up k) fun x => ?_
  rw [hm, preF_mem O, List.mem_map]
  exact ⟨fun ⟨a, h1, h2⟩ => ⟨a, h1, h2.symm⟩, fun ⟨a, h1, h2⟩ => ⟨a, h1, h2.symm⟩⟩
/-- what a pair of integers holds -/
def kf (H : Hp) : V → Int × Int
  | .ref t => match H t with
    | some (.tup [.int i, .int j]) => (i, j)
    | _ => (0, 0)
  | _ => (0, 0)
theorem kf_at {H : Hp} {t : Addr} {i j : Int} (h : H t = some (.tup [.int i, .int j])) : kf H (.ref t) = (i, j) := by
  show (match H t with
    | some (.tup [.int i, .int j]) => (i, j)
    | _ => (0, 0)) = _
  rw [h]
theorem DVs.snoc {H : Hp} {vs : List V} {ds : List Dt} {v : V} {d : Dt} (h : DVs H vs ds) (g : DV H v d) : DVs H (vs ++ [v]) (ds ++ [d]) := h.app (.cons g .nil)
theorem atI_m1 {ys : List V} {v : V} {i : Nat} (h : ys[i]? = some v) (hl : ys.length = i + 1) : atI ys (-1) = some v := by
  rcases List.eq_nil_or_concat ys with rfl | ⟨l0, z, e⟩
  · cases h
  · rw [List.concat_eq_append] at e
    subst e
    rw [List.length_append, List.length_singleton] at hl
    rw [List.getElem?_append_right (by omega), show i - l0.length = 0 by omega] at h
    cases h
    exact atI_last _ _
def upL (r : Row') (o : List Nat) (pre : Nat → List Int) (i : Nat) : List Row' := (List.range (i + 1)).map (upR r o pre)
def wlL (r : Row') (o : List Nat) (pre : Nat → List Int) (n j : Nat) : List Row' := upL r o pre n ++ (List.range j).map fun k => dnR r o pre n (k + 1)
theorem upL_succ {r : Row'} {o : List Nat} {pre : Nat → List Int} {i : Nat} : upL r o pre (i + 1) = upL r o pre i ++ [upR r o pre (i + 1)] := by
  unfold upL
  rw [List.range_succ, List.map_append]; rfl
theorem upL_len {r : Row'} {o : List Nat} {pre : Nat → List Int} {i : Nat} : (upL r o pre i).length = i + 1 := by simp [upL]
theorem upL_last {r : Row'} {o : List Nat} {pre : Nat → List Int} {i : Nat} : (upL r o pre i)[i]? = some (upR r o pre i) := by
  unfold upL
  rw [List.getElem?_map, List.getElem?_range (Nat.lt_succ_self i)]; rfl
theorem wlL_succ {r : Row'} {o : List Nat} {pre : Nat → List Int} {n j : Nat} : wlL r o pre n (j + 1) = wlL r o pre n j ++ [dnR r o pre n (j + 1)] := by
  unfold wlL
  rw [List.range_succ, List.map_append, List.append_assoc]; rfl
theorem wlL_len {r : Row'} {o : List Nat} {pre : Nat → List Int} {n j : Nat} : (wlL r o pre n j).length = n + j + 1 := by
  unfold wlL
  rw [List.length_append, upL_len, List.length_map, List.length_range]; omega
theorem wlL_last {r : Row'} {o : List Nat} {pre : Nat → List Int} {n j : Nat} : (wlL r o pre n j)[n + j]? = some (dnR r o pre n j) := by
  cases j with
  | zero =>
    unfold wlL
    rw [List.range_zero, List.map_nil, List.append_nil]
    exact upL_last
  | succ j =>
    rw [wlL_succ, List.getElem?_append_right (by rw [wlL_len]; omega), wlL_len, show n + (j + 1) - (n + j + 1) = 0 by omega]; rfl
theorem wlL_all {r : Row'} {o : List Nat} {pre : Nat → List Int} {n : Nat} : wlL r o pre n n = r :: wayR r o pre n := by
  unfold wlL upL wayR
  rw [List.range_succ_eq_map, List.map_cons, List.map_map]
  rfl
theorem rowD_set {r : Row'} {p : Nat} {l : List Int} : Dt.tup ((r.map lotD).set p (lotD l)) = rowD (r.set p l) := by
  unfold rowD
  rw [List.map_set]
theorem rowD_inj {r s : Row'} (h : rowD r = rowD s) : r = s := by
  unfold rowD at h
  injection h with h
  have := congrArg (List.map lotOf) h
  rw [List.map_map, List.map_map] at this
  have e : ∀ t : Row', t.map (lotOf ∘ lotD) = t := fun t => (List.map_congr_left fun x _ => lotOf_lotD x).trans (List.map_id t)
  rw [e, e] at this
  exact this
theorem dd_step {r x y : Row'} {W : List Row'} {j : Nat} (hy : (r :: W)[j]? = some y) (hx : W[j]? = some x) : ddL r (W.take (j + 1)) = ddL r (W.take j) ++ if x = y then [] else [x] := by
  rw [List.take_add_one, hx]
  show ddL r (W.take j ++ [x]) = _
  rw [dd_snoc]
  have e : (r :: W.take j).getLast (by simp) = y := by
    have hj : j < W.length := (List.getElem?_eq_some_iff.mp hx).1
    have h1 : (r :: W.take j).getLast? = some y := by
      rw [List.getLast?_eq_getElem?, List.length_cons, List.length_take, Nat.min_eq_left (Nat.le_of_lt hj), Nat.add_sub_cancel, ← hy]
      cases j with
      | zero => rfl
      | succ j => rw [List.getElem?_cons_succ, List.getElem?_cons_succ, List.getElem?_take, if_pos (by omega)]
    rw [List.getLast?_eq_some_getLast (by simp)] at h1
    exact Option.some.inj h1
  rw [e]
theorem call_lenK {X : Cx} {K : PySem.W.Frag} (e : X.K = K := by rfl) : CallR X (.builtin "len") (fun xs H Q => ∃ x n, xs = [x] ∧ LenV K x H n ∧ Q (.int n) H) := by subst e; exact call_len
section
variable {P : Program} {w : World} {K : PySem.W.Frag} {mg : Str → Option Value} {base : Heap} {f : Addr} {fd : FuncData} {C : Addr}
end
end Fp
namespace Fp
open PySem PySem.Spec PyProof.Rows L2
/-! rows.index(row) -/
def rowP (rs : List (List Int)) : PyData := .tuple (rs.map fun l => .tuple (l.map PyData.int))
theorem rowP_eq (rs : List (List Int)) : toP 2 (rowD rs) = rowP rs := by
  show PyData.tuple ((rs.map lotD).map (toP 1)) = _
  rw [List.map_map]
  unfold rowP
  congr 1
  refine List.map_congr_left fun l _ => ?_
  show PyData.tuple ((l.map Dt.int).map (toP 0)) = _
  rw [List.map_map]; rfl
theorem rowD_pl2 (r : List (List Int)) : pl 2 (rowD r) = true := pl_tup.mpr fun d hd => by
  obtain ⟨l, _, rfl⟩ := List.mem_map.mp hd
  exact pl_tup.mpr fun e he => by obtain ⟨i, _, rfl⟩ := List.mem_map.mp he; rfl
theorem rowP_eqv (r q : List (List Int)) : PyData.eqv (rowP r) (rowP q) = decide (r = q) := by
  rw [← rowP_eq, ← rowP_eq, Bool.eq_iff_iff, eqv_iff (rowD_pl2 _) (rowD_pl2 _), decide_eq_true_iff]
  exact ⟨rowD_inj, fun z => by rw [z]⟩
theorem rowP_lay (r : List (List Int)) : (rowP r).canLay0 = true := by rw [← rowP_eq]; exact toP_lay
theorem rowP_dep (r : List (List Int)) : (rowP r).depth ≤ 2 := by rw [← rowP_eq]; exact toP_depth
theorem ints_dp {K : PySem.W.Frag} {H : Hp} : ∀ l : List Int, DpAll K H (l.map V.int) (l.map PyData.int)
  | [] => .nil
  | i :: l => .cons (.int i) (ints_dp l)
theorem lots_dp {K : PySem.W.Frag} {H : Hp} : ∀ {ys : List V} {rs : List (List Int)}, LotsV H ys rs → DpAll K H ys (rs.map fun l => .tuple (l.map PyData.int))
  | _, _, .nil => .nil
  | _, _, .cons ⟨c, e, hc⟩ t => by
    subst e
    exact .cons (.tup (.of hc) (ints_dp _)) (lots_dp t)
theorem row_dp {K : PySem.W.Frag} {H : Hp} {x : V} {rs : List (List Int)} (h : RowAt H x rs) : Dp K H x (rowP rs) := by
  obtain ⟨t, ys, rfl, ht, hp⟩ := h
  exact .tup (.of ht) (lots_dp hp)
def rIndexR (K : PySem.W.Frag) : V → List V → Hp → VK → Prop := fun x xs H Q => ∃ (p : Addr) (ys : List V) (rows : List (List (List Int))) (y : V) (r : List (List Int)) (j : Nat), x = .ref p ∧ xs = [y] ∧ SqT K H p ys ∧ ChsV H ys rows ∧ RowAt H y r ∧ rows[j]? = some r ∧ (∀ m, m < j → rows[m]? ≠ some r) ∧ Q (.int (j : Nat)) H
section
variable {X : Cx}
open Classical in
theorem mt_indexR (hu : X.A.units + 64 < cLine) : MtR X "tuple.index" (rIndexR X.K) := by
  intro pins s σ H x xs v us Q I rx rs h
  obtain ⟨p, ys, rows, y, r, j, rfl, rfl, hq, hch, hy, hj, hno, q⟩ := h
  cases rx
  obtain ⟨u, rfl, ru⟩ := vals1 rs
  obtain ⟨its, rv, pl, hz⟩ := I.tuple hq
  obtain ⟨⟨cls, dd, dt, sl⟩, ho, hc, n, hd⟩ := pl
  simp only at hc hd
  subst hc
  subst hd
  have l1 := pr_len2 hch
  have l2 := rv.length
  have hl : its.toArray.size = rows.length := by rw [List.size_toArray, ← l2, l1]
  have hjr := get_lt hj
  have at' : ∀ (m : Nat) (hm : m < its.toArray.size), ∃ (yv : V) (rm : List (List Int)), ys[m]? = some yv ∧ rows[m]? = some rm ∧ RowAt H yv rm ∧ RelV yv its.toArray[m] := fun m hm => by
    have hm1 : m < ys.length := by omega
    have e1 : ys[m]? = some ys[m] := List.getElem?_eq_getElem hm1
    obtain ⟨rm, e2, hr⟩ := pr_left hch e1
    obtain ⟨w, hw, hrel⟩ := rv.get (i := m) e1
    have e3 := (List.getElem?_eq_some_iff.mp hw).2
    exact ⟨_, rm, e1, e2, hr, by simpa [e3] using hrel⟩
  have same : ∀ (m : Nat) (hm : m < its.toArray.size), (∃ (yv : V) (rm : List (List Int)), RelV yv its.toArray[m] ∧ RowAt H yv rm ∧ rm = r) ↔ rows[m]? = some r := fun m hm => by
    obtain ⟨yv, rm, e1, e2, hr, hrel⟩ := at' m hm
    constructor
    · rintro ⟨yv', rm', hrel', hr', rfl⟩
      obtain ⟨t, _, rfl, _⟩ := id hr
      obtain ⟨t', _, rfl, _⟩ := id hr'
      have z1 : its.toArray[m] = Value.ref t := hrel
      have z2 : its.toArray[m] = Value.ref t' := hrel'
      rw [z1] at z2
      cases z2
      rw [e2, row_inj hr hr']
    · intro z
      rw [e2] at z
      exact ⟨yv, rm, hrel, hr, Option.some.inj z⟩
  obtain ⟨bs, hru, _⟩ := (⟨_, (Dp.reads I _ _ _ (row_dp hy) ru).choose_spec, trivial⟩ : ∃ bs, Reads s.heap u (rowP r) bs ∧ True)
  refine call_meets PySem.F.slot_tuple_index ⟨_, ho, rfl⟩ PySem.F.entry_tuple_index (PySem.F.args_tuple_index_2 _ _) (TI.tuple_indexAt p its.toArray n dd sl u (fun w => decide (∃ (yv : V) (rm : List (List Int)), RelV yv w ∧ RowAt H yv rm ∧ rm = r)) j (by omega) ?_ ?_)
    ⟨ho, fun w hw => ?_, ⟨.int (j : Nat), H, I.tok _, ⟨_, rfl⟩, q⟩⟩
  · exact decide_eq_true ((same j (by omega)).mpr hj)
  · intro m hm hmj
    exact decide_eq_false fun z => hno m hmj ((same m hm).mp z)
  · obtain ⟨m, hm, rfl⟩ := Array.mem_iff_getElem.mp hw
    obtain ⟨yv, rm, e1, e2, hr, hrel⟩ := at' m hm
    obtain ⟨as, hra⟩ := Dp.reads I _ _ _ (row_dp hr) hrel
    have := SeqAt.eqAt_reads (rowP rm) (rowP r) X.A.in1 s _ _ as bs hra hru (rowP_lay _) (rowP_lay _) (by have := rowP_dep rm; show X.A.units + 1 + _ < _; omega)
    rw [rowP_eqv] at this
    have e : decide (rm = r) = decide (∃ (yv : V) (rm : List (List Int)), RelV yv its.toArray[m] ∧ RowAt H yv rm ∧ rm = r) := by
      rw [Bool.eq_iff_iff, decide_eq_true_iff, decide_eq_true_iff, same m hm, e2]
      exact ⟨fun z => by rw [z], fun z => Option.some.inj z⟩
    rw [e] at this
    exact this
end
end Fp
namespace Fp
open PySem PySem.Spec PyProof.Rows L2
def spBelowI : Sp := fun vs H Q _ => ∃ (i m : Int), vs = [.int i, .int m] ∧ Q (.bl (decide (0 ≤ i ∧ i < m))) H
def spRA : Sp := fun vs H Q _ => ∃ n j : Nat, vs = [.int n, .int j] ∧ 1 ≤ n ∧ n ≤ 5 ∧ j < (erM n).length ∧ ∀ y r H', Same H H' → RowAt H' y r → (erM n)[j]? = some r → Q y H'
def spNO : Sp := fun vs H Q _ => ∃ (n : Nat) (y : V) (r : Row'), vs = [.int n, y] ∧ 1 ≤ n ∧ n ≤ 5 ∧ RowAt H y r ∧ DV H y (rowD r) ∧ RowOk n r ∧ ∀ (j : Nat) H', Same H H' → (erM n)[j]? = some r → (∀ m, m < j → (erM n)[m]? ≠ some r) → Q (.int j) H'
theorem first_at {α : Type} [DecidableEq α] {a : α} : ∀ {l : List α}, a ∈ l → ∃ j : Nat, l[j]? = some a ∧ ∀ m, m < j → l[m]? ≠ some a
  | [], h => by cases h
  | b :: l, h => by
    by_cases e : b = a
    · exact ⟨0, by rw [e]; rfl, fun m hm => absurd hm (Nat.not_lt_zero _)⟩
    · rcases List.mem_cons.mp h with z | z
      · exact absurd z.symm e
      · obtain ⟨j, h1, h2⟩ := first_at z
        refine ⟨j + 1, by simpa using h1, fun m hm => ?_⟩
        cases m with
        | zero => exact fun q => e (Option.some.inj (by simpa using q))
        | succ m => simpa using h2 m (by omega)
section
variable {P : Program} {w : World} {K : PySem.W.Frag} {mg : Str → Option Value} {base : Heap} {f : Addr} {fd : FuncData} {C : Addr}
abbrev s_is_below : Stmt := top 8
theorem sc_is_below : FnScope ["value", "many"] ["value", "many"] (defScope s_is_below) := ⟨rfl, rfl, rfl, by decide +kernel, rfl, by decide +kernel, by decide +kernel⟩
theorem ok_is_below (F : Fun K "is_below" "is_below" s_is_below f fd) (G_is_whole : Fd P w K mg base CX0 "is_whole" 1 ["value"] spWhD) : FnOk P w K mg base CX0 2 f fd ["value", "many"] spBelowI := by
  refine F.ok sc_is_below (fun vs H Q E h => ?_) (fun cdv A outer s H vs Q E hr h => ?_)
  · obtain ⟨i, m, rfl, _⟩ := h
    rfl
  obtain ⟨i, m, rfl, q⟩ := h
  refine ⟨_, (pss_one (ps_ret (pe_and (pe_fd G_is_whole (hr.mono (by first | decide | omega)) rfl (pa_cons (pv 0) pa_nil)) (pe_one (pe_chain op_le op_lt pe_int (pv 0) (pv 1)))))), ?_⟩
  refine ⟨_, rfl, .int i, .int i, rfl, .int i, _, rfl, iteT ⟨_, rfl, _, _, rfl, rfl, _, rfl, ?_⟩⟩
  refine ite2 (fun c => ?_) (fun c => ?_)
  · refine ⟨_, rfl, _, _, rfl, rfl, ?_⟩
    have c' : 0 ≤ i := of_decide_eq_true c
    have e : decide (0 ≤ i ∧ i < m) = decide (i < m) := by simp [c']
    rw [e] at q
    exact q
  · have c' : ¬ 0 ≤ i := of_decide_eq_false (by simpa using c)
    have e : decide (0 ≤ i ∧ i < m) = false := decide_eq_false (fun z => c' z.1)
    rw [e] at q
    exact q
abbrev s_row_at : Stmt := top 23
theorem sc_row_at : FnScope ["many", "number", "rows"] ["many", "number"] (defScope s_row_at) := ⟨rfl, rfl, rfl, by decide +kernel, rfl, by decide +kernel, by decide +kernel⟩
theorem ok_row_at (F : Fun K "row_at" "row_at" s_row_at f fd) (T : RTx mg) (G_every_row : Fd P w K mg base CX0 "every_row" 8 ["many"] spER) (G_is_below : Fd P w K mg base CX0 "is_below" 2 ["value", "many"] spBelowI) : FnOk P w K mg base CX0 9 f fd ["many", "number"] spRA := by
  refine F.ok sc_row_at (fun vs H Q E h => ?_) (fun cdv A outer s H vs Q E hr h => ?_)
  · obtain ⟨n, j, rfl, _⟩ := h
    rfl
  obtain ⟨n, j, rfl, h1, h5, hj, q⟩ := h
  refine ⟨_, (pss_cons (ps_set (i := 2) sc_row_at.nd rfl (Or.inl rfl) (pe_fd G_every_row (hr.mono (by first | decide | omega)) rfl (pa_cons (pv 0) pa_nil)))
  (pss_cons (ps_if (pt_not (pt_val (pe_fd G_is_below (hr.mono (by first | decide | omega)) rfl (pa_cons (pv 1) (pa_cons (pe_callB call_len rfl T.len (by decide +kernel) (pa_cons (pv 2) pa_nil)) pa_nil))))) (pss_one (ps_no)) pss_nil)
  (pss_one (ps_ret (pe_ix ix_tup (pv 2) (pv 1) (fun _ _ => rfl)))))), ?_⟩
  refine seq_in ?_
  refine asg_in ?_
  refine ⟨_, rfl, n, rfl, h1, h5, fun t ys rows H1 g1 ht hch hs hp hl => ?_⟩
  have e := er_eq hs hp
  subst e
  have hyl := pr_len2 hch
  refine g_set ?_
  refine nx_in ?_
  refine seq_in ?_
  refine ⟨_, rfl, _, rfl, _, ys.length, rfl, .inr ⟨_, ht.sq, rfl⟩, j, ys.length, rfl, _, rfl, ?_⟩
  rw [decide_eq_true (show (0 : Int) ≤ j ∧ (j : Int) < (ys.length : Nat) from ⟨by omega, by omega⟩)]
  refine iteF ?_
  refine next_in ?_
  refine nx_in ?_
  refine ret_in ?_
  have hy : ys[j]? = some (ys[j]'(by omega)) := List.getElem?_eq_getElem _
  obtain ⟨r, hr', hrow⟩ := pr_left hch hy
  exact ⟨_, rfl, _, rfl, t, ys, _, _, rfl, rfl, ht.sq, atI_nat hy, q _ r _ g1 hrow hr'⟩
end
end Fp
namespace Fp
open PySem PySem.Spec PyProof.Rows L2
section
variable {P : Program} {w : World} {K : PySem.W.Frag} {mg : Str → Option Value} {base : Heap} {f : Addr} {fd : FuncData} {C : Addr}
abbrev s_number_of : Stmt := top 24
theorem sc_number_of : FnScope ["many", "row"] ["many", "row"] (defScope s_number_of) := ⟨rfl, rfl, rfl, by decide +kernel, rfl, by decide +kernel, by decide +kernel⟩
theorem ok_number_of (F : Fun K "number_of" "number_of" s_number_of f fd) (G_is_whole_row : Fd P w K mg base CX0 "is_whole_row" 5 ["many", "value"] spRowD) (G_every_row : Fd P w K mg base CX0 "every_row" 8 ["many"] spER) : FnOk P w K mg base CX0 9 f fd ["many", "row"] spNO := by
  refine F.ok sc_number_of (fun vs H Q E h => ?_) (fun cdv A outer s H vs Q E hr h => ?_)
  · obtain ⟨n, y, r, rfl, _⟩ := h
    rfl
  obtain ⟨n, y, r, rfl, h1, h5, hy, hd, R, q⟩ := h
  refine ⟨_, (pss_cons (ps_if (pt_not (pt_val (pe_fd G_is_whole_row (hr.mono (by first | decide | omega)) rfl (pa_cons (pv 0) (pa_cons (pv 1) pa_nil))))) (pss_one (ps_no)) pss_nil)
  (pss_one (ps_ret (pe_bmF PySem.F.slot_tuple_index PySem.F.type_tuple_index (mt_indexR (u64 hr)) (pe_fd G_every_row (hr.mono (by decide)) rfl (pa_cons (pv 0) pa_nil)) (pa_cons (pv 1) pa_nil))))), ?_⟩
  refine seq_in ?_
  refine ⟨_, rfl, _, rfl, n, y, rowD r, rfl, h1, h5, hd, fun H1 g1 => ⟨_, rfl, ?_⟩⟩
  rw [(rowok_iff h1).mpr R]
  refine iteF ?_
  refine next_in ?_
  refine nx_in ?_
  refine ret_in ?_
  refine ⟨_, rfl, n, rfl, h1, h5, fun t ys rows H2 g2 ht hch hs hp hl => ⟨⟨t, ys, rfl, ht⟩, _, rfl, ?_⟩⟩
  have e := er_eq hs hp
  subst e
  obtain ⟨j, hj, hno⟩ := first_at (mem_er R)
  exact ⟨t, ys, _, y, r, j, rfl, rfl, ht.sq, hch, hy.same (g1.trans g2), hj, hno, q j H2 (g1.trans g2) hj hno⟩
end
end Fp
namespace Fp
open PySem PySem.Spec PyProof.Rows L2
def unlD : Dt → Dt → Nat
  | .tup ds, .tup es => unl ds es
  | _, _ => 0
/-- a value that is a chain from a to b -/
structure ChD (n : Nat) (a b : Row') (ds : List Dt) : Prop where
  all : ∀ x ∈ ds, wholeB n x = true
  fst : ds.take 1 = [rowD a]
  lst : ds.drop (ds.length - 1) = [rowD b]
  adj : ∀ i, i + 1 < ds.length → unlD (ds.getD i .non) (ds.getD (i + 1) .non) = 1
def IsCh (n : Nat) (a b : Row') (d : Dt) : Prop := ∃ ds, d = .tup ds ∧ ChD n a b ds
def spEndsD : Sp := fun vs H Q _ => ∃ (n : Nat) (v1 v2 : V) (a b : Row'), vs = [.int n, v1, v2] ∧ 1 ≤ n ∧ n ≤ 5 ∧ DV H v1 (rowD a) ∧ DV H v2 (rowD b) ∧ RowOk n a ∧ RowOk n b ∧ ∀ H', Same H H' → Q .non H'
def spChainD : Sp := fun vs H Q _ => ∃ (n : Nat) (v1 v2 : V) (a b : Row'), vs = [.int n, v1, v2] ∧ 1 ≤ n ∧ n ≤ 5 ∧ DV H v1 (rowD a) ∧ DV H v2 (rowD b) ∧ RowOk n a ∧ RowOk n b ∧ ∀ c H' ls, Same H H' → DV H' (.ref c) (.tup (ls.map rowD)) → ChOk n a b ls → ls.length ≤ 22 → Q (.ref c) H'
def spShowsD : Sp := fun vs H Q _ => ∃ (n : Nat) (v1 v2 v3 : V) (a b : Row') (d : Dt), vs = [.int n, v1, v2, v3] ∧ 1 ≤ n ∧ n ≤ 5 ∧ DV H v1 (rowD a) ∧ DV H v2 (rowD b) ∧ DV H v3 d ∧ RowOk n a ∧ RowOk n b ∧ ∀ H' (t : Bool), Same H H' → (t = true ↔ IsCh n a b d) → Q (.bl t) H'
theorem whole_pl {n : Nat} {x : Dt} (h : wholeB n x = true) : pl 2 x = true := by
  unfold wholeB at h
  rw [Bool.and_eq_true] at h
  exact at_pl h.1
theorem whole_tup {n : Nat} {x : Dt} (h : wholeB n x = true) : ∃ ds, x = .tup ds ∧ ds.length = n := by
  unfold wholeB at h
  rw [Bool.and_eq_true] at h
  obtain ⟨ds, e, hl, _⟩ := at_tup h.1
  exact ⟨ds, e, hl⟩
theorem rowD_pl {n : Nat} (hn : 0 < n) {r : Row'} (R : RowOk n r) : pl 2 (rowD r) = true := whole_pl ((rowok_iff hn).mpr R)
theorem cut_last {xs : List V} : cutV xs (some (-1)) none = xs.drop (xs.length - 1) := by
  have h1 : HT.sIx xs.length 0 (some (-1)) = xs.length - 1 := by
    show (if (-1 : Int) < 0 then (-1 + (xs.length : Int)).toNat else min (-1 : Int).toNat xs.length) = _
    rw [if_pos (by decide)]; omega
  have h2 : HT.sIx xs.length xs.length none = xs.length := rfl
  unfold cutV
  rw [h1, h2]
  exact List.take_of_length_le (by rw [List.length_drop]; omega)
theorem dvs_tup {H : Hp} {a : Addr} {xs : List V} {ds : List Dt} (h : H a = some (.tup xs)) (g : DVs H xs ds) (l : ds.length ≤ 1000) : DV H (.ref a) (.tup ds) := .tup h g l
section
variable {P : Program} {w : World} {K : PySem.W.Frag} {mg : Str → Option Value} {base : Heap} {f : Addr} {fd : FuncData} {C : Addr}
end
end Fp
namespace Fp
open PySem PySem.Spec PyProof.Rows L2
structure LTx (mg : Str → Option Value) : Prop where
  len : mg "len" = none
  int : mg "int" = none
  sum : mg "sum" = none
  abs : mg "abs" = none
  list : mg "list" = none
  tuple : mg "tuple" = none
  range : mg "range" = none
  max : mg "max" = none
  min : mg "min" = none
  repr : mg "repr" = none
  all : mg "all" = none
  enumerate : mg "enumerate" = none
theorem modNat'' : True := trivial
theorem atI0 {α : Type} {l : List α} {v : α} (h : l[0]? = some v) : atI l 0 = some v := atI_nat (j := 0) h
section
variable {P : Program} {w : World} {K : PySem.W.Frag} {mg : Str → Option Value} {base : Heap} {f : Addr} {fd : FuncData} {C : Addr}
abbrev s_law_take : Stmt := top 27
theorem sc_law_take : FnScope ["pot", "upto", "digit", "prime", "blend"] ["pot", "upto"] (defScope s_law_take) := ⟨rfl, rfl, rfl, by decide +kernel, rfl, by decide +kernel, by decide +kernel⟩
theorem ok_law_take (F : Fun K "_law_take" "_law_take" s_law_take f fd) (T : LTx mg) : FnOk P w K mg base CX0 1 f fd ["pot", "upto"] spTake := by
  refine F.ok sc_law_take (fun vs H Q E h => ?_) (fun cdv A outer s H vs Q E hr h => ?_)
  · obtain ⟨p, u, n, rfl, _⟩ := h
    rfl
  obtain ⟨p, u, n, rfl, h0, h1, hn, hP, q⟩ := h
  obtain ⟨a, b, c, hp, hb0, hb1, hc0, hc1⟩ := hP
  refine ⟨_, (pss_cons (ps_if (pt_cmpR op_gt (pe_ix ix_list (pv 0) pe_int (fun _ _ => rfl)) pe_int (nomark _)) (pss_cons (ps_set (i := 2) sc_law_take.nd rfl (Or.inl rfl) (pe_op op_mod (pe_callTy call_int1 rfl T.int (by decide +kernel) (pa_cons (pe_ix ix_list (pv 0) pe_int (fun _ _ => rfl)) pa_nil)) (pv 1)))
  (pss_cons (ps_asg (pe_op op_fdiv (pe_ix ix_list (pv 0) pe_int (fun _ _ => rfl)) (pv 1)) (pg_sub (pv 0) pe_int set_list))
  (pss_one (ps_ret (pv 2))))) pss_nil)
  (pss_cons (ps_asg (pe_op op_add (pe_ix ix_list (pv 0) pe_int (fun _ _ => rfl)) pe_int) (pg_sub (pv 0) pe_int set_list))
  (pss_cons (ps_set (i := 3) sc_law_take.nd rfl (Or.inl rfl) (pe_ix ix_list (pe_lst (pa_cons pe_int (pa_cons pe_int (pa_cons pe_int (pa_cons pe_int (pa_cons pe_int pa_nil)))))) (pe_op op_mod (pe_callTy call_int1 rfl T.int (by decide +kernel) (pa_cons (pe_ix ix_list (pv 0) pe_int (fun _ _ => rfl)) pa_nil)) pe_int) (fun _ _ => rfl)))
  (pss_cons (ps_set (i := 4) sc_law_take.nd rfl (Or.inl rfl) (pe_op op_mod (pe_callTy call_int1 rfl T.int (by decide +kernel) (pa_cons (pe_op op_pow (pe_callTy call_int1 rfl T.int (by decide +kernel) (pa_cons (pe_op op_add (pe_op op_add (pe_ix ix_list (pv 0) pe_int (fun _ _ => rfl)) (pe_op op_mul (pe_op op_mul pe_int (pe_ix ix_list (pv 0) pe_int (fun _ _ => rfl))) (pe_ix ix_list (pv 0) pe_int (fun _ _ => rfl)))) pe_int) pa_nil)) pe_int) pa_nil)) (pv 3)))
  (pss_one (ps_ret (pe_op op_mod (pe_callTy call_int1 rfl T.int (by decide +kernel) (pa_cons (pe_op op_fdiv (pe_op op_mul (pv 4) (pe_op op_add (pe_op op_mod (pe_callTy call_int1 rfl T.int (by decide +kernel) (pa_cons (pv 4) pa_nil)) pe_int) (pe_op op_mul pe_int (pe_ix ix_list (pv 0) pe_int (fun _ _ => rfl))))) pe_int) pa_nil)) (pv 1)))))))), ?_⟩
  refine ⟨_, rfl, p, _, _, _, rfl, rfl, .of hp, rfl, _, _, rfl, rfl, _, rfl, ?_⟩
  refine ite2 (fun ca => ?_) (fun ca => ?_)
  · refine ⟨_, rfl, p, _, _, _, rfl, rfl, .of hp, rfl, .inl ⟨_, rfl, _, rfl, _, _, rfl, rfl, h0, ?_⟩⟩
    refine ⟨_, rfl, p, _, _, _, rfl, rfl, .of hp, rfl, _, rfl, _, _, rfl, rfl, ⟨h0, by omega⟩, ?_⟩
    refine ⟨_, rfl, p, _, _, _, rfl, rfl, hp, rfl, ?_⟩
    refine ⟨_, rfl, ?_⟩
    obtain ⟨d, hd, hd2⟩ := modNat a h0
    show Q (V.int (a % u)) _
    rw [hd]
    refine q d _ hd2 ((But.refl _ H).put (by simp)) ?_
    exact ⟨a / u, b, c, upd_same, hb0, hb1, hc0, by omega⟩
  · refine ⟨_, rfl, p, _, _, _, rfl, rfl, .of hp, rfl, _, _, rfl, rfl, ?_⟩
    refine ⟨_, rfl, p, _, _, _, rfl, rfl, hp, rfl, ?_⟩
    have hp1 : upd H p (.lst [V.int a, V.int b, V.int (c + 1)]) p = some (.lst [V.int a, V.int b, V.int (c + 1)]) := upd_same
    have g1 : But [p] H (upd H p (.lst [V.int a, V.int b, V.int (c + 1)])) := (But.refl _ H).put (by simp)
    refine ⟨(by show 5 ≤ sizeLine; decide), fun l hl => ?_⟩
    have g2 := g1.new (o := .lst [V.int 2147483647, V.int 2147483629, V.int 2147483587, V.int 2147483579, V.int 2147483563]) hl
    have np : p ≠ l := ne_of_none hp1 hl
    have hp2 : upd (upd H p (.lst [V.int a, V.int b, V.int (c + 1)])) l (.lst [V.int 2147483647, V.int 2147483629, V.int 2147483587, V.int 2147483579, V.int 2147483563]) p = some (.lst [V.int a, V.int b, V.int (c + 1)]) := by
      rw [upd_ne np]; exact hp1
    obtain ⟨i5, hi5, hi5b⟩ := modNat (c + 1) (show (0 : Int) < 5 by decide)
    obtain ⟨pr, hpr, hpr0, hpr1⟩ : ∃ pr : Int, ([V.int 2147483647, V.int 2147483629, V.int 2147483587, V.int 2147483579, V.int 2147483563] : List V)[i5]? = some (.int pr) ∧ 0 < pr ∧ pr < 2147483648 := by
      have : i5 < 5 := by omega
      match i5, this with
      | 0, _ => exact ⟨_, rfl, by decide, by decide⟩
      | 1, _ => exact ⟨_, rfl, by decide, by decide⟩
      | 2, _ => exact ⟨_, rfl, by decide, by decide⟩
      | 3, _ => exact ⟨_, rfl, by decide, by decide⟩
      | 4, _ => exact ⟨_, rfl, by decide, by decide⟩
    refine ⟨_, rfl, p, _, _, _, rfl, rfl, .of hp2, rfl, .inl ⟨_, rfl, _, _, rfl, rfl, (by show (0 : Int) < 5; decide), ?_⟩⟩
    refine ⟨l, _, (c + 1) % 5, _, rfl, rfl, .of upd_same, (by rw [hi5]; exact atI_nat hpr), ?_⟩
    refine ⟨_, rfl, p, _, _, _, rfl, rfl, .of hp2, rfl, _, rfl, p, _, _, _, rfl, rfl, .of hp2, rfl, _, _, rfl, rfl, .inl (by constructor <;> decide), ?_⟩
    refine ⟨_, rfl, p, _, _, _, rfl, rfl, .of hp2, rfl, _, _, rfl, rfl, .inr (by constructor <;> omega), _, _, rfl, rfl, _, _, rfl, rfl, .inl ⟨_, rfl, _, _, rfl, rfl, ⟨by decide, by decide, ?_⟩, .inl ⟨_, rfl, ?_⟩⟩⟩
    · have hq := sq_le 99887 (c := c + 1) (by omega) (by omega)
      generalize 99887 * (c + 1) * (c + 1) = z at hq ⊢
      omega
    refine ⟨_, rfl, _, _, rfl, rfl, hpr0, ?_⟩
    obtain ⟨bl, hbl, hbl2⟩ := modNat ((b + 99887 * (c + 1) * (c + 1) + 1151) ^ 3) hpr0
    refine ⟨_, rfl, _, rfl, .inl ⟨_, rfl, _, _, rfl, rfl, (by show (0 : Int) < 10645; decide), ?_⟩⟩
    refine ⟨_, rfl, p, _, _, _, rfl, rfl, .of hp2, rfl, _, _, rfl, rfl, .inl (by constructor <;> decide), _, _, rfl, rfl, _, _, rfl, rfl, .inl ?_, ?_⟩
    · show -(2 ^ 64) < (b + 99887 * (c + 1) * (c + 1) + 1151) ^ (Int.toNat 3) % pr ∧ (b + 99887 * (c + 1) * (c + 1) + 1151) ^ (Int.toNat 3) % pr < 2 ^ 64
      have e3 : Int.toNat 3 = 3 := rfl
      rw [e3, hbl]; constructor <;> omega
    refine ⟨_, _, rfl, rfl, ⟨by decide, by decide⟩, .inl ⟨_, rfl, _, rfl, _, _, rfl, rfl, h0, ?_⟩⟩
    refine (fun (z : ∀ x : Int, Q (.int (x % u)) (upd (upd H p (.lst [V.int a, V.int b, V.int (c + 1)])) l (.lst [V.int 2147483647, V.int 2147483629, V.int 2147483587, V.int 2147483579, V.int 2147483563]))) => z _) (fun x => ?_)
    obtain ⟨d, hd, hd2⟩ := modNat x h0
    rw [hd]
    exact q d _ hd2 g2 ⟨a, b, c + 1, hp2, hb0, hb1, by omega, by omega⟩
abbrev s_law_of : Stmt := top 28
theorem sc_law_of : FnScope ["pot", "some"] ["pot", "some"] (defScope s_law_of) := ⟨rfl, rfl, rfl, by decide +kernel, rfl, by decide +kernel, by decide +kernel⟩
theorem ok_law_of (F : Fun K "_law_of" "_law_of" s_law_of f fd) (T : LTx mg) (G_law_take : Fd P w K mg base CX0 "_law_take" 1 ["pot", "upto"] spTake) : FnOk P w K mg base CX0 2 f fd ["pot", "some"] (spOf K) := by
  refine F.ok sc_law_of (fun vs H Q E h => ?_) (fun cdv A outer s H vs Q E hr h => ?_)
  · obtain ⟨p, q, xs, n, rfl, _⟩ := h
    rfl
  obtain ⟨p, q, xs, n, rfl, hS, hne, hx, hx1, hn, hP, k⟩ := h
  refine ⟨_, (pss_one (ps_ret (pe_ix ix_list (pv 1) (pe_fd G_law_take (hr.mono (by first | decide | omega)) rfl (pa_cons (pv 0) (pa_cons (pe_callB call_len rfl T.len (by decide +kernel) (pa_cons (pv 1) pa_nil)) pa_nil))) (fun _ _ => rfl)))), ?_⟩
  have hpos : 0 < xs.length := List.length_pos_iff.mpr hx
  refine ⟨_, rfl, _, rfl, _, rfl, _, xs.length, rfl, .inl ⟨xs, hS, rfl⟩, p, _, n, rfl, by omega, by omega, hn, hP, fun d H' hd g hP' => ?_⟩
  have hdl : d < xs.length := by omega
  refine ⟨q, xs, _, xs[d], rfl, rfl, g.seq hS (by simpa using hne), atI_nat (by simp [hdl]), ?_⟩
  exact k d _ H' (by simp [hdl]) g hP'
abbrev s_law_some : Stmt := top 29
theorem sc_law_some : FnScope ["pot", "pool", "many", "left", "found", "lap"] ["pot", "pool", "many"] (defScope s_law_some) := ⟨rfl, rfl, rfl, by decide +kernel, rfl, by decide +kernel, by decide +kernel⟩
theorem ok_law_some (F : Fun K "_law_some" "_law_some" s_law_some f fd) (T : LTx mg) (G_law_take : Fd P w K mg base CX0 "_law_take" 1 ["pot", "upto"] spTake) : FnOk P w K mg base CX0 2 f fd ["pot", "pool", "many"] (spSome K) := by
  refine F.ok sc_law_some (fun vs H Q E h => ?_) (fun cdv A outer s H vs Q E hr h => ?_)
  · obtain ⟨p, q, xs, m, n, rfl, _⟩ := h
    rfl
  obtain ⟨p, q, xs, m, n, rfl, hS, hm, hx1, hn, hP, k⟩ := h
  refine ⟨_, (pss_cons (ps_par (i := 3) (j := 4) (by rfl) sc_law_some.nd rfl rfl (by decide) rfl rfl (pa_cons (pe_callTy call_list_of rfl T.list (by decide +kernel) (pa_cons (pv 1) pa_nil)) (pa_cons (pe_lst pa_nil) pa_nil)) (by rfl))
  (pss_cons (ps_for PassesOwn.never rfl (pi_range1 rfl T.range (pa_cons (pv 2) pa_nil)) (pg_name (i := 5) sc_law_some.nd rfl (Or.inl rfl)) (pss_one (ps_expr (pe_bm PySem.F.plainAttrs_list PySem.F.slot_list_append PySem.F.type_list_append mt_append (pv 4) (pa_cons (pe_bm PySem.F.plainAttrs_list PySem.F.slot_list_pop PySem.F.type_list_pop mt_popAt (pv 3) (pa_cons (pe_fd G_law_take (hr.mono (by first | decide | omega)) rfl (pa_cons (pv 0) (pa_cons (pe_callB call_len rfl T.len (by decide +kernel) (pa_cons (pv 3) pa_nil)) pa_nil))) pa_nil)) pa_nil)))))
  (pss_one (ps_ret (pv 4))))), ?_⟩
  have hp0 := hP.there
  refine ⟨_, rfl, q, xs, rfl, hS, fun l1 n1 => ?_⟩
  refine ⟨(by show 0 ≤ sizeLine; decide), fun l2 n2 => ⟨_, _, rfl, ?_⟩⟩
  have n2' : H l2 = none := (same_new n1 _).free n2
  have d1 : l1 ≠ l2 := ne_of_none upd_same n2
  have e1 : p ≠ l1 := ne_of_none hp0.choose_spec n1
  have e2 : p ≠ l2 := ne_of_none hp0.choose_spec n2'
  have g0 : But [p] H (upd (upd H l1 (.lst xs)) l2 (.lst [])) := ((But.refl [p] H).new n1).new n2
  refine ⟨_, rfl, _, rfl, by omega, by omega, for_range (lo := 0) (n := m) (fun i σ H' => ∃ ys zs v, σ = [some (.ref p), some (.ref q), some (.int m), some (.ref l1), some (.ref l2), v] ∧ H' l1 = some (.lst zs) ∧ H' l2 = some (.lst ys) ∧ ys.length = i ∧ (ys ++ zs).Perm xs ∧ But [p] H H' ∧ PotAt H' p (n + i)) ?_ ?_ ?_⟩
  · refine ⟨[], xs, _, rfl, ?_, upd_same, rfl, List.Perm.refl _, g0, ?_⟩
    · rw [upd_ne d1]; exact upd_same
    · obtain ⟨a, b, c, h1, h2⟩ := hP
      exact ⟨a, b, c, by rw [upd_ne e2, upd_ne e1]; exact h1, h2⟩
  · rintro i σ H1 hi ⟨ys, zs, v, rfl, hz, hy, hl, hperm, g, hP1⟩
    have hlen : ys.length + zs.length = xs.length := by have := hperm.length_eq; rw [List.length_append] at this; exact this
    refine ⟨_, rfl, .inl ⟨rfl, _, .of hy⟩, _, rfl, .inl ⟨rfl, _, .of hz⟩, _, rfl, _, rfl, _, zs.length, rfl, .inl ⟨zs, .of hz, rfl⟩, p, _, n + i, rfl, by omega, by omega, by omega, hP1, fun d H2 hd g2 hP2 => ?_⟩
    have hdl : d < zs.length := by omega
    have hz2 := g2.at hz (by simpa using Ne.symm e1)
    have hy2 := g2.at hy (by simpa using Ne.symm e2)
    refine ⟨l1, zs, _, d, zs[d], rfl, rfl, hz2, by omega, by omega, by rw [PySem.seqIndex_of (by omega) (by omega)]; simp, by simp [hdl], ?_⟩
    refine ⟨l2, ys, _, rfl, rfl, by rw [upd_ne (Ne.symm d1)]; exact hy2, small1000 (by omega), ?_⟩
    refine ⟨ys ++ [zs[d]], zs.eraseIdx d, _, rfl, ?_, upd_same, by rw [List.length_append, List.length_singleton]; omega, ?_, ?_, ?_⟩
    · rw [upd_ne d1]; exact upd_same
    · have e := erase_perm zs d hdl
      rw [List.append_assoc]
      exact (List.Perm.append_left ys e).trans hperm
    · intro b o nb hb
      have b1 : b ≠ l1 := ne_of_none hb n1
      have b2 : b ≠ l2 := ne_of_none hb n2'
      rw [upd_ne b2, upd_ne b1]
      exact g2 b o nb (g b o nb hb)
    · obtain ⟨a, b, c, h1, h2⟩ := hP2
      exact ⟨a, b, c, by rw [upd_ne e2, upd_ne e1]; exact h1, h2⟩
  · rintro σ H1 ⟨ys, zs, v, rfl, hz, hy, hl, hperm, g, hP1⟩
    refine ⟨_, rfl, ?_⟩
    exact k l2 ys zs H1 hl hperm n2' hy g hP1
abbrev s_law_cells : Stmt := top 30
theorem sc_law_cells : FnScope ["script", "limit"] ["script", "limit"] (defScope s_law_cells) := ⟨rfl, rfl, rfl, by decide +kernel, rfl, by decide +kernel, by decide +kernel⟩
theorem ok_law_cells (F : Fun K "_law_cells" "_law_cells" s_law_cells f fd) (T : LTx mg) : FnOk P w K mg base CX0 1 f fd ["script", "limit"] (spCells K) := by
  refine F.ok sc_law_cells (fun vs H Q E h => ?_) (fun cdv A outer s H vs Q E hr h => ?_)
  · obtain ⟨p, xs, m, rfl, _⟩ := h
    rfl
  obtain ⟨p, xs, m, rfl, hS, hl, hm, k⟩ := h
  refine ⟨_, (pss_one (ps_ret (pe_listRg rfl rfl T.list (prg_1 rfl T.range (pe_callB (call_max2 rfl) rfl T.max (by decide +kernel) (pa_cons pe_int (pa_cons (pe_callB (call_min2 rfl) rfl T.min (by decide +kernel) (pa_cons (pv 1) (pa_cons (pe_callB call_len rfl T.len (by decide +kernel) (pa_cons (pv 0) pa_nil)) pa_nil))) pa_nil))))))), ?_⟩
  refine ⟨_, rfl, _, rfl, _, xs.length, rfl, .inl ⟨_, hS, (List.length_map _).symm⟩, _, _, rfl, _, _, rfl, ?_⟩
  generalize hz : (if (if (xs.length : Int) < (m : Int) then (xs.length : Int) else (m : Int)) > 1 then (if (xs.length : Int) < (m : Int) then (xs.length : Int) else (m : Int)) else 1) = z
  have hz1 : 0 ≤ z ∧ z < 1000 := by subst hz; split <;> (try split) <;> omega
  refine ⟨z, rfl, .of_le (by omega) (by omega) (by omega) (by omega), fun l hln => ?_⟩
  refine k l _ z.toNat (by omega) (same_new hln _) hln ?_
  rw [upd_same]
  unfold rgV
  rw [show (z - 0).toNat = z.toNat by omega]
  simp
abbrev s_law_pot : Stmt := top 26
theorem sc_law_pot : FnScope ["script", "place", "cell", "own", "small"] ["script", "place"] (defScope s_law_pot) := ⟨rfl, rfl, rfl, by decide +kernel, rfl, by decide +kernel, by decide +kernel⟩
theorem ok_law_pot (F : Fun K "_law_pot" "_law_pot" s_law_pot f fd) (T : LTx mg) : FnOk P w K mg base CX0 1 f fd ["script", "place"] (spPot K) := by
  refine F.ok sc_law_pot (fun vs H Q E h => ?_) (fun cdv A outer s H vs Q E hr h => ?_)
  · obtain ⟨p, xs, m, rfl, _⟩ := h
    rfl
  obtain ⟨p, xs, m, rfl, hS, hl, hm, k⟩ := h
  refine ⟨_, (C8.pss_cut (ps_set (i := 2) sc_law_pot.nd rfl (Or.inl rfl) (pe_ifExp (pt_cmpR op_lt (pv 1) (pe_callB call_len rfl T.len (by decide +kernel) (pa_cons (pv 0) pa_nil)) (nomark _)) (pe_ix ix_list (pv 0) (pv 1) (fun _ _ => rfl)) (pe_op op_add (pe_op op_add (pe_op op_mod (pe_callTy call_int1 rfl T.int (by decide +kernel) (pa_cons (pe_callB (cr_sum rfl) rfl T.sum (by decide +kernel) (pa_cons (pe_slice sl_list (pv 0) po_none (po_some pe_int)) pa_nil)) pa_nil)) pe_int) (pe_op op_mul pe_int (pv 1))) pe_int)))
  (pss_cons (ps_set (i := 3) sc_law_pot.nd rfl (Or.inl rfl) (pe_op op_mul (pe_op op_mod (pe_callTy call_int1 rfl T.int (by decide +kernel) (pa_cons (pe_callB call_abs rfl T.abs (by decide +kernel) (pa_cons (pv 2) pa_nil)) pa_nil)) (pe_op op_powB (pe_op op_pow pe_int pe_int) pe_int)) (pe_callTy call_int1 rfl T.int (by decide +kernel) (pa_cons (pe_cmpR op_ge (pe_callB call_abs rfl T.abs (by decide +kernel) (pa_cons (pv 2) pa_nil)) (pe_op op_pow pe_int pe_int) (nomark _)) pa_nil))))
  (pss_cons (ps_set (i := 4) sc_law_pot.nd rfl (Or.inl rfl) (pe_op op_mod (pe_callTy call_int1 rfl T.int (by decide +kernel) (pa_cons (pv 2) pa_nil)) pe_int))
  (pss_one (ps_ret (pe_lst (pa_cons (pv 3) (pa_cons (pe_op op_mod (pe_callTy call_int1 rfl T.int (by decide +kernel) (pa_cons (pe_op op_add (pe_op op_add (pe_op op_mul (pv 4) pe_int) (pe_op op_mul (pe_op op_mul pe_int (pv 1)) (pv 1))) pe_int) pa_nil)) pe_int) (pa_cons pe_int pa_nil))))))))), ?_⟩
  refine ⟨fun σ H1 => ∃ c : Int, σ = [some (.ref p), some (.int m), some (.int c), none, none] ∧ Same H H1, ?_, ?_⟩
  · refine ⟨_, rfl, _, rfl, _, xs.length, rfl, .inl ⟨_, hS, (List.length_map _).symm⟩, _, _, rfl, rfl, _, rfl, ?_⟩
    refine ite2 (fun c => ?_) (fun c => ?_)
    · have c' : m < xs.length := by have := of_decide_eq_true c; omega
      refine ⟨_, rfl, _, rfl, p, _, _, _, rfl, rfl, hS, atI_nat (by rw [List.getElem?_map, List.getElem?_eq_getElem c']; rfl), ?_⟩
      exact ⟨_, rfl, Same.refl _⟩
    · refine ⟨_, rfl, 1, rfl, p, _, rfl, hS, fun l hln => ?_⟩
      have hcut : cutV (xs.map V.int) none (some 1) = (xs.take 1).map V.int := by
        have e1 : HT.sIx (xs.map V.int).length 0 none = 0 := rfl
        have e2 := HT.sIx_nat (xs.map V.int).length (xs.map V.int).length 1
        unfold cutV
        rw [e1, show ((1 : Int)) = ((1 : Nat) : Int) from rfl, e2, List.length_map, List.drop_zero, ← List.map_take]
        cases xs <;> simp
      refine ⟨l, xs.take 1, rfl, .of (by rw [hcut]; exact upd_same), .inl ⟨_, rfl, _, _, rfl, rfl, (by show (0 : Int) < 1000003; decide), ?_⟩⟩
      refine ⟨_, rfl, _, _, rfl, rfl, .inl (by constructor <;> decide), _, _, rfl, rfl, _, _, rfl, rfl, ?_⟩
      exact ⟨_, rfl, same_new hln _⟩
  · rintro σ H1 ⟨c, rfl, g⟩
    refine ⟨_, rfl, _, rfl, .inl ⟨_, rfl, _, _, rfl, rfl, ⟨by decide, by decide, by decide⟩, ?_⟩⟩
    refine ⟨_, _, rfl, rfl, ⟨by decide, bits_ok 200 (by decide +kernel) (by decide) (by decide)⟩, ?_⟩
    refine ⟨_, _, rfl, rfl, (by show (0 : Int) < ((10 : Int) ^ Int.toNat 60) ^ Int.toNat 5; decide +kernel), ?_⟩
    refine ⟨_, rfl, _, rfl, _, _, rfl, rfl, ⟨by decide, by decide, by decide⟩, _, _, rfl, rfl, .inr ⟨_, rfl, _, _, rfl, rfl, .inr (b01 _), ?_⟩⟩
    refine ⟨_, rfl, .inl ⟨_, rfl, _, _, rfl, rfl, (by show (0 : Int) < 2305843009213693951; decide), ?_⟩⟩
    obtain ⟨sm, hs1, hs2⟩ := modNat c (u := 2305843009213693951) (by decide)
    refine ⟨_, rfl, _, rfl, _, _, rfl, rfl, .inr (by constructor <;> decide), _, rfl, _, _, rfl, rfl, .inl (by constructor <;> decide), _, rfl, _, _, rfl, rfl, .inr (by constructor <;> omega), ?_⟩
    refine ⟨_, _, rfl, rfl, _, _, rfl, rfl, .inl ⟨_, rfl, _, _, rfl, rfl, (by show (0 : Int) < 2305843009213693921; decide), ?_⟩⟩
    refine ⟨(by show 3 ≤ sizeLine; decide), fun l hln => ?_⟩
    refine k l _ (fun b o q => same_new hln _ b o (g b o q)) (g.free hln) ?_
    refine ⟨_, _, 0, upd_same, ?_, ?_, Int.le_refl 0, Int.le_refl 0⟩
    · exact Int.emod_nonneg _ (by decide)
    · exact Int.lt_trans (Int.emod_lt_of_pos _ (by decide)) (by decide)
end
end Fp
namespace Fp
open PySem PySem.Spec PyProof.Rows L2
def spIntD : Sp := fun vs H Q _ => ∃ (v : V) (d : Dt) (n : Int), vs = [v, .int 0, .int n] ∧ DV H v d ∧ Q (.bl (inB n d)) H
def spLotOfB : Sp := fun vs H Q _ => ∃ (v : V) (d : Dt) (n : Int), vs = [v, .int n] ∧ DV H v d ∧ ∀ H', Same H H' → Q (.bl (lotOfB n d)) H'
def spLRowD : Sp := fun vs H Q _ => ∃ (n : Nat) (v : V) (d : Dt), vs = [.int n, v] ∧ 1 ≤ n ∧ n ≤ 5 ∧ DV H v d ∧ ∀ H', Same H H' → Q (.bl (lawRowB n d)) H'
theorem lotOfB_lot {n : Int} {d : Dt} (h : lotOfB n d = true) : lotB d = true := by
  cases d with
  | tup es =>
    obtain ⟨h1, h2⟩ := lotOfB_tup.mp h
    exact lotB_tup.mpr ⟨fun x hx => ⟨(h1 x hx).1, (h1 x hx).2.1⟩, h2⟩
  | _ => cases h
section
variable {P : Program} {w : World} {K : PySem.W.Frag} {mg : Str → Option Value} {base : Heap} {f : Addr} {fd : FuncData} {C : Addr}
end
end Fp
namespace Fp
open PySem PySem.Spec PyProof.Rows L2
theorem any_getD {α : Type} {p : α → Bool} {x : α} {l : List α} : ((List.range l.length).any fun i => p (l.getD i x)) = l.any p := by
  have h := all_getD (p := fun y => !p y) (x := x) (l := l)
  rw [List.all_eq_not_any_not, List.all_eq_not_any_not] at h
  simpa using h
theorem any_id_map {α : Type} (f : α → Bool) (l : List α) : (l.map f).any id = l.any f := by rw [List.any_map]; rfl
theorem sum01 (f : Nat → Bool) : ∀ n : Nat, ((List.range n).map fun i => if f i = true then (1 : Int) else 0).sum = (((List.range n).filter f).length : Nat)
  | 0 => rfl
  | n + 1 => by
    rw [List.range_succ, List.map_append, List.sum_append, sum01 f n, List.filter_append, List.length_append]
    cases e : f n <;> simp [e]
section
variable {P : Program} {w : World} {K : PySem.W.Frag} {mg : Str → Option Value} {base : Heap} {f : Addr} {fd : FuncData} {C : Addr}
end
end Fp
/-! rows with hands that have no view; rows that are drawn -/
namespace Fp
open PySem PySem.Spec PyProof.Rows L2
abbrev RowO := List (Option (List Int))
structure OkO (n : Nat) (r : RowO) : Prop where
  len : r.length = n
  up : ∀ (i : Nat) (l : List Int), r[i]? = some (some l) → List.Pairwise (· < ·) l
  rng : ∀ (i : Nat) (l : List Int), r[i]? = some (some l) → ∀ x ∈ l, 0 ≤ x ∧ x < n
  self : ∀ (i : Nat) (l : List Int), r[i]? = some (some l) → (i : Int) ∈ l
  cmp : ∀ (i j : Nat) (l m : List Int), r[i]? = some (some l) → r[j]? = some (some m) → (∀ x ∈ l, x ∈ m) ∨ ∀ x ∈ m, x ∈ l
  fit : ∀ (i j : Nat) (l m : List Int), r[i]? = some (some l) → r[j]? = some (some m) → (i : Int) ∈ m → ∀ x ∈ l, x ∈ m
def oD : Option (List Int) → Dt
  | none => .non
  | some l => lotD l
def rowOD (r : RowO) : Dt := .tup (r.map oD)
theorem oD_some {r : RowO} {i : Nat} {l : List Int} (h : r[i]? = some (some l)) : (r.map oD).getD i .non = lotD l ∧ vwAt (r.map oD) i = l := by
  have e : (r.map oD).getD i .non = lotD l := by rw [List.getD_eq_getElem?_getD, List.getElem?_map, h]; rfl
  exact ⟨e, by unfold vwAt; rw [e, lotOf_lotD]⟩
theorem thr_O {r : RowO} {i : Nat} : i ∈ thr (r.map oD) ↔ ∃ l, r[i]? = some (some l) := by
  rw [mem_thr, List.length_map]
  constructor
  · rintro ⟨h1, h2⟩
    rw [List.getD_eq_getElem?_getD, List.getElem?_map, List.getElem?_eq_getElem h1] at h2
    cases e : r[i] with
    | none => rw [e] at h2; cases h2
    | some l => exact ⟨l, by rw [List.getElem?_eq_getElem h1, e]⟩
  · rintro ⟨l, h⟩
    refine ⟨(List.getElem?_eq_some_iff.mp h).1, ?_⟩
    rw [(oD_some h).1]; rfl
theorem okO_at {n : Nat} (hn : 0 < n) {r : RowO} (R : OkO n r) (h : ∃ (i : Nat) (l : List Int), r[i]? = some (some l)) : atB n (rowOD r) = true := by
  rw [← law_row hn]
  unfold rowOD lawRowB
  dsimp only
  rw [Bool.and_eq_true, Bool.and_eq_true, Bool.and_eq_true, decide_eq_true_eq, List.all_eq_true, List.all_eq_true, List.length_map]
  refine ⟨⟨R.len, ?_⟩, fun i hi => ?_, fun i hi => ?_⟩
  · rw [Bool.not_eq_true', List.all_eq_false]
    obtain ⟨i, l, h⟩ := h
    exact ⟨lotD l, List.mem_map.mpr ⟨some l, List.mem_of_getElem? h, rfl⟩, by simp [lotD, Dt.isNon]⟩
  · obtain ⟨l, h⟩ := thr_O.mp hi
    refine lawVw_iff.mpr ?_
    rw [(oD_some h).1, lotOfB_lotD, lotOf_lotD]
    exact ⟨⟨R.rng i _ h, R.up i _ h⟩, R.self i _ h⟩
  · rw [List.all_eq_true]
    intro j hj
    obtain ⟨l, h⟩ := thr_O.mp hi
    obtain ⟨m, h'⟩ := thr_O.mp hj
    refine pair_iff.mpr ?_
    rw [(oD_some h).2, (oD_some h').2]
    exact ⟨R.cmp i j _ _ h h', R.fit i j _ _ h h'⟩
theorem okO_whole {n : Nat} (hn : 0 < n) {r : RowO} (R : OkO n r) (h : ∀ i, i < n → ∃ l, r[i]? = some (some l)) : wholeB n (rowOD r) = true := by
  unfold wholeB
  rw [okO_at hn R ⟨0, h 0 hn⟩, Bool.true_and, Bool.not_eq_true']
  show (r.map oD).any Dt.isNon = false
  rw [List.any_eq_false]
  intro d hd
  obtain ⟨o, ho, rfl⟩ := List.mem_map.mp hd
  obtain ⟨i, hi⟩ := List.mem_iff_getElem?.mp ho
  obtain ⟨l, hl⟩ := h i (by rw [← R.len]; exact (List.getElem?_eq_some_iff.mp hi).1)
  rw [hi] at hl
  cases hl
  simp [oD, lotD, Dt.isNon]
/-- a row that loses views stays good -/
theorem OkO.less {n : Nat} {r s : RowO} (R : OkO n r) (hl : s.length = n) (h : ∀ (i : Nat) (l : List Int), s[i]? = some (some l) → r[i]? = some (some l)) : OkO n s :=
  ⟨hl, fun i l q => R.up i l (h i l q), fun i l q => R.rng i l (h i l q), fun i l q => R.self i l (h i l q), fun i j l m q q' => R.cmp i j l m (h i l q) (h j m q'), fun i j l m q q' => R.fit i j l m (h i l q) (h j m q')⟩
/-- while a row is drawn: who was seen, and that the views so far are of these -/
structure Drw (n : Nat) (seen left : List Nat) (r : RowO) : Prop where
  ok : OkO n r
  nd : (seen ++ left).Nodup
  lt : ∀ x ∈ seen ++ left, x < n
  sub : ∀ (i : Nat) (l : List Int), r[i]? = some (some l) → ∀ x ∈ l, ∃ a ∈ seen, x = ((a : Nat) : Int)
  has : ∀ i, i ∈ seen ↔ ∃ l, r[i]? = some (some l)
theorem Drw.start {n : Nat} {left : List Nat} (hd : left.Nodup) (lt : ∀ x ∈ left, x < n) : Drw n [] left (List.replicate n none) := by
  have no : ∀ (i : Nat) (l : List Int), (List.replicate n (none : Option (List Int)))[i]? ≠ some (some l) := fun i l h => by
    rw [List.getElem?_replicate] at h
    split at h <;> cases h
  exact ⟨⟨List.length_replicate, fun i l h => (no i l h).elim, fun i l h => (no i l h).elim, fun i l h => (no i l h).elim, fun i j l m h _ => (no i l h).elim, fun i j l m h _ => (no i l h).elim⟩, hd, lt, fun i l h => (no i l h).elim, fun i => ⟨fun h => (by cases h), fun ⟨l, h⟩ => (no i l h).elim⟩⟩
/-- a block of hands gets one view -/
theorem Drw.block {n : Nat} {seen blk left : List Nat} {r s : RowO} {L : List Int} (D : Drw n seen (blk ++ left) r) (hs : s.length = n) (hL : L.Pairwise (· < ·)) (hm : ∀ x : Int, x ∈ L ↔ ∃ a ∈ seen ++ blk, x = ((a : Nat) : Int))
    (h1 : ∀ i ∈ blk, s[i]? = some (some L)) (h2 : ∀ i, i ∉ blk → s[i]? = r[i]?) : Drw n (seen ++ blk) left s := by
  have nd' : ((seen ++ blk) ++ left).Nodup := by rw [List.append_assoc]; exact D.nd
  have lt' : ∀ x ∈ (seen ++ blk) ++ left, x < n := fun x hx => D.lt x (by rw [← List.append_assoc]; exact hx)
  have dis : ∀ i, i ∈ seen → i ∉ blk := fun i hi hb => by
    have := (List.nodup_append.mp (List.nodup_append.mp nd').1).2.2 i hi i hb
    exact this rfl
  have view : ∀ (i : Nat) (l : List Int), s[i]? = some (some l) → (i ∈ blk ∧ l = L) ∨ (i ∉ blk ∧ r[i]? = some (some l)) := fun i l h => by
    by_cases c : i ∈ blk
    · rw [h1 i c] at h
      exact .inl ⟨c, (Option.some.inj (Option.some.inj h)).symm⟩
    · exact .inr ⟨c, (h2 i c) ▸ h⟩
  have old : ∀ (i : Nat) (l : List Int), r[i]? = some (some l) → ∀ x ∈ l, x ∈ L := fun i l h x hx => by
    obtain ⟨a, ha, e⟩ := D.sub i l h x hx
    exact (hm x).mpr ⟨a, List.mem_append_left _ ha, e⟩
  refine ⟨⟨hs, fun i l h => ?_, fun i l h => ?_, fun i l h => ?_, fun i j l m h h' => ?_, fun i j l m h h' hin => ?_⟩, nd', lt', fun i l h => ?_, fun i => ?_⟩
  · rcases view i l h with ⟨_, rfl⟩ | ⟨_, q⟩
    · exact hL
    · exact D.ok.up i l q
  · rcases view i l h with ⟨_, rfl⟩ | ⟨_, q⟩
    · intro x hx
      obtain ⟨a, ha, e⟩ := (hm x).mp hx
      have := lt' a (List.mem_append_left _ ha)
      omega
    · exact D.ok.rng i l q
  · rcases view i l h with ⟨hi, rfl⟩ | ⟨_, q⟩
    · exact (hm _).mpr ⟨i, List.mem_append_right _ hi, rfl⟩
    · exact D.ok.self i l q
  · rcases view i l h with ⟨hi, rfl⟩ | ⟨_, q⟩ <;> rcases view j m h' with ⟨hj, rfl⟩ | ⟨_, q'⟩
    · exact .inl fun x hx => hx
    · exact .inr (old j m q')
    · exact .inl (old i l q)
    · exact D.ok.cmp i j l m q q'
  · rcases view i l h with ⟨hi, rfl⟩ | ⟨_, q⟩ <;> rcases view j m h' with ⟨hj, rfl⟩ | ⟨_, q'⟩
    · exact fun x hx => hx
    · obtain ⟨a, ha, e⟩ := D.sub j m q' _ hin
      have : i = a := by omega
      subst this
      exact absurd hi (dis i ha)
    · exact old i l q
    · exact D.ok.fit i j l m q q' hin
  · rcases view i l h with ⟨_, rfl⟩ | ⟨_, q⟩
    · exact fun x hx => (hm x).mp hx
    · intro x hx
      obtain ⟨a, ha, e⟩ := D.sub i l q x hx
      exact ⟨a, List.mem_append_left _ ha, e⟩
  · rw [List.mem_append, D.has]
    constructor
    · rintro (⟨l, h⟩ | h)
      · by_cases c : i ∈ blk
        · exact ⟨L, h1 i c⟩
        · exact ⟨l, by rw [h2 i c]; exact h⟩
      · exact ⟨L, h1 i h⟩
    · rintro ⟨l, h⟩
      rcases view i l h with ⟨hi, _⟩ | ⟨_, q⟩
      · exact .inr hi
      · exact .inl ⟨l, q⟩
/-- sorted, without doubles -/
theorem srt_lt : ∀ {l : List Int}, l.Pairwise (· ≤ ·) → l.Nodup → l.Pairwise (· < ·)
  | [], _, _ => .nil
  | a :: l, h, d => by
    obtain ⟨h1, h2⟩ := List.pairwise_cons.mp h
    obtain ⟨d1, d2⟩ := List.nodup_cons.mp d
    refine List.pairwise_cons.mpr ⟨fun x hx => ?_, srt_lt h2 d2⟩
    have := h1 x hx
    have ne : a ≠ x := fun e => d1 (by rw [e]; exact hx)
    omega
theorem map_int_nodup {l : List Nat} (h : l.Nodup) : (l.map fun a : Nat => (a : Int)).Nodup := by
  unfold List.Nodup at *
  rw [List.pairwise_map]
  exact h.imp fun h e => h (by omega)
end Fp
namespace Fp
open PySem PySem.Spec PyProof.Rows L2
def spDRow : Sp := fun vs H Q _ => ∃ (p : Addr) (n k : Nat) (wh : Bool), vs = [.ref p, .int n, .bl wh] ∧ 1 ≤ n ∧ n ≤ 5 ∧ k < 100000 ∧ PotAt H p k ∧ ∀ v H' d, But [p] H H' → PotAt H' p (k + 20) → DV H' v d → atB n d = true → (wh = true → wholeB n d = true) → Q v H'
def selF (n : Nat) (S : List Nat) : List Int := (fullL n).filter fun x => S.any fun a => decide (x = (a : Int))
theorem selF_up (n : Nat) (S : List Nat) : (selF n S).Pairwise (· < ·) := (fullL_up n).filter _
theorem selF_mem {n : Nat} {S : List Nat} (h : ∀ a ∈ S, a < n) (x : Int) : x ∈ selF n S ↔ ∃ a ∈ S, x = ((a : Nat) : Int) := by
  unfold selF
  rw [List.mem_filter, List.any_eq_true]
  constructor
  · rintro ⟨_, a, ha, e⟩
    exact ⟨a, ha, of_decide_eq_true e⟩
  · rintro ⟨a, ha, e⟩
    exact ⟨by rw [e]; exact List.mem_map.mpr ⟨a, List.mem_range.mpr (h a ha), rfl⟩, a, ha, decide_eq_true e⟩
theorem selF_eq {n : Nat} {S : List Nat} (h : ∀ a ∈ S, a < n) (hd : S.Nodup) {zs : List Int} (hp : zs.Perm (S.map fun a : Nat => (a : Int))) (hs : zs.Pairwise (· ≤ ·)) : zs = selF n S := by
  refine srt_eq (srt_lt hs (hp.nodup_iff.mpr (map_int_nodup hd))) (selF_up n S) fun x => ?_
  rw [hp.mem_iff, List.mem_map, selF_mem h]
  exact ⟨fun ⟨a, h1, h2⟩ => ⟨a, h1, h2.symm⟩, fun ⟨a, h1, h2⟩ => ⟨a, h1, h2.symm⟩⟩
theorem but_none {p x : Addr} {k : Nat} {H H' : Hp} (g : But [p] H H') (hP : PotAt H' p k) (h : H' x = none) : H x = none ∧ x ≠ p := by
  have ne : x ≠ p := fun z => by
    obtain ⟨a, b, c, e, _⟩ := hP
    rw [z, e] at h; cases h
  cases e : H x with
  | none => exact ⟨rfl, ne⟩
  | some o => rw [g x o (by simpa using ne) e] at h; cases h
theorem pot_sm {H H' : Hp} {p : Addr} {n : Nat} (g : Same H H') (h : PotAt H p n) : PotAt H' p n := by
  obtain ⟨a, b, c, e, r⟩ := h
  exact ⟨a, b, c, g _ _ e, r⟩
theorem but_put {p x : Addr} {H H' : Hp} {o : HO} (g : But [p] H H') (h : H x = none) : But [p] H (upd H' x o) := fun b u nb q => by
  rw [upd_ne (ne_of_none q h)]; exact g b u nb q
theorem pot_put {p x : Addr} {H : Hp} {n : Nat} {o : HO} (h : PotAt H p n) (ne : x ≠ p) : PotAt (upd H x o) p n := by
  obtain ⟨a, b, c, e, r⟩ := h
  exact ⟨a, b, c, by rw [upd_ne (Ne.symm ne)]; exact e, r⟩
abbrev iL (l : List Nat) : List V := l.map fun a : Nat => V.int (a : Int)
theorem rgV_iL (n : Nat) : rgV 0 (n : Int) = iL (List.range n) := by
  unfold rgV iL
  rw [show ((n : Int) - 0).toNat = n by omega]
  exact List.map_congr_left fun i _ => by rw [Int.zero_add]
theorem perm_iL {ys zs : List V} {l : List Nat} (h : (ys ++ zs).Perm (iL l)) : ∃ l1 l2, ys = iL l1 ∧ zs = iL l2 ∧ (l1 ++ l2).Perm l := by
  have nat : ∀ {xs : List V}, (∀ x ∈ xs, ∃ a : Nat, x = .int (a : Int)) → ∃ l, xs = iL l := fun {xs} => by
    induction xs with
    | nil => exact fun _ => ⟨[], rfl⟩
    | cons x r ih =>
      intro hx
      obtain ⟨a, rfl⟩ := hx x List.mem_cons_self
      obtain ⟨l, rfl⟩ := ih fun y hy => hx y (List.mem_cons_of_mem _ hy)
      exact ⟨a :: l, rfl⟩
  have all : ∀ x ∈ ys ++ zs, ∃ a : Nat, x = .int (a : Int) := fun x hx => by
    obtain ⟨a, _, e⟩ := List.mem_map.mp (h.mem_iff.mp hx)
    exact ⟨a, e.symm⟩
  obtain ⟨l1, rfl⟩ := nat fun x hx => all x (List.mem_append_left _ hx)
  obtain ⟨l2, rfl⟩ := nat fun x hx => all x (List.mem_append_right _ hx)
  refine ⟨l1, l2, rfl, rfl, ?_⟩
  have := h.map fun v : V => match v with
    | .int i => i.toNat
    | _ => 0
  unfold iL at this
  rw [← List.map_append, List.map_map, List.map_map] at this
  have e : ∀ m : List Nat, m.map ((fun v : V => match v with
    | .int i => i.toNat
    | _ => 0) ∘ fun a : Nat => V.int (a : Int)) = m := fun m => (List.map_congr_left fun a _ => by show ((a : Int)).toNat = a; omega).trans (List.map_id m)
  rw [e, e] at this
  exact this
theorem dvs_non (H : Hp) : ∀ n : Nat, DVs H (List.replicate n .non) (List.replicate n .non)
  | 0 => .nil
  | n + 1 => .cons .non (dvs_non H n)
theorem ixN_nat {n h : Nat} (hh : h < n) : ixN n (h : Int) = some h := by
  unfold ixN
  rw [if_pos (by omega), if_pos (by omega)] <;> simp
section
variable {P : Program} {w : World} {K : PySem.W.Frag} {mg : Str → Option Value} {base : Heap} {f : Addr} {fd : FuncData} {C : Addr}
abbrev s_law_drawn_row : Stmt := top 31
theorem sc_law_drawn_row : FnScope ["pot", "many", "is_whole_v", "few", "left", "seen", "row", "lap", "block", "hand", "there"] ["pot", "many", "is_whole_v"] (defScope s_law_drawn_row) := ⟨rfl, rfl, rfl, by decide +kernel, rfl, by decide +kernel, by decide +kernel⟩
theorem ok_law_drawn_row (F : Fun K "_law_drawn_row" "_law_drawn_row" s_law_drawn_row f fd) (T : RTx mg) (G_law_take : Fd P w K mg base CX0 "_law_take" 1 ["pot", "upto"] spTake) (G_law_some : Fd P w K mg base CX0 "_law_some" 2 ["pot", "pool", "many"] (spSome K)) : FnOk P w K mg base CX0 3 f fd ["pot", "many", "is_whole_v"] spDRow := by
  refine F.ok sc_law_drawn_row (fun vs H Q E h => ?_) (fun cdv A outer s H vs Q E hr h => ?_)
  · obtain ⟨p, n, k, wh, rfl, _⟩ := h
    rfl
  obtain ⟨p, n, k, wh, rfl, h1, h5, hk, hP, q⟩ := h
  refine ⟨_, (pss_cons (ps_set (i := 3) sc_law_drawn_row.nd rfl (Or.inl rfl) (pe_mid (pe_ifExp (pt_truth (pv 2) (by intro _; rfl)) (pv 1) (pe_op op_add pe_int (pe_fd G_law_take (hr.mono (by first | decide | omega)) rfl (pa_cons (pv 0) (pa_cons (pv 1) pa_nil)))))))
  (pss_cons (ps_asg (pe_tup (pa_cons (pe_fd G_law_some (hr.mono (by first | decide | omega)) rfl (pa_cons (pv 0) (pa_cons (pe_listRg rfl rfl T.list (prg_1 rfl T.range (pv 1))) (pa_cons (pv 3) pa_nil)))) (pa_cons (pe_lst pa_nil) (pa_cons (pe_op op_rep (pe_lst (pa_cons pe_non pa_nil)) (pv 1)) pa_nil)))) (pg_tup rfl (pgs_cons (pg_name (i := 4) sc_law_drawn_row.nd rfl (Or.inl rfl)) (pgs_cons (pg_name (i := 5) sc_law_drawn_row.nd rfl (Or.inl rfl)) (pgs_cons (pg_name (i := 6) sc_law_drawn_row.nd rfl (Or.inr rfl)) pgs_nil)))))
  (pss_cons (ps_for PassesOwn.never rfl (pi_range1 rfl T.range (pa_cons (pv 1) pa_nil)) (pg_name (i := 7) sc_law_drawn_row.nd rfl (Or.inl rfl)) (pss_cons (ps_set (i := 8) sc_law_drawn_row.nd rfl (Or.inl rfl) (pe_slice sl_list (pv 4) po_none (po_some (pe_op op_add pe_int (pe_fd G_law_take (hr.mono (by first | decide | omega)) rfl (pa_cons (pv 0) (pa_cons (pe_callB (call_max2 rfl) rfl T.max (by decide +kernel) (pa_cons pe_int (pa_cons (pe_callB call_len rfl T.len (by decide +kernel) (pa_cons (pv 4) pa_nil)) pa_nil))) pa_nil)))))))
  (pss_cons (ps_par (i := 4) (j := 5) (by rfl) sc_law_drawn_row.nd rfl rfl (by decide) rfl rfl (pa_cons (pe_slice sl_list (pv 4) (po_some (pe_callB call_len rfl T.len (by decide +kernel) (pa_cons (pv 8) pa_nil))) po_none) (pa_cons (pe_op op_cat (pv 5) (pv 8)) pa_nil)) (by rfl))
  (pss_one (ps_for PassesOwn.never rfl (pi_list (pv 8)) (pg_name (i := 9) sc_law_drawn_row.nd rfl (Or.inl rfl)) (pss_one (ps_asg (pe_callTy call_tuple_of rfl T.tuple (by decide +kernel) (pa_cons (pe_callB cr_sorted rfl T.sorted (by decide +kernel) (pa_cons (pv 5) pa_nil)) pa_nil)) (pg_sub (pv 6) (pv 9) set_list))))))))
  (pss_cons (ps_setLc (i := 10) (own := [("hand", 9)]) (g := (gName 9))  rfl sc_law_drawn_row.nd rfl rfl (sw_true rfl rfl rfl (by decide +kernel)) (pi_range1 rfl T.range (pa_cons (pv 1) pa_nil)) (blkOk_by (own := [("hand", 9)]) (N := ["pot", "many", "is_whole_v", "few", "left", "seen", "row", "lap", "block", "hand", "there"]) (sc := defScope s_law_drawn_row) (by decide +kernel)) (fun _ _ _ _ _ => (pg_name (i := 9) sc_law_drawn_row.nd rfl (Or.inl rfl))) (fun _ _ _ _ _ => (pts_one (pt_cmpR op_notN (pe_ix ix_listK (pv 6) (pv 9) (fun _ _ => rfl)) pe_non (nomark _)))) (fun _ _ _ _ _ => (pv 9)))
  (pss_cons (ps_for PassesOwn.never rfl (pi_list (pe_mid (pe_ifExp (pt_truth (pv 2) (by intro _; rfl)) (pe_lst pa_nil) (pe_fd G_law_some (hr.mono (by first | decide | omega)) rfl (pa_cons (pv 0) (pa_cons (pv 10) (pa_cons (pe_fd G_law_take (hr.mono (by first | decide | omega)) rfl (pa_cons (pv 0) (pa_cons (pe_callB call_len rfl T.len (by decide +kernel) (pa_cons (pv 10) pa_nil)) pa_nil))) pa_nil))))))) (pg_name (i := 9) sc_law_drawn_row.nd rfl (Or.inl rfl)) (pss_one (ps_asg pe_non (pg_sub (pv 6) (pv 9) set_list))))
  (pss_one (ps_ret (pe_callTy call_tuple_of rfl T.tuple (by decide +kernel) (pa_cons (pv 6) pa_nil))))))))), ?_⟩
  refine ⟨fun v H' => ∃ m : Nat, v = .int m ∧ 1 ≤ m ∧ m ≤ n ∧ (wh = true → m = n) ∧ But [p] H H' ∧ PotAt H' p (k + 1), ?_, ?_⟩
  · refine ⟨_, rfl, wh, rfl, ite2 (fun c => ⟨_, rfl, n, rfl, h1, Nat.le_refl _, fun _ => rfl, But.refl _ _, hP.mono (by omega)⟩) (fun c => ?_)⟩
    refine ⟨_, rfl, _, rfl, p, n, k, rfl, by omega, by omega, by omega, hP, fun d H' hd g hp => ⟨_, _, rfl, rfl, d + 1, ?_, by omega, by omega, fun z => absurd z c, g, hp⟩⟩
    show V.int (1 + (d : Int)) = V.int ((d + 1 : Nat) : Int)
    congr 1
    omega
  rintro y H1 ⟨m, rfl, hm1, hmn, hwm, g1, hP1⟩
  refine g_set ?_
  refine nx_in ?_
  refine seq_in ?_
  refine ⟨_, rfl, _, rfl, n, rfl, .of_le (by omega) (by omega) (by omega) (by omega), fun rg nrg => ?_⟩
  have s1 := same_new nrg (.lst (rgV 0 (n : Int)))
  have hP2 := pot_sm s1 hP1
  refine ⟨_, rfl, p, rg, rgV 0 (n : Int), m, k + 1, rfl, .inl (.of upd_same), by rw [rgV_length]; omega, by rw [rgV_length]; omega, by omega, hP2, fun l ys zs H2 hyl hperm nl hl g2 hP3 => ?_⟩
  rw [rgV_iL] at hperm
  obtain ⟨left0, dropped, rfl, rfl, hpm⟩ := perm_iL hperm
  have gA : But [p] H H2 := (g1.trans (.of s1)).trans g2
  have nlP := but_none ((g1.trans (.of s1))) hP2 nl
  refine ⟨szl (by show 0 ≤ _; decide), fun sn0 nsn0 => ⟨szl (by show 1 ≤ _; decide), fun r1 nr1 => ⟨_, rfl, r1, n, [.non], rfl, rfl, upd_same, by omega, by omega, szl (by show 1 * n ≤ _; omega), fun rw nrw => ?_⟩⟩⟩
  have erep : (List.replicate (n : Int).toNat [V.non]).flatten = List.replicate n V.non := by
    rw [Int.toNat_natCast]
    simp
  rw [erep]
  have s2 := same_new nsn0 (.lst [])
  have s3 := same_new nr1 (.lst [.non])
  have s4 := same_new nrw (.lst (List.replicate n V.non))
  have hPA : PotAt H2 p (k + 6) := hP3.mono (by omega)
  have nsn := but_none gA hPA nsn0
  have nrw' := but_none (gA.trans (.of (s2.trans s3))) (pot_sm (s2.trans s3) hPA) nrw
  have hl4 := s4 _ _ (s3 _ _ (s2 _ _ hl))
  have hsn4 := s4 _ _ (s3 _ _ (upd_same (H := H2) (a := sn0) (o := .lst [])))
  have hrw4 : upd (upd (upd H2 sn0 (.lst [])) r1 (.lst [.non])) rw (.lst (List.replicate n V.non)) rw = some (.lst (List.replicate n V.non)) := upd_same
  have rwl : rw ≠ l := Ne.symm (ne_of_none (s3 _ _ (s2 _ _ hl)) nrw)
  have rwsn : rw ≠ sn0 := Ne.symm (ne_of_none (s3 _ _ (upd_same (H := H2) (a := sn0) (o := .lst []))) nrw)
  have gB : But [p] H _ := gA.trans (.of ((s2.trans s3).trans s4))
  have hPB := pot_sm ((s2.trans s3).trans s4) hPA
  generalize upd (upd (upd H2 sn0 (.lst [])) r1 (.lst [.non])) rw (.lst (List.replicate n V.non)) = H4 at hl4 hsn4 hrw4 gB hPB ⊢
  refine ⟨szl (by show 3 ≤ _; decide), fun t3 nt3 => ⟨t3, _, rfl, .of upd_same, rfl, _, _, rfl, _, _, rfl, _, _, rfl, rfl, ?_⟩⟩
  have s5 := same_new nt3 (.tup [.ref l, .ref sn0, .ref rw])
  refine nx_in ?_
  refine seq_in ?_
  have hlen0 : left0.length = m := by rw [← hyl]; exact (List.length_map _).symm
  have nd0 : (left0 ++ dropped).Nodup := hpm.nodup_iff.mpr List.nodup_range
  have lt0 : ∀ x ∈ left0, x < n := fun x hx => List.mem_range.mp (hpm.mem_iff.mp (List.mem_append_left _ hx))
  refine ⟨_, rfl, (n : Int), rfl, by omega, by omega, for_range (lo := 0) (n := n) (fun i σ H' => ∃ (lf sn : Addr) (u7 u8 u9 : Option V) (seen left : List Nat) (r : RowO) (vs : List V), σ = [some (.ref p), some (.int n), some (.bl wh), some (.int m), some (.ref lf), some (.ref sn), some (.ref rw), u7, u8, u9, none] ∧ But [p] H H' ∧ PotAt H' p (k + 6 + i) ∧ rw ≠ lf ∧ rw ≠ sn ∧ lf ≠ p ∧ sn ≠ p ∧
    H' lf = some (.lst (iL left)) ∧ H' sn = some (.lst (iL seen)) ∧ H' rw = some (.lst vs) ∧ DVs H' vs (r.map oD) ∧ Drw n seen left r ∧ seen.length + left.length = m ∧ left.length ≤ m - i) ?_ ?_ ?_⟩
  · refine ⟨l, sn0, none, none, none, [], left0, List.replicate n none, List.replicate n .non, rfl, gB.trans (.of s5), pot_sm s5 hPB, rwl, rwsn, nlP.2, nsn.2, s5 _ _ hl4, s5 _ _ hsn4, s5 _ _ hrw4, ?_, Drw.start (List.nodup_append.mp nd0).1 lt0, by rw [hlen0]; exact Nat.zero_add _, by rw [hlen0]; omega⟩
    rw [List.map_replicate]
    exact dvs_non _ n
  · rintro i σ H5 hi ⟨lf, sn, u7, u8, u9, seen, left, r, vs, rfl, g5, hP5, rwlf, rwsn, lfp, snp, hlf, hsn, hrw, hvs, D, hsl, hll⟩
    refine g_set ?_
    refine seq_in ?_
    refine ⟨_, rfl, ?_⟩
    refine noP_in ?_
    refine ⟨_, rfl, _, rfl, _, (iL left).length, rfl, .inl ⟨_, .of hlf, rfl⟩, _, _, rfl, p, _, k + 6 + i, rfl, ?_, ?_, by omega, hP5, fun d H6 hd g6 hP6 => ?_⟩
    · split <;> omega
    · rw [List.length_map]
      have : left.length ≤ 5 := by omega
      split <;> omega
    have hlf6 := g6 _ _ (by simpa using lfp) hlf
    refine ⟨_, _, rfl, rfl, _, rfl, lf, _, rfl, .of hlf6, fun bk nbk => ?_⟩
    have s7 := same_new nbk (.lst (cutV (iL left) none (some (1 + (d : Int)))))
    have eblk : cutV (iL left) none (some (1 + (d : Int))) = iL (left.take (d + 1)) := by
      rw [show (1 + (d : Int)) = ((d + 1 : Nat) : Int) by omega, cutA_to, ← List.map_take]
    rw [eblk] at s7 ⊢
    generalize hblk : left.take (d + 1) = blk at s7 ⊢
    have hspl : left = blk ++ left.drop blk.length := by
      rw [← hblk, List.length_take]
      rcases Nat.le_total (d + 1) left.length with z | z
      · rw [Nat.min_eq_left z, List.take_append_drop]
      · rw [Nat.min_eq_right z, List.take_of_length_le z, List.drop_length, List.append_nil]
    have hbl : 0 < left.length → 0 < blk.length := fun z => by rw [← hblk, List.length_take]; omega
    generalize hrest : left.drop blk.length = rest at hspl
    have hll2 : left.length = blk.length + rest.length := by rw [hspl, List.length_append]
    have g7 := g5.trans (g6.trans (.of s7))
    have nbk' := but_none (g5.trans g6) hP6 nbk
    have hP7 := pot_sm s7 hP6
    have rwp : rw ≠ p := nrw'.2
    have rwbk : rw ≠ bk := ne_of_none (g6 _ _ (by simpa using rwp) hrw) nbk
    have hlf7 := s7 _ _ hlf6
    have hsn7 := s7 _ _ (g6 _ _ (by simpa using snp) hsn)
    have hrw7 := s7 _ _ (g6 _ _ (by simpa using rwp) hrw)
    have hvs7 := (hvs.kd (.pot g6 hP5 hP6)).same s7
    have hbk7 : upd H6 bk (.lst (iL blk)) bk = some (.lst (iL blk)) := upd_same
    generalize upd H6 bk (.lst (iL blk)) = H7 at hlf7 hsn7 hrw7 hvs7 hbk7 g7 hP7 ⊢
    refine g_set ?_
    refine nx_in ?_
    refine seq_in ?_
    refine ⟨_, rfl, _, rfl, _, (iL blk).length, rfl, .inl ⟨_, .of hbk7, rfl⟩, _, rfl, ?_⟩
    refine noP_in ?_
    refine ⟨lf, _, rfl, .of hlf7, fun lf2 nlf2 => ?_⟩
    have erst : cutV (iL left) (some (((iL blk).length : Nat) : Int)) none = iL rest := by
      rw [cutA_from, List.length_map, ← List.map_drop, hrest]
    rw [erst]
    have s8 := same_new nlf2 (.lst (iL rest))
    refine ⟨_, rfl, _, rfl, sn, bk, _, _, rfl, rfl, s8 _ _ hsn7, s8 _ _ hbk7, szl (by rw [List.length_map, List.length_map]; omega), fun sn2 nsn2 => ?_⟩
    have ecat : iL seen ++ iL blk = iL (seen ++ blk) := List.map_append.symm
    rw [ecat]
    have s9 := same_new nsn2 (.lst (iL (seen ++ blk)))
    have nlf2' := but_none g7 hP7 nlf2
    have nsn2' := but_none (g7.trans (.of s8)) (pot_sm s8 hP7) nsn2
    have rwlf2 : rw ≠ lf2 := ne_of_none hrw7 nlf2
    have rwsn2 : rw ≠ sn2 := ne_of_none (s8 _ _ hrw7) nsn2
    have g9 := g7.trans (.of (s8.trans s9))
    have hP9 := pot_sm (s8.trans s9) hP7
    have hlf9 := s9 _ _ (upd_same (H := H7) (a := lf2) (o := .lst (iL rest)))
    have hbk9 := s9 _ _ (s8 _ _ hbk7)
    have hrw9 := s9 _ _ (s8 _ _ hrw7)
    have hvs9 := hvs7.same (s8.trans s9)
    have hsn9 : upd (upd H7 lf2 (.lst (iL rest))) sn2 (.lst (iL (seen ++ blk))) sn2 = some (.lst (iL (seen ++ blk))) := upd_same
    generalize upd (upd H7 lf2 (.lst (iL rest))) sn2 (.lst (iL (seen ++ blk))) = H9 at hlf9 hbk9 hrw9 hvs9 hsn9 g9 hP9 ⊢
    refine ⟨_, _, rfl, ?_⟩
    have D' : Drw n seen (blk ++ rest) r := by rw [← hspl]; exact D
    have nd' : (seen ++ blk).Nodup := by
      have := D'.nd
      rw [← List.append_assoc] at this
      exact (List.nodup_append.mp this).1
    have lt' : ∀ x ∈ seen ++ blk, x < n := fun x hx => D'.lt x (by rw [← List.append_assoc]; exact List.mem_append_left _ hx)
    have hsb : (seen ++ blk).length ≤ 5 := by rw [List.length_append]; omega
    refine nx_in ?_
    refine ⟨_, rfl, bk, rfl, ⟨_, .of hbk9⟩, for_list (K := K) (a := bk) (xs := iL blk) (fun t σ H' => ∃ (u9 : Option V) (rt : RowO) (vt : List V), σ = [some (.ref p), some (.int n), some (.bl wh), some (.int m), some (.ref lf2), some (.ref sn2), some (.ref rw), some (.int (0 + (i : Nat))), some (.ref bk), u9, none] ∧ But [p] H H' ∧ PotAt H' p (k + 6 + i + 1) ∧
      H' bk = some (.lst (iL blk)) ∧ H' lf2 = some (.lst (iL rest)) ∧ H' sn2 = some (.lst (iL (seen ++ blk))) ∧ H' rw = some (.lst vt) ∧ DVs H' vt (rt.map oD) ∧ rt.length = n ∧ (∀ j ∈ blk.take t, rt[j]? = some (some (selF n (seen ++ blk)))) ∧ ∀ j, j ∉ blk.take t → rt[j]? = r[j]?) ?_ ?_ ?_ ?_⟩
    · exact ⟨_, r, vs, rfl, g9, hP9, hbk9, hlf9, hsn9, hrw9, hvs9, D.ok.len, fun j hj => (by cases hj), fun _ _ => rfl⟩
    · rintro t σ H' ht ⟨u9, rt, vt, rfl, _, _, h, _⟩
      exact .of h
    · rintro t x σ H10 hx ⟨u9, rt, vt, rfl, g10, hP10, hbk10, hlf10, hsn10, hrw10, hvt, hrl, hin, hout⟩
      rw [List.getElem?_map] at hx
      obtain ⟨h, hh, rfl⟩ := Option.map_eq_some_iff.mp hx
      have hhb := List.mem_of_getElem? hh
      have hhn : h < n := lt' h (List.mem_append_right _ hhb)
      refine g_set ?_
      refine ⟨_, rfl, sn2, (seen ++ blk).map fun a : Nat => (a : Int), rfl, .of (by rw [hsn10, List.map_map]; rfl), by rw [List.length_map]; omega, fun zs q1 hzp hzs nq1 => ?_⟩
      have ez := selF_eq lt' nd' hzp hzs
      subst ez
      have s11 := same_new nq1 (.lst ((selF n (seen ++ blk)).map V.int))
      refine ⟨q1, _, rfl, .inl ⟨.of upd_same, fun tp ntp => ?_⟩⟩
      have s12 := same_new ntp (.tup ((selF n (seen ++ blk)).map V.int))
      have s := s11.trans s12
      have hrw12 := s _ _ hrw10
      have hvl : vt.length = n := by rw [hvt.len, List.length_map, hrl]
      refine ⟨_, rfl, _, rfl, rw, vt, _, h, rfl, rfl, hrw12, by rw [hvl]; exact ixN_nat hhn, ?_⟩
      have hLl : (selF n (seen ++ blk)).length ≤ 1000 := by
        have := hzp.length_eq
        rw [List.length_map] at this
        omega
      have dl : DV (upd (upd H10 q1 (.lst ((selF n (seen ++ blk)).map V.int))) tp (.tup ((selF n (seen ++ blk)).map V.int))) (.ref tp) (lotD (selF n (seen ++ blk))) := .tup upd_same (dvs_ints _ _) (by rw [List.length_map]; exact hLl)
      have kp := DKp.put (ys := vt.set h (.ref tp)) hrw12
      refine ⟨_, rt.set h (some (selF n (seen ++ blk))), _, rfl, but_put (g10.trans (.of s)) nrw'.1, pot_put (pot_sm s hP10) rwp, by rw [upd_ne (Ne.symm rwbk)]; exact s _ _ hbk10, by rw [upd_ne (Ne.symm rwlf2)]; exact s _ _ hlf10, by rw [upd_ne (Ne.symm rwsn2)]; exact s _ _ hsn10, upd_same, ?_, by rw [List.length_set]; exact hrl, fun j hj => ?_, fun j hj => ?_⟩
      · rw [List.map_set]
        exact DVs.set (dl.kd kp) ((hvt.same s).kd kp)
      · rw [List.take_add_one, hh, Option.toList_some, List.mem_append, List.mem_singleton] at hj
        by_cases e : h = j
        · subst e
          rw [List.getElem?_set_self (by rw [hrl]; exact hhn)]
        · rw [List.getElem?_set_ne e]
          exact hin j (hj.resolve_right (fun z => e z.symm))
      · rw [List.take_add_one, hh, Option.toList_some, List.mem_append, List.mem_singleton] at hj
        have e : h ≠ j := fun z => hj (.inr z.symm)
        rw [List.getElem?_set_ne e]
        exact hout j fun z => hj (.inl z)
    · rintro σ H10 ⟨u9, rt, vt, rfl, g10, hP10, hbk10, hlf10, hsn10, hrw10, hvt, hrl, hin, hout⟩
      have et : blk.take (iL blk).length = blk := by rw [List.length_map, List.take_length]
      rw [et] at hin hout
      have D2 := Drw.block (s := rt) (L := selF n (seen ++ blk)) D' hrl (selF_up _ _) (selF_mem lt') hin hout
      refine ⟨lf2, sn2, _, _, _, seen ++ blk, rest, rt, vt, rfl, g10, hP10, rwlf2, rwsn2, nlf2'.2, nsn2'.2, hlf10, hsn10, hrw10, hvt, D2, by rw [List.length_append]; omega, ?_⟩
      by_cases z : 0 < left.length
      · have := hbl z
        omega
      · omega
  · rintro σ H5 ⟨lf, sn, u7, u8, u9, seen, left, r, vs, rfl, g5, hP5, _, _, _, _, _, _, hrw, hvs, D, hsl, hll⟩
    have rwp : rw ≠ p := nrw'.2
    have hvl : vs.length = n := by rw [hvs.len, List.length_map, D.ok.len]
    refine nx_in ?_
    refine seq_in ?_
    refine ⟨_, rfl, (n : Int), rfl, by omega, by omega, fun DD hDD => ?_⟩
    refine lc_it (walk_range (lo := 0) (n := n)) (fun i H' => Same H5 H' ∧ H' DD = some (.lst (iL ((List.range i).filter fun j => (r.getD j none).isSome)))) ⟨same_new hDD _, upd_same⟩ (fun _ _ _ _ => True.intro) ?_ ?_
    · rintro i x H6 H7 hi ⟨g6, h6⟩ ⟨rfl, rfl⟩
      have hirr : i < r.length := by rw [D.ok.len]; exact hi
      have hri : r[i]? = some r[i] := List.getElem?_eq_getElem hirr
      obtain ⟨v, hv, dv⟩ := DVs.get hvs (show (r.map oD)[i]? = some (oD r[i]) by rw [List.getElem?_map, hri]; rfl)
      have en := dv.non_iff
      have eg : r.getD i none = r[i] := by rw [List.getD_eq_getElem?_getD, hri]; rfl
      have fl : ((List.range i).filter fun j => (r.getD j none).isSome).length ≤ i := Nat.le_trans (List.length_filter_le _ _) (by rw [List.length_range]; exact Nat.le_refl _)
      refine ⟨rfl, _, rfl, _, rfl, rw, vs, _, v, rfl, rfl, .of (g6 _ _ hrw), (by rw [Int.zero_add]; exact atI_nat hv), rfl, _, rfl, ?_⟩
      cases e : r[i] with
      | none =>
        rw [e] at en eg
        refine ite_no (by rw [en]; rfl) ⟨g6, ?_⟩
        rw [h6, List.range_succ, List.filter_append, List.filter_cons, eg]
        simp
      | some L =>
        rw [e] at en eg
        refine ite_yes (by rw [en]; rfl) ⟨_, rfl, _, h6, szt (by rw [List.length_map]; omega), fun o u ho => ?_, ?_⟩
        · rw [upd_ne (ne_of_none ho hDD)]; exact g6 _ _ ho
        · rw [upd_same, List.range_succ, List.filter_append, List.filter_cons, eg]
          show some (HO.lst (iL _ ++ [V.int (0 + (i : Int))])) = some (HO.lst (iL (_ ++ [i])))
          rw [Int.zero_add]
          unfold iL
          rw [List.map_append]; rfl
    rintro H6 ⟨g6, h6⟩
    generalize hth : ((List.range n).filter fun j => (r.getD j none).isSome) = th at h6
    have thm : ∀ j, j ∈ th ↔ j < n ∧ ∃ L, r[j]? = some (some L) := fun j => by
      rw [← hth, List.mem_filter, List.mem_range]
      constructor
      · rintro ⟨a, b⟩
        refine ⟨a, ?_⟩
        have hjrr : j < r.length := by rw [D.ok.len]; exact a
        have hri : r[j]? = some r[j] := List.getElem?_eq_getElem hjrr
        rw [List.getD_eq_getElem?_getD, hri] at b
        cases e : r[j] with
        | none => rw [e] at b; cases b
        | some L => exact ⟨L, by rw [hri, e]⟩
      · rintro ⟨a, L, b⟩
        exact ⟨a, by rw [List.getD_eq_getElem?_getD, b]; rfl⟩
    have thn : th.Nodup := by rw [← hth]; exact List.Pairwise.filter _ List.nodup_range
    have thl : th.length ≤ 5 := by
      rw [← hth]
      exact Nat.le_trans (List.length_filter_le _ _) (by rw [List.length_range]; exact h5)
    have hth0 : 0 < th.length := by
      cases seen with
      | nil => simp at hsl; omega
      | cons a b =>
        have ha : a ∈ a :: b := List.mem_cons_self
        exact List.length_pos_of_mem ((thm a).mpr ⟨D.lt a (List.mem_append_left _ ha), (D.has a).mp ha⟩)
    have g56 := g5.trans (.of g6)
    have hP6 := pot_sm g6 hP5
    have nDD := but_none g5 hP5 hDD
    have hrw6 := g6 _ _ hrw
    have hvs6 := hvs.same g6
    refine g_set ?_
    refine nx_in ?_
    refine seq_in ?_
    refine ⟨fun y H' => ∃ (zl : Addr) (zs : List Nat), y = .ref zl ∧ H' zl = some (.lst (iL zs)) ∧ (∀ x ∈ zs, x ∈ th) ∧ zs.length < th.length ∧ (wh = true → zs = []) ∧ But [p] H H' ∧ PotAt H' p (k + 20) ∧ rw ≠ zl ∧ H' rw = some (.lst vs) ∧ DVs H' vs (r.map oD), ?_, ?_⟩
    · refine ⟨_, rfl, wh, rfl, ite2 (fun c => ?_) (fun c => ?_)⟩
      · refine ⟨szl (by show 0 ≤ _; decide), fun zl nzl => ?_⟩
        have s7 := same_new nzl (.lst [])
        exact ⟨zl, [], rfl, upd_same, fun x hx => (by cases hx), hth0, fun _ => rfl, g56.trans (.of s7), (pot_sm s7 hP6).mono (by omega), ne_of_none hrw6 nzl, s7 _ _ hrw6, hvs6.same s7⟩
      · refine ⟨_, rfl, _, rfl, _, rfl, _, rfl, _, (iL th).length, rfl, .inl ⟨_, .of h6, rfl⟩, p, _, k + 6 + n, rfl, ?_, ?_, by omega, hP6, fun d H7 hd g7 hP7 => ?_⟩
        · rw [List.length_map]; omega
        · rw [List.length_map]; omega
        rw [List.length_map] at hd
        have h7 := g7 _ _ (by simpa using nDD.2) h6
        refine ⟨p, DD, iL th, d, k + 6 + n + 1, rfl, .inl (.of h7), by rw [List.length_map]; omega, by rw [List.length_map]; omega, by omega, hP7, fun zl ys zs H8 hyl hzp nzl hzl g8 hP8 => ?_⟩
        obtain ⟨y1, z1, rfl, rfl, hpz⟩ := perm_iL hzp
        have hrw7 := g7 _ _ (by simpa using rwp) hrw6
        have hvs7 := hvs6.kd (.pot g7 hP6 hP7)
        refine ⟨zl, y1, rfl, hzl, fun x hx => hpz.mem_iff.mp (List.mem_append_left _ hx), ?_, fun z => absurd z c, (g56.trans g7).trans g8, hP8.mono (by omega), ne_of_none hrw7 nzl, g8 _ _ (by simpa using rwp) hrw7, hvs7.kd (.pot g8 hP7 hP8)⟩
        rw [List.length_map] at hyl
        omega
    rintro y H7 ⟨zl, zs, rfl, hzl, hzth, hzlen, hwz, g7, hP7, rwzl, hrw7, hvs7⟩
    refine ⟨zl, rfl, ⟨_, .of hzl⟩, for_list (K := K) (a := zl) (xs := iL zs) (fun t σ H' => ∃ (u9 : Option V) (rt : RowO) (vt : List V), σ = [some (.ref p), some (.int n), some (.bl wh), some (.int m), some (.ref lf), some (.ref sn), some (.ref rw), u7, u8, u9, some (.ref DD)] ∧ But [p] H H' ∧ PotAt H' p (k + 20) ∧
      H' zl = some (.lst (iL zs)) ∧ H' rw = some (.lst vt) ∧ DVs H' vt (rt.map oD) ∧ rt.length = n ∧ (∀ j ∈ zs.take t, rt[j]? = some none) ∧ ∀ j, j ∉ zs.take t → rt[j]? = r[j]?) ?_ ?_ ?_ ?_⟩
    · exact ⟨_, r, vs, rfl, g7, hP7, hzl, hrw7, hvs7, D.ok.len, fun j hj => (by cases hj), fun _ _ => rfl⟩
    · rintro t σ H' ht ⟨u9, rt, vt, rfl, _, _, h, _⟩
      exact .of h
    · rintro t x σ H8 hx ⟨u9, rt, vt, rfl, g8, hP8, hzl8, hrw8, hvt, hrl, hin, hout⟩
      rw [List.getElem?_map] at hx
      obtain ⟨h, hh, rfl⟩ := Option.map_eq_some_iff.mp hx
      have hhn : h < n := ((thm h).mp (hzth h (List.mem_of_getElem? hh))).1
      have hvl : vt.length = n := by rw [hvt.len, List.length_map, hrl]
      refine g_set ?_
      refine ⟨_, rfl, _, rfl, rw, vt, _, h, rfl, rfl, hrw8, by rw [hvl]; exact ixN_nat hhn, ?_⟩
      have kp := DKp.put (ys := vt.set h .non) hrw8
      refine ⟨_, rt.set h none, _, rfl, but_put g8 nrw'.1, pot_put hP8 rwp, by rw [upd_ne (Ne.symm rwzl)]; exact hzl8, upd_same, ?_, by rw [List.length_set]; exact hrl, fun j hj => ?_, fun j hj => ?_⟩
      · rw [List.map_set]
        exact DVs.set DV.non (hvt.kd kp)
      · rw [List.take_add_one, hh, Option.toList_some, List.mem_append, List.mem_singleton] at hj
        by_cases e : h = j
        · subst e
          rw [List.getElem?_set_self (by rw [hrl]; exact hhn)]
        · rw [List.getElem?_set_ne e]
          exact hin j (hj.resolve_right (fun z => e z.symm))
      · rw [List.take_add_one, hh, Option.toList_some, List.mem_append, List.mem_singleton] at hj
        have e : h ≠ j := fun z => hj (.inr z.symm)
        rw [List.getElem?_set_ne e]
        exact hout j fun z => hj (.inl z)
    · rintro σ H8 ⟨u9, rt, vt, rfl, g8, hP8, hzl8, hrw8, hvt, hrl, hin, hout⟩
      have et : zs.take (iL zs).length = zs := by rw [List.length_map, List.take_length]
      rw [et] at hin hout
      refine nx_in ?_
      refine ret_in ?_
      refine ⟨_, rfl, rw, _, rfl, .inl ⟨.of hrw8, fun tp ntp => ?_⟩⟩
      have s9 := same_new ntp (.tup vt)
      have O : OkO n rt := D.ok.less hrl fun i L h => by
        by_cases c : i ∈ zs
        · rw [hin i c] at h; cases h
        · rw [hout i c] at h; exact h
      have h1' : 0 < n := h1
      refine q _ _ (rowOD rt) (g8.trans (.of s9)) (pot_sm s9 hP8) (.tup upd_same (hvt.same s9) (by rw [List.length_map]; omega)) (okO_at h1' O ?_) fun z => okO_whole h1' O fun i hi => ?_
      · have : ∃ j ∈ th, j ∉ zs := Classical.byContradiction fun c => by
          have := nodup_le thn fun x hx => Classical.byContradiction fun c2 => c ⟨x, hx, c2⟩
          omega
        obtain ⟨j, hj, hjz⟩ := this
        obtain ⟨_, L, hL⟩ := (thm j).mp hj
        exact ⟨j, L, by rw [hout j hjz]; exact hL⟩
      · have hm := hwm z
        have hsn : seen.length = n := by omega
        have his : i ∈ seen := Classical.byContradiction fun c => by
          have nds := (List.nodup_append.mp D.nd).1
          have := nodup_le (l := i :: seen) (m := List.range n) (List.nodup_cons.mpr ⟨c, nds⟩) fun x hx => by
            rcases List.mem_cons.mp hx with e | e
            · rw [e]; exact List.mem_range.mpr hi
            · exact List.mem_range.mpr (D.lt x (List.mem_append_left _ e))
          rw [List.length_cons, List.length_range] at this
          omega
        obtain ⟨L, hL⟩ := (D.has i).mp his
        exact ⟨L, by rw [hout i (by rw [hwz z]; simp)]; exact hL⟩
end
end Fp
namespace Fp
open PySem PySem.Spec PyProof.Rows L2
section
variable {J : It} {n : Nat} {G : Hp → Prop} {Y : Nat → Hp → V → Hp → Prop}
/-- a comprehension of things, each told by a relation that stays; of each item one thing or none -/
theorem lc_rel {α : Type} (w : Walk J n G Y) (R : Hp → V → α → Prop) (ms : Nat → List α) {g : TG} {tt : L2.TT} {te : TE} {vs : List Nat} {σ : L2.St} {H1 : Hp} {D : Addr} {Qd : Hp → Prop} (hD : H1 D = none) (hn : n < 10000000) (h1 : ∀ i, (ms i).length ≤ 1)
    (hst : ∀ H H' v a, Same H H' → R H v a → R H' v a) (hpt : ∀ H v a us zs, H D = some (.lst us) → R H v a → R (upd H D (.lst zs)) v a) (hG : ∀ H, Same H1 H → G H)
    (hs : ∀ i x H H', i < n → Same H1 H → Y i H x H' → ∀ (Q4 : VK) (N : Hp → Prop), (∀ a y H4, ms i = [a] → Same H H4 → R H4 y a → Q4 y H4) → (ms i = [] → ∀ H4, Same H H4 → N H4) →
      g x (wipe σ vs) H' fun σ2 H2 => wipe σ2 vs = wipe σ vs ∧ tt σ2 H2 fun b H3 => if b = true then te σ2 H3 Q4 else N H3)
    (hd : ∀ H acc, Same H1 H → H D = some (.lst acc) → Paired (R H) acc ((List.range n).flatMap ms) → acc.length ≤ n → Qd H) :
    ∃ W : Nat → Nat → Hp → Prop, (∃ m, W 0 m (upd H1 D (.lst []))) ∧ ∀ i m H, W i m H →
      (J.stop i H ∧ Qd H) ∨ (J.go i H ∧ ∃ Nx : Hp → Prop, (∀ H', Nx H' → ∃ m', m' < m ∧ W (i + 1) m' H') ∧ ∀ x H', J.yld i H x H' → g x (wipe σ vs) H' fun σ2 H2 => wipe σ2 vs = wipe σ vs ∧ tt σ2 H2 fun b H3 =>
        if b = true then te σ2 H3 fun y H4 => ∃ acc, H4 D = some (.lst acc) ∧ acc.length < sizeLine ∧ Nx (upd H4 D (.lst (acc ++ [y]))) else Nx H3) := by
  refine lc_it w (fun i H => Same H1 H ∧ ∃ acc, H D = some (.lst acc) ∧ Paired (R H) acc ((List.range i).flatMap ms) ∧ acc.length ≤ i) ⟨same_new hD _, [], upd_same, .nil, Nat.le_refl _⟩ (fun i H _ z => hG H z.1) (fun i x H H' hi z y => ?_) fun H z => ?_
  · obtain ⟨g1, acc, hacc, hp, hl⟩ := z
    have ex : (List.range (i + 1)).flatMap ms = (List.range i).flatMap ms ++ ms i := by
      rw [List.range_succ, List.flatMap_append]; simp
    refine hs i x H H' hi g1 y _ _ (fun a v H4 e g4 r => ?_) fun e H4 g4 => ?_
    · refine ⟨acc, g4 _ _ hacc, szt (by omega), fun b o q => ?_, acc ++ [v], upd_same, ?_, by rw [List.length_append]; exact Nat.succ_le_succ hl⟩
      · rw [upd_ne (ne_of_none q hD)]; exact g4 _ _ (g1 _ _ q)
      · rw [ex, e]
        exact pr_imp (fun v a h => hpt H4 v a acc _ (g4 _ _ hacc) h) (pr_snoc r (pr_imp (fun v a h => hst H H4 v a g4 h) hp))
    · refine ⟨g1.trans g4, acc, g4 _ _ hacc, ?_, Nat.le_succ_of_le hl⟩
      rw [ex, e, List.append_nil]
      exact pr_imp (fun v a h => hst H H4 v a g4 h) hp
  · obtain ⟨g1, acc, hacc, hp, hl⟩ := z
    exact hd H acc g1 hacc hp hl
/-- the same for integers -/
theorem lc_ints (w : Walk J n G Y) (ms : Nat → List Int) {g : TG} {tt : L2.TT} {te : TE} {vs : List Nat} {σ : L2.St} {H1 : Hp} {D : Addr} {Qd : Hp → Prop} (hD : H1 D = none) (hn : n < 10000000) (h1 : ∀ i, (ms i).length ≤ 1) (hG : ∀ H, Same H1 H → G H)
    (hs : ∀ i x H H', i < n → Same H1 H → Y i H x H' → ∀ (Q4 : VK) (N : Hp → Prop), (∀ a H4, ms i = [a] → Same H H4 → Q4 (.int a) H4) → (ms i = [] → ∀ H4, Same H H4 → N H4) →
      g x (wipe σ vs) H' fun σ2 H2 => wipe σ2 vs = wipe σ vs ∧ tt σ2 H2 fun b H3 => if b = true then te σ2 H3 Q4 else N H3)
    (hd : ∀ H, Same H1 H → H D = some (.lst (((List.range n).flatMap ms).map V.int)) → ((List.range n).flatMap ms).length ≤ n → Qd H) :
    ∃ W : Nat → Nat → Hp → Prop, (∃ m, W 0 m (upd H1 D (.lst []))) ∧ ∀ i m H, W i m H →
      (J.stop i H ∧ Qd H) ∨ (J.go i H ∧ ∃ Nx : Hp → Prop, (∀ H', Nx H' → ∃ m', m' < m ∧ W (i + 1) m' H') ∧ ∀ x H', J.yld i H x H' → g x (wipe σ vs) H' fun σ2 H2 => wipe σ2 vs = wipe σ vs ∧ tt σ2 H2 fun b H3 =>
        if b = true then te σ2 H3 fun y H4 => ∃ acc, H4 D = some (.lst acc) ∧ acc.length < sizeLine ∧ Nx (upd H4 D (.lst (acc ++ [y]))) else Nx H3) := by
  have inv : ∀ {H : Hp} {acc : List V} {ns : List Int}, Paired (fun (v : V) (a : Int) => v = .int a) acc ns → acc = ns.map V.int := fun {H} {acc} {ns} h => by
    induction h with
    | nil => rfl
    | cons h _ ih => rw [h, ih]; rfl
  refine lc_rel w (fun _ v (a : Int) => v = .int a) ms hD hn h1 (fun _ _ _ _ _ h => h) (fun _ _ _ _ _ _ h => h) hG (fun i x H H' hi g1 y Q4 N hQ hN => hs i x H H' hi g1 y Q4 N (fun a H4 e g4 => hQ a _ H4 e g4 rfl) hN) fun H acc g1 hacc hp hl => ?_
  have e := inv (H := H) hp
  subst e
  exact hd H g1 hacc (by simpa using hl)
end
end Fp
namespace Fp
open PySem PySem.Spec PyProof.Rows L2
def spLE : Sp := fun vs H Q _ => ∃ n : Nat, vs = [.int n] ∧ 1 ≤ n ∧ n ≤ 4 ∧ ∀ t ys H', Same H H' → H' t = some (.tup ys) → ChsV H' ys (erM n) → Q (.ref t) H'
theorem fm_map {α β : Type} (q : α → Bool) (g : α → β) : ∀ l : List α, (l.flatMap fun i => if q i = true then [g i] else []) = (l.filter q).map g
  | [] => rfl
  | a :: l => by
    rw [List.flatMap_cons, fm_map q g l, List.filter_cons]
    by_cases c : q a = true
    · rw [if_pos c, if_pos c]; rfl
    · rw [if_neg c, if_neg c]; rfl
theorem fm_one {α β : Type} (g : α → β) : ∀ l : List α, (l.flatMap fun i => [g i]) = l.map g
  | [] => rfl
  | a :: l => by rw [List.flatMap_cons, fm_one g l]; rfl
theorem fm_fil {α β : Type} (f : α → β) (p : β → Bool) (l : List α) : (l.flatMap fun i => if p (f i) = true then [f i] else []) = (l.map f).filter p := by
  rw [fm_map (fun i => p (f i)) f l, List.filter_map]; rfl
theorem ite_len {α : Type} {c : Prop} [Decidable c] {a : α} : (if c then [a] else []).length ≤ 1 := by
  by_cases h : c
  · rw [if_pos h]; exact Nat.le_refl _
  · rw [if_neg h]; exact Nat.zero_le _
/-- one that waits: those that came, and their row -/
def WtV (H : Hp) (v : V) (p : List Int × List (List Int)) : Prop := ∃ t a b, v = .ref t ∧ H t = some (.tup [a, b]) ∧ LotV H a p.1 ∧ RowAt H b p.2
theorem LotV.tk {H H' : Hp} {y : V} {l : List Int} (g : TK H H') : LotV H y l → LotV H' y l := fun ⟨c, e, h⟩ => ⟨c, e, g.t h⟩
theorem RowAt.tk {H H' : Hp} {y : V} {l : List (List Int)} (g : TK H H') : RowAt H y l → RowAt H' y l := fun ⟨t, ys, e, h, p⟩ => ⟨t, ys, e, g.t h, pr_imp (fun _ _ h => LotV.tk g h) p⟩
theorem WtV.tk {H H' : Hp} {y : V} {p : List Int × List (List Int)} (g : TK H H') : WtV H y p → WtV H' y p := fun ⟨t, a, b, e, h, i, j⟩ => ⟨t, a, b, e, g.t h, i.tk g, j.tk g⟩
theorem tk_put {H : Hp} {p : Addr} {xs : List V} {u : HO} (h : H p = some (.lst xs)) : TK H (upd H p u) := TK.put h (fun z => z.elim)
def okW (n : Nat) (p : List Int × List (List Int)) : Bool := decide (p.1.Pairwise (· < ·)) && p.1.all (fun x => decide (0 ≤ x) && decide (x < n)) && decide (p.2.length = n)
def okL (n i : Nat) : Bool := decide ((lapsM n i).1.length ≤ 300) && decide (((lapsM n i).1.flatMap (brgM n)).length ≤ 3000) && decide ((lapsM n i).2.length ≤ 3000) && (lapsM n i).1.all (okW n) && (lapsM n i).2.all (fun r => !r.isEmpty)
theorem laps_ok : ∀ n i : Nat, n ≤ 4 → i ≤ n → okL n i = true := fun n i h4 hi => by
  have : ((List.range 5).all fun n => (List.range (n + 1)).all fun i => okL n i) = true := by decide +kernel
  exact List.all_eq_true.mp (List.all_eq_true.mp this n (List.mem_range.mpr (by omega))) i (List.mem_range.mpr (by omega))
theorem blk_nodup {left : List Int} {b : Nat} (h : left.Nodup) : (blkM left b).Nodup := by
  have e : (List.range left.length).map (fun i => left.getD i 0) = left := by
    refine List.ext_getElem? fun i => ?_
    rw [List.getElem?_map]
    by_cases c : i < left.length
    · rw [List.getElem?_range c, Option.map_some, List.getD_eq_getElem?_getD, List.getElem?_eq_getElem c]; rfl
    · rw [List.getElem?_eq_none (by rw [List.length_range]; omega), List.getElem?_eq_none (by omega)]; rfl
  unfold blkM
  refine List.Nodup.sublist ?_ h
  conv => rhs; rw [← e]
  exact List.Sublist.map _ List.filter_sublist
theorem laps_le : ∀ n : Nat, n ≤ 4 → (lapsM n n).2.length ≤ 3000 := fun n h => by
  have := laps_ok n n h (Nat.le_refl _)
  unfold okL at this
  simp only [Bool.and_eq_true, decide_eq_true_eq] at this
  exact this.1.1.2
theorem laps_ne : ∀ n : Nat, n ≤ 4 → ∀ r ∈ (lapsM n n).2, r ≠ [] := fun n h r hr e => by
  have := laps_ok n n h (Nat.le_refl _)
  unfold okL at this
  simp only [Bool.and_eq_true, decide_eq_true_eq] at this
  have := List.all_eq_true.mp this.2 r hr
  rw [e] at this
  cases this
section
variable {P : Program} {w : World} {K : PySem.W.Frag} {mg : Str → Option Value} {base : Heap} {f : Addr} {fd : FuncData} {C : Addr}
abbrev s_law_every : Stmt := top 32
theorem sc_law_every : FnScope ["many", "waiting", "found", "lap", "later", "seen", "row", "left", "bits", "block", "view", "fresh", "hand", "at", "old"] ["many"] (defScope s_law_every) := ⟨rfl, rfl, rfl, by decide +kernel, rfl, by decide +kernel, by decide +kernel⟩
theorem ok_law_every (F : Fun K "_law_every" "_law_every" s_law_every f fd) (T : RTx mg) (T2 : LTx mg) : FnOk P w K mg base CX0 3 f fd ["many"] spLE := by
  refine F.ok sc_law_every (fun vs H Q E h => ?_) (fun cdv A outer s H vs Q E hr h => ?_)
  · obtain ⟨n, rfl, _⟩ := h
    rfl
  obtain ⟨n, rfl, h1, h4, q⟩ := h
  refine ⟨_, (pss_cons (ps_par (i := 1) (j := 2) (by rfl) sc_law_every.nd rfl rfl (by decide) rfl rfl (pa_cons (pe_lst (pa_cons (pe_tup (pa_cons (pe_tup pa_nil) (pa_cons (pe_mid (pe_op op_repU (pe_tup (pa_cons (pe_tup pa_nil) pa_nil)) (pv 0))) pa_nil))) pa_nil)) (pa_cons (pe_lst pa_nil) pa_nil)) (by rfl))
  (pss_cons (ps_for PassesOwn.never rfl (pi_range1 rfl T.range (pa_cons (pv 0) pa_nil)) (pg_name (i := 3) sc_law_every.nd rfl (Or.inl rfl)) (pss_cons (ps_set (i := 4) sc_law_every.nd rfl (Or.inl rfl) (pe_lst pa_nil))
  (pss_cons (ps_for PassesOwn.never rfl (pi_list (pv 1)) (pg_tup rfl (pgs_cons (pg_name (i := 5) sc_law_every.nd rfl (Or.inr rfl)) (pgs_cons (pg_name (i := 6) sc_law_every.nd rfl (Or.inl rfl)) pgs_nil))) (pss_cons (ps_setLc (i := 7) (own := [("hand", 12)]) (g := (gName 12))  rfl sc_law_every.nd rfl rfl (sw_true rfl rfl rfl (by decide +kernel)) (pi_range1 rfl T.range (pa_cons (pv 0) pa_nil)) (blkOk_by (own := [("hand", 12)]) (N := ["many", "waiting", "found", "lap", "later", "seen", "row", "left", "bits", "block", "view", "fresh", "hand", "at", "old"]) (sc := defScope s_law_every) (by decide +kernel)) (fun _ _ _ _ _ => (pg_name (i := 12) sc_law_every.nd rfl (Or.inl rfl))) (fun _ _ _ _ _ => (pts_one (pt_cmpR op_notin_seqK (pv 12) (pv 5) rfl))) (fun _ _ _ _ _ => (pv 12)))
  (pss_one (ps_for PassesOwn.never rfl (pi_range2 rfl T.range (pa_cons pe_int (pa_cons (pe_op op_oneShl pe_int (pe_callB call_len rfl T.len (by decide +kernel) (pa_cons (pv 7) pa_nil))) pa_nil))) (pg_name (i := 8) sc_law_every.nd rfl (Or.inr rfl)) (pss_cons (ps_set (i := 9) sc_law_every.nd rfl (Or.inr rfl) (pe_lc (own := [("at", 13), ("hand", 12)]) (g := (gTup K 2 (gCons (gName 13) (gCons (gName 12) gNil))))  rfl sc_law_every.nd (pi_enum rfl T.enumerate (pa_cons (pv 7) pa_nil)) (blkOk_by (own := [("at", 13), ("hand", 12)]) (N := ["many", "waiting", "found", "lap", "later", "seen", "row", "left", "bits", "block", "view", "fresh", "hand", "at", "old"]) (sc := defScope s_law_every) (by decide +kernel)) (fun _ _ _ _ _ => (pg_tup rfl (pgs_cons (pg_name (i := 13) sc_law_every.nd rfl (Or.inl rfl)) (pgs_cons (pg_name (i := 12) sc_law_every.nd rfl (Or.inl rfl)) pgs_nil)))) (fun _ _ _ _ _ => (pts_one (pt_cmpR op_eq (pe_op op_mod (pe_callTy call_int1 rfl T.int (by decide +kernel) (pa_cons (pe_op op_shrN (pv 8) (pv 13)) pa_nil)) pe_int) pe_int (nomark _)))) (fun _ _ _ _ _ => (pv 12))))
  (pss_cons (ps_set (i := 10) sc_law_every.nd rfl (Or.inr rfl) (pe_callTy call_tuple_of rfl T.tuple (by decide +kernel) (pa_cons (pe_callB cr_sorted rfl T.sorted (by decide +kernel) (pa_cons (pe_op op_cat (pe_callTy call_list_of rfl T.list (by decide +kernel) (pa_cons (pv 5) pa_nil)) (pv 9)) pa_nil)) pa_nil)))
  (pss_cons (ps_set (i := 11) sc_law_every.nd rfl (Or.inl rfl) (pe_callTy call_tuple_of rfl T.tuple (by decide +kernel) (pa_cons (pe_lc (own := [("hand", 12), ("old", 14)]) (g := (gTup K 2 (gCons (gName 12) (gCons (gName 14) gNil)))) (tt := tYes) rfl sc_law_every.nd (pi_enumT rfl T.enumerate (pa_cons (pv 6) pa_nil)) (blkOk_by (own := [("hand", 12), ("old", 14)]) (N := ["many", "waiting", "found", "lap", "later", "seen", "row", "left", "bits", "block", "view", "fresh", "hand", "at", "old"]) (sc := defScope s_law_every) (by decide +kernel)) (fun _ _ _ _ _ => (pg_tup rfl (pgs_cons (pg_name (i := 12) sc_law_every.nd rfl (Or.inl rfl)) (pgs_cons (pg_name (i := 14) sc_law_every.nd rfl (Or.inl rfl)) pgs_nil)))) (fun _ _ _ _ _ => pts_nil) (fun _ _ _ _ _ => (pe_ifExp (pt_cmpR op_in_seqK (pv 12) (pv 9) rfl) (pv 10) (pv 14)))) pa_nil)))
  (pss_one (ps_if (pt_cmpR op_eq (pe_callB call_len rfl T.len (by decide +kernel) (pa_cons (pv 10) pa_nil)) (pv 0) (nomark _)) (pss_one (ps_expr (pe_bm PySem.F.plainAttrs_list PySem.F.slot_list_append PySem.F.type_list_append mt_append (pv 2) (pa_cons (pv 11) pa_nil)))) (pss_one (ps_expr (pe_bm PySem.F.plainAttrs_list PySem.F.slot_list_append PySem.F.type_list_append mt_append (pv 4) (pa_cons (pe_tup (pa_cons (pv 10) (pa_cons (pv 11) pa_nil))) pa_nil)))))))))))))
  (pss_one (ps_set (i := 1) sc_law_every.nd rfl (Or.inl rfl) (pv 4))))))
  (pss_one (ps_ret (pe_callTy call_tuple_of rfl T.tuple (by decide +kernel) (pa_cons (pe_callB (cr_sortedRO (u64 hr)) rfl T.sorted (by decide +kernel) (pa_cons (pv 2) pa_nil)) pa_nil)))))), ?_⟩
  refine seq_in ?_
  refine ⟨szl (by show 0 ≤ _; decide), fun t1 nt1 => ⟨fun y H' => ∃ r, y = .ref r ∧ Same (upd H t1 (.tup [])) H' ∧ RowAt H' (.ref r) (List.replicate n []), ?_, ?_⟩⟩
  · refine ⟨szl (by show 0 ≤ _; decide), fun t2 nt2 => ⟨szl (by show 1 ≤ _; decide), fun t3 nt3 => ⟨_, rfl, t3, n, [.ref t2], rfl, rfl, .of upd_same, by simp, by omega, by omega, by show 1 ≤ 1000; decide, fun e => ?_, fun e p np => ?_⟩⟩⟩
    · have s2 := same_new nt2 (.tup [])
      have s3 := same_new nt3 (.tup [.ref t2])
      have : n = 1 := by omega
      subst this
      exact ⟨t3, rfl, s2.trans s3, t3, _, rfl, upd_same, .cons ⟨t2, rfl, s3 _ _ upd_same⟩ .nil⟩
    · have s2 := same_new nt2 (.tup [])
      have s3 := same_new nt3 (.tup [.ref t2])
      have e : (List.replicate (n : Int).toNat [V.ref t2]).flatten = List.replicate n (.ref t2) := by rw [Int.toNat_natCast]; simp
      rw [e]
      have s4 := same_new np (.tup (List.replicate n (.ref t2)))
      exact ⟨p, rfl, (s2.trans s3).trans s4, p, _, rfl, upd_same, by refine pr_rep ?_ n; exact ⟨t2, rfl, s4 _ _ (s3 _ _ upd_same)⟩⟩
  rintro y H4 ⟨r, rfl, g4, hr4⟩
  have ht1 := g4 _ _ (upd_same (H := H) (a := t1) (o := .tup []))
  have g3 := (same_new nt1 (.tup [])).trans g4
  refine ⟨szl (by show 2 ≤ _; decide), fun tp ntp => ⟨szl (by show 1 ≤ _; decide), fun wl nwl => ⟨szl (by show 0 ≤ _; decide), fun fl nfl => ⟨_, _, rfl, ?_⟩⟩⟩⟩
  have s5 := same_new ntp (.tup [.ref t1, .ref r])
  have s6 := same_new nwl (.lst [.ref tp])
  have s7 := same_new nfl (.lst [])
  have g7 := g3.trans ((s5.trans s6).trans s7)
  have hwl := s7 _ _ (upd_same (H := upd H4 tp (.tup [.ref t1, .ref r])) (a := wl) (o := .lst [.ref tp]))
  have htp := s7 _ _ (s6 _ _ (upd_same (H := H4) (a := tp) (o := .tup [.ref t1, .ref r])))
  have nflH : H fl = none := Same.gone (g3.trans (s5.trans s6)) nfl
  have newf : wl ≠ fl := fun z => by rw [← z, upd_same] at nfl; cases nfl
  have hfl : upd (upd (upd H4 tp (.tup [.ref t1, .ref r])) wl (.lst [.ref tp])) fl (.lst []) fl = some (.lst []) := upd_same
  have hW : WtV (upd (upd (upd H4 tp (.tup [.ref t1, .ref r])) wl (.lst [.ref tp])) fl (.lst [])) (.ref tp) ([], List.replicate n []) := ⟨tp, _, _, rfl, htp, ⟨t1, rfl, ((s5.trans s6).trans s7) _ _ ht1⟩, hr4.same ((s5.trans s6).trans s7)⟩
  generalize upd (upd (upd H4 tp (.tup [.ref t1, .ref r])) wl (.lst [.ref tp])) fl (.lst []) = H7 at g7 hwl hfl hW ⊢
  clear htp hr4 g4 ht1 s5 s6 s7 nt1 ntp nwl nfl g3
  refine nx_in ?_
  refine seq_in ?_
  refine ⟨_, rfl, (n : Int), rfl, by omega, by omega, for_range (lo := 0) (n := n) (fun i σ H' => ∃ wl u3 u4 u5 u6 u7 u8 u9 u10 u11 ws fs, σ = [some (.int n), some (.ref wl), some (.ref fl), u3, u4, u5, u6, u7, u8, u9, u10, u11, none, none, none] ∧ Same H H' ∧ wl ≠ fl ∧ H' wl = some (.lst ws) ∧ Paired (WtV H') ws (lapsM n i).1 ∧ H' fl = some (.lst fs) ∧ ChsV H' fs (lapsM n i).2) ?_ ?_ ?_⟩
  · exact ⟨wl, _, _, _, _, _, _, _, _, _, _, [], rfl, g7, newf, hwl, .cons hW .nil, hfl, .nil⟩
  · clear hW hwl hfl g7 newf
    rintro i σ H8 hi ⟨wl, u3, u4, u5, u6, u7, u8, u9, u10, u11, ws, fs, rfl, g8, newf, hwl, hws, hfl, hfs⟩
    have ok := laps_ok n i h4 (Nat.le_of_lt hi)
    unfold okL at ok
    simp only [Bool.and_eq_true, decide_eq_true_eq] at ok
    obtain ⟨⟨⟨⟨ok1, ok2⟩, ok3⟩, ok4⟩, _⟩ := ok
    have elap : lapsM n (i + 1) = lapM n (lapsM n i) := rfl
    rw [elap]
    generalize lapsM n i = L at hws hfs ok1 ok2 ok3 ok4
    clear elap
    refine g_set ?_
    refine seq_in ?_
    refine asg_in ?_
    refine ⟨szl (by show 0 ≤ _; decide), fun ll nll => ?_⟩
    have s9 := same_new nll (.lst [])
    have g9 := g8.trans s9
    have nllH : H ll = none := Same.gone g8 nll
    have hll : upd H8 ll (.lst []) ll = some (.lst []) := upd_same
    have nelw : wl ≠ ll := ne_of_none hwl nll
    have nelf : fl ≠ ll := ne_of_none hfl nll
    replace hwl := s9 _ _ hwl
    replace hfl := s9 _ _ hfl
    replace hws := pr_imp (fun v p h => WtV.tk (.of s9) h) hws
    replace hfs := pr_imp (fun v p h => RowAt.same s9 h) hfs
    generalize upd H8 ll (.lst []) = H9 at s9 hwl hfl hll g9 hws hfs ⊢
    refine g_set ?_
    refine nx_in ?_
    refine seq_in ?_
    have hwn := pr_len hws
    refine ⟨_, rfl, wl, rfl, ⟨_, .of hwl⟩, for_list (K := K) (a := wl) (xs := ws) (fun j σ H' => ∃ u5 u6 u7 u8 u9 u10 u11 ls fs, σ = [some (.int n), some (.ref wl), some (.ref fl), some (.int (0 + (i : Nat))), some (.ref ll), u5, u6, u7, u8, u9, u10, u11, none, none, none] ∧ Same H H' ∧ TK H9 H' ∧ H' wl = some (.lst ws) ∧ H' ll = some (.lst ls) ∧
      Paired (WtV H') ls (((L.1.take j).flatMap (brgM n)).filter fun q => decide (q.1.length ≠ n)) ∧ H' fl = some (.lst fs) ∧ ChsV H' fs (L.2 ++ (((L.1.take j).flatMap (brgM n)).filter fun q => decide (q.1.length = n)).map (·.2))) ?_ ?_ ?_ ?_⟩
    · exact ⟨_, _, _, _, _, _, _, [], fs, rfl, g9, TK.refl _, hwl, hll, .nil, hfl, by rw [List.take_zero, List.flatMap_nil, List.filter_nil, List.map_nil, List.append_nil]; exact hfs⟩
    · rintro j σ H' hj ⟨_, _, _, _, _, _, _, ls, fs, rfl, _, _, h, _⟩
      exact .of h
    · clear hfs hfl hll
      rintro j x σ H10 hx ⟨u5, u6, u7, u8, u9, u10, u11, ls, fs, rfl, g10, k10, hwl, hll, hls, hfl, hfs⟩
      obtain ⟨p, hp, tx, a, bw, rfl, htx, ⟨ca, rfl, hca⟩, hb⟩ := pr_left hws hx
      have okp : okW n p = true := List.all_eq_true.mp ok4 p (List.mem_of_getElem? hp)
      unfold okW at okp
      simp only [Bool.and_eq_true, decide_eq_true_eq, List.all_eq_true] at okp
      obtain ⟨⟨pw, prg⟩, pl⟩ := okp
      have hp1l : p.1.length ≤ n := by
        have := nodup_le (m := fullL n) (srt_nodup pw) fun x hx => full_mem.mpr (prg x hx)
        unfold fullL at this
        rwa [List.length_map, List.length_range] at this
      have hca' := k10.t hca
      have htx' := k10.t htx
      have hb' := hb.tk k10
      refine ⟨tx, _, rfl, .of htx', rfl, _, _, rfl, _, _, rfl, rfl, ?_⟩
      refine seq_in ?_
      refine asg_in ?_
      refine ⟨_, rfl, (n : Int), rfl, by omega, by omega, fun D hD => ?_⟩
      refine lc_ints (walk_range (lo := 0) (n := n)) (fun i : Nat => if decide ((i : Int) ∉ p.1) = true then [(i : Int)] else []) hD (by omega) (fun _ => ite_len) (fun _ _ => True.intro) ?_ ?_
      · rintro i x H' H'' hi g ⟨rfl, rfl⟩ Q4 N hQ hN
        have ev : inV (.int (0 + (i : Nat))) (p.1.map V.int) = decide ((i : Int) ∈ p.1) := by rw [Int.zero_add]; exact inV_int _ _
        refine ⟨rfl, _, rfl, _, rfl, ca, p.1.map V.int, rfl, .inr (.of (g _ _ hca')), rfl, int_flat p.1, _, rfl, ?_⟩
        show if (!inV (.int (0 + (i : Nat))) (p.1.map V.int)) = true then _ else _
        rw [ev]
        refine ite2 (fun z => ⟨_, rfl, ?_⟩) (fun z => ?_)
        · show Q4 (V.int (0 + (i : Nat))) _
          rw [Int.zero_add]
          exact hQ _ _ (if_pos (by simpa using z)) (Same.refl _)
        · exact hN (if_neg (by simpa using z)) _ (Same.refl _)
      intro H11 s11 hD11 _
      have eL : ((List.range n).flatMap fun i : Nat => if decide ((i : Int) ∉ p.1) = true then [(i : Int)] else []) = leftM n p.1 := fm_fil (fun i : Nat => (i : Int)) (fun x => decide (x ∉ p.1)) (List.range n)
      rw [eL] at hD11
      have hDll : D ≠ ll := fun z => by rw [z, hll] at hD; cases hD
      have hDfl : D ≠ fl := fun z => by rw [z, hfl] at hD; cases hD
      have hDwl : D ≠ wl := fun z => by rw [z, hwl] at hD; cases hD
      have hllen : (leftM n p.1).length ≤ n := by
        unfold leftM
        refine Nat.le_trans (List.length_filter_le _ _) ?_
        unfold fullL
        rw [List.length_map, List.length_range]; exact Nat.le_refl _
      have ebr : brgM n p = (List.range (2 ^ (leftM n p.1).length - 1)).map fun b => (vieM n p.1 (blkM (leftM n p.1) (1 + b)), freM (blkM (leftM n p.1) (1 + b)) (vieM n p.1 (blkM (leftM n p.1) (1 + b))) p.2) := rfl
      have hlup : (leftM n p.1).Pairwise (· < ·) := (fullL_up n).filter _
      have hlin : ∀ x ∈ leftM n p.1, (0 ≤ x ∧ x < n) ∧ x ∉ p.1 := fun x hx => left_mem.mp hx
      generalize leftM n p.1 = left at hD11 hllen ebr hlup hlin eL
      have hbrl : ((L.1.take j).flatMap (brgM n)).length ≤ 3000 := by
        refine Nat.le_trans ?_ ok2
        conv => rhs; rw [← List.take_append_drop j L.1, List.flatMap_append, List.length_append]
        omega
      have hp2 : 2 ^ left.length ≤ 16 := Nat.le_trans (Nat.pow_le_pow_right (by decide) (Nat.le_trans hllen h4)) (by decide)
      have hp1 : 1 ≤ 2 ^ left.length := Nat.one_le_two_pow
      have hpi : (2 : Int) ^ left.length = ((2 ^ left.length : Nat) : Int) := by simp
      have g11 := g10.trans s11
      have k11 : TK H9 H11 := k10.trans (.of s11)
      replace hwl := s11 _ _ hwl
      replace hll := s11 _ _ hll
      replace hfl := s11 _ _ hfl
      replace hca' := s11 _ _ hca'
      replace hb' := hb'.same s11
      replace hls := pr_imp (fun v p h => WtV.tk (.of s11) h) hls
      replace hfs := pr_imp (fun v p h => RowAt.same s11 h) hfs
      refine g_set ?_
      refine nx_in ?_
      refine ⟨_, rfl, _, left.length, rfl, .inl ⟨_, .of hD11, by rw [List.length_map]⟩, left.length, rfl, rfl, by omega, 1, _, rfl, ⟨by decide, by decide, by omega, by omega⟩, for_range (lo := 1) (n := ((2 : Int) ^ left.length - 1).toNat) (fun b σ H' => ∃ u8 u9 u10 u11 ls fs, σ = [some (.int n), some (.ref wl), some (.ref fl), some (.int (0 + (i : Nat))), some (.ref ll), some (.ref ca), some bw, some (.ref D), u8, u9, u10, u11, none, none, none] ∧ Same H H' ∧ TK H11 H' ∧ H' wl = some (.lst ws) ∧ H' D = some (.lst (left.map V.int)) ∧ H' ll = some (.lst ls) ∧
        Paired (WtV H') ls (((L.1.take j).flatMap (brgM n) ++ (brgM n p).take b).filter fun q => decide (q.1.length ≠ n)) ∧ H' fl = some (.lst fs) ∧ ChsV H' fs (L.2 ++ (((L.1.take j).flatMap (brgM n) ++ (brgM n p).take b).filter fun q => decide (q.1.length = n)).map (·.2))) ?_ ?_ ?_⟩
      · exact ⟨_, _, _, _, ls, fs, rfl, g11, TK.refl _, hwl, hD11, hll, by rw [List.take_zero, List.append_nil]; exact hls, hfl, by rw [List.take_zero, List.append_nil]; exact hfs⟩
      · clear hfs hfl hll hls hwl
        rintro t σ H12 ht ⟨u8, u9, u10, u11, ls, fs, rfl, g12, k12, hwl, hD12, hll, hls, hfl, hfs⟩
        replace hca' := k12.t hca'
        replace hb' := hb'.tk k12
        refine g_set ?_
        refine seq_in ?_
        refine asg_in ?_
        refine ⟨_, rfl, D, _, rfl, .of hD12, fun DB hDB => ?_⟩
        refine lc_ints (walk_enum (xs := left.map V.int)) (fun k : Nat => if decide ((1 + t) / 2 ^ k % 2 = 1) = true then [left.getD k 0] else []) hDB (by rw [List.length_map]; omega) (fun _ => ite_len) (fun H' g => .of (g _ _ hD12)) ?_ ?_
        · rintro k x H' H'' hk g ⟨TT, vx, vy, rfl, nT, rfl, e1, e2⟩ Q4 N hQ hN
          cases e1
          refine ⟨TT, _, rfl, .of upd_same, rfl, _, _, rfl, _, _, rfl, rfl, ?_⟩
          refine ⟨rfl, _, rfl, _, rfl, _, k, rfl, rfl, .inl ⟨_, rfl, _, _, rfl, rfl, (show (0 : Int) < 2 by decide), rfl, _, rfl, ?_⟩⟩
          have ep : (1 + (t : Int)) / 2 ^ k % 2 = (((1 + t) / 2 ^ k % 2 : Nat) : Int) := by simp
          show if decide (V.int ((1 + (t : Int)) / 2 ^ k % 2) = V.int 1) = true then _ else _
          rw [ep]
          have hkl : k < left.length := by rw [List.length_map] at hk; exact hk
          have ey : vy = V.int (left.getD k 0) := by
            have e2 : (left.map V.int)[k]? = some vy := e2
            rw [List.getElem?_map, List.getElem?_eq_getElem hkl] at e2
            rw [List.getD_eq_getElem?_getD, List.getElem?_eq_getElem hkl]
            exact (Option.some.inj e2).symm
          subst ey
          refine ite2 (fun z => ⟨_, rfl, hQ _ _ (if_pos (decide_eq_true ?_)) (same_new nT _)⟩) (fun z => hN (if_neg fun c => z ?_) _ (same_new nT _))
          · have := of_decide_eq_true z
            injection this with this
            omega
          · refine decide_eq_true (congrArg V.int ?_)
            have := of_decide_eq_true c
            omega
        intro H13 s13 hbk _
        have ebk : ((List.range (left.map V.int).length).flatMap fun k : Nat => if decide ((1 + t) / 2 ^ k % 2 = 1) = true then [left.getD k 0] else []) = blkM left (1 + t) := by
          rw [List.length_map]
          exact fm_map (fun k => decide ((1 + t) / 2 ^ k % 2 = 1)) (fun k => left.getD k 0) (List.range left.length)
        rw [ebk] at hbk
        have hbin : ∀ x ∈ blkM left (1 + t), x ∈ left := fun x hx => by
          obtain ⟨k, hk, rfl⟩ := List.mem_map.mp hx
          have hkl := List.mem_range.mp (List.mem_filter.mp hk).1
          rw [List.getD_eq_getElem?_getD, List.getElem?_eq_getElem hkl]
          exact List.getElem_mem hkl
        have hbnd : (blkM left (1 + t)).Nodup := blk_nodup (srt_nodup hlup)
        have hbl : (blkM left (1 + t)).length ≤ 4 := by
          unfold blkM
          rw [List.length_map]
          refine Nat.le_trans (List.length_filter_le _ _) ?_
          rw [List.length_range]; omega
        generalize ebv : blkM left (1 + t) = block at hbk hbin hbnd hbl
        have g13 := g12.trans s13
        replace hca' := s13 _ _ hca'
        replace hb' := hb'.same s13
        refine g_set ?_
        refine nx_in ?_
        refine seq_in ?_
        refine asg_in ?_
        refine ⟨_, rfl, ca, p.1.map V.int, rfl, .inr (.of hca'), fun l1 nl1 => ⟨_, rfl, l1, DB, p.1.map V.int, block.map V.int, rfl, rfl, upd_same, same_new nl1 _ _ _ hbk, szl (by rw [List.length_map, List.length_map]; omega), fun l2 nl2 => ⟨l2, p.1 ++ block, rfl, .of (by rw [List.map_append]; exact upd_same), by rw [List.length_append]; omega, fun zs q1 hzp hzs nq1 => ⟨q1, _, rfl, .inl ⟨.of upd_same, fun tv ntv => ?_⟩⟩⟩⟩⟩
        have s14 := ((same_new nl1 (.lst (p.1.map V.int))).trans (same_new nl2 (.lst (p.1.map V.int ++ block.map V.int)))).trans ((same_new nq1 (.lst (zs.map V.int))).trans (same_new ntv (.tup (zs.map V.int))))
        have hnd : (p.1 ++ block).Nodup := List.nodup_append.mpr ⟨srt_nodup pw, hbnd, fun a ha b hb e => (hlin b (hbin b hb)).2 (e ▸ ha)⟩
        have ezs : zs = vieM n p.1 block := srt_eq (srt_lt hzs (hzp.nodup_iff.mpr hnd)) ((fullL_up n).filter _) fun x => by
          unfold vieM
          rw [hzp.mem_iff, List.mem_filter, full_mem, decide_eq_true_iff]
          exact ⟨fun z => ⟨(List.mem_append.mp z).elim (prg x) fun z => (hlin x (hbin x z)).1, z⟩, fun z => z.2⟩
        subst ezs
        have hvl : (vieM n p.1 block).length ≤ n := by
          unfold vieM
          refine Nat.le_trans (List.length_filter_le _ _) ?_
          unfold fullL
          rw [List.length_map, List.length_range]; exact Nat.le_refl _
        have htv : upd (upd (upd (upd H13 l1 (.lst (p.1.map V.int))) l2 (.lst (p.1.map V.int ++ block.map V.int))) q1 (.lst ((vieM n p.1 block).map V.int))) tv (.tup ((vieM n p.1 block).map V.int)) tv = some (.tup ((vieM n p.1 block).map V.int)) := upd_same
        generalize upd (upd (upd (upd H13 l1 (.lst (p.1.map V.int))) l2 (.lst (p.1.map V.int ++ block.map V.int))) q1 (.lst ((vieM n p.1 block).map V.int))) tv (.tup ((vieM n p.1 block).map V.int)) = H14 at s14 htv ⊢
        have s24 := s13.trans s14
        replace hb' := hb'.same s14
        have hbk14 := s14 _ _ hbk
        obtain ⟨tr, ysr, rfl, htr, hpr⟩ := hb'
        have hysl : ysr.length = p.2.length := pr_len hpr
        refine g_set ?_
        refine nx_in ?_
        refine seq_in ?_
        refine asg_in ?_
        refine ⟨_, rfl, tr, _, rfl, .of htr, fun DF hDF => ?_⟩
        refine lc_rel (walk_enumT (xs := ysr)) LotV (fun h : Nat => [if (h : Int) ∈ block then vieM n p.1 block else p.2.getD h []]) hDF (by omega) (fun _ => Nat.le_refl _) (fun _ _ _ _ g h => h.same g) (fun _ _ _ _ _ e h => h.put e) (fun H' g => .of (g _ _ htr)) ?_ ?_
        · rintro k x H' H'' hk g ⟨TT, vy, rfl, nT, rfl, e2⟩ Q4 N hQ hN
          refine ⟨TT, _, rfl, .of upd_same, rfl, _, _, rfl, _, _, rfl, rfl, rfl, yes_in ?_⟩
          have sT := same_new nT (.tup [.int (0 + (k : Nat)), vy])
          refine ⟨_, rfl, _, rfl, DB, block.map V.int, rfl, .inl (.of (sT _ _ (g _ _ hbk14))), rfl, int_flat block, _, rfl, ?_⟩
          have ev : inV (.int (0 + (k : Nat))) (block.map V.int) = decide ((k : Int) ∈ block) := by rw [Int.zero_add]; exact inV_int _ _
          show if inV (.int (0 + (k : Nat))) (block.map V.int) = true then _ else _
          rw [ev]
          refine ite2 (fun z => ⟨_, rfl, hQ _ _ _ (by rw [if_pos (of_decide_eq_true z)]) sT ?_⟩) (fun z => ⟨_, rfl, hQ _ _ _ (by rw [if_neg (fun c => z (decide_eq_true c))]) sT ?_⟩)
          · exact ⟨tv, rfl, sT _ _ (g _ _ htv)⟩
          · obtain ⟨l, hl, c, rfl, hc⟩ := pr_left hpr e2
            rw [List.getD_eq_getElem?_getD, hl]
            exact ⟨c, rfl, sT _ _ (g _ _ hc)⟩
        intro H15 acc s15 hacc hpa _
        rw [fm_one, hysl] at hpa
        refine ⟨DF, acc, rfl, .inl ⟨.of hacc, fun tf ntf => ?_⟩⟩
        have s16 := same_new ntf (.tup acc)
        have hfre : RowAt (upd H15 tf (.tup acc)) (.ref tf) (freM block (vieM n p.1 block) p.2) := ⟨tf, acc, rfl, upd_same, pr_imp (fun _ _ h => LotV.same s16 h) hpa⟩
        have s26 := (s24.trans s15).trans s16
        have htv' := s16 _ _ (s15 _ _ htv)
        generalize upd H15 tf (.tup acc) = H16 at s16 hfre s26 htv' ⊢
        have hview : LotV H16 (.ref tv) (vieM n p.1 block) := ⟨tv, rfl, htv'⟩
        have hq0 : (brgM n p)[t]? = some (vieM n p.1 block, freM block (vieM n p.1 block) p.2) := by
          rw [ebr, List.getElem?_map, List.getElem?_range (by omega), ← ebv]
          rfl
        have hlen : ∀ (c : (List Int × List (List Int)) → Bool), (((L.1.take j).flatMap (brgM n) ++ (brgM n p).take t).filter c).length ≤ 3016 := fun c => by
          refine Nat.le_trans (List.length_filter_le _ _) ?_
          rw [List.length_append, List.length_take]
          have : (brgM n p).length ≤ 16 := by rw [ebr, List.length_map, List.length_range]; omega
          omega
        replace hwl := s26 _ _ hwl
        replace hD12 := s26 _ _ hD12
        replace hll := s26 _ _ hll
        replace hfl := s26 _ _ hfl
        replace hls := pr_imp (fun v p h => WtV.tk (.of s26) h) hls
        replace hfs := pr_imp (fun v p h => RowAt.same s26 h) hfs
        have g16 := g12.trans s26
        have k16 : TK H11 H16 := k12.trans (.of s26)
        have hlsl := pr_len hls
        have hfsl := pr_len hfs
        have hl1 := hlen fun q => decide (q.1.length ≠ n)
        have hl2 := hlen fun q => decide (q.1.length = n)
        rw [List.length_append, List.length_map] at hfsl
        refine g_set ?_
        refine nx_in ?_
        refine ⟨_, rfl, _, (vieM n p.1 block).length, rfl, .inr ⟨_, .of htv', by rw [List.length_map]⟩, _, rfl, rfl, _, rfl, ite2 (fun z => ?_) (fun z => ?_)⟩
        · have z' : (vieM n p.1 block).length = n := by
            have := of_decide_eq_true z
            injection this with this
            omega
          refine ⟨_, rfl, .inl ⟨rfl, _, .of hfl⟩, _, rfl, fl, fs, _, rfl, rfl, hfl, szt (by omega), ?_⟩
          refine ⟨_, _, _, _, ls, fs ++ [.ref tf], rfl, Same.put g16 nflH, k16.trans (tk_put hfl), ?_, ?_, ?_, ?_, upd_same, ?_⟩
          · rw [upd_ne newf]; exact hwl
          · rw [upd_ne hDfl]; exact hD12
          · rw [upd_ne (Ne.symm nelf)]; exact hll
          · rw [List.take_add_one, hq0, Option.toList_some, ← List.append_assoc, List.filter_append, List.filter_cons_of_neg (by simp [z']), List.filter_nil, List.append_nil]
            exact pr_imp (fun v p h => WtV.tk (tk_put hfl) h) hls
          · rw [List.take_add_one, hq0, Option.toList_some, ← List.append_assoc, List.filter_append, List.filter_cons_of_pos (by simp [z']), List.filter_nil, List.map_append, ← List.append_assoc]
            exact pr_imp (fun _ _ h => RowAt.put hfl h) (pr_app2 hfs (.cons hfre .nil))
        · have z' : (vieM n p.1 block).length ≠ n := fun e => z (decide_eq_true (congrArg V.int (by omega)))
          refine ⟨_, rfl, .inl ⟨rfl, _, .of hll⟩, _, rfl, _, rfl, szl (by show 2 ≤ _; decide), fun tq ntq => ⟨ll, ls, _, rfl, rfl, same_new ntq _ _ _ hll, szt (by omega), ?_⟩⟩
          have s17 := same_new ntq (.tup [.ref tv, .ref tf])
          have hll' := s17 _ _ hll
          have kk := (TK.of s17).trans (tk_put (u := .lst (ls ++ [.ref tq])) hll')
          refine ⟨_, _, _, _, ls ++ [.ref tq], fs, rfl, Same.put (g16.trans s17) nllH, k16.trans kk, ?_, ?_, upd_same, ?_, ?_, ?_⟩
          · rw [upd_ne nelw]; exact s17 _ _ hwl
          · rw [upd_ne hDll]; exact s17 _ _ hD12
          · rw [List.take_add_one, hq0, Option.toList_some, ← List.append_assoc, List.filter_append, List.filter_cons_of_pos (by simp [z']), List.filter_nil]
            exact pr_app2 (pr_imp (fun v p h => WtV.tk kk h) hls) (.cons (WtV.tk (tk_put hll') ⟨tq, _, _, rfl, upd_same, hview.same s17, hfre.same s17⟩) .nil)
          · rw [upd_ne nelf]; exact s17 _ _ hfl
          · rw [List.take_add_one, hq0, Option.toList_some, ← List.append_assoc, List.filter_append, List.filter_cons_of_neg (by simp [z']), List.filter_nil, List.append_nil]
            exact pr_imp (fun _ _ h => RowAt.tk kk h) hfs
      · clear hfs hfl hll hls hwl
        rintro σ H12 ⟨u8, u9, u10, u11, ls, fs, rfl, g12, k12, hwl, hD12, hll, hls, hfl, hfs⟩
        have et : (brgM n p).take ((2 : Int) ^ left.length - 1).toNat = brgM n p := List.take_of_length_le (by rw [ebr, List.length_map, List.length_range]; omega)
        have ej : (L.1.take j).flatMap (brgM n) ++ brgM n p = (L.1.take (j + 1)).flatMap (brgM n) := by
          rw [List.take_add_one, hp, Option.toList_some, List.flatMap_append]; simp
        rw [et, ej] at hls hfs
        exact ⟨_, _, _, _, _, _, _, ls, fs, rfl, g12, k11.trans k12, hwl, hll, hls, hfl, hfs⟩
    · clear hfs hfl hll hwl
      rintro σ H10 ⟨u5, u6, u7, u8, u9, u10, u11, ls, fs, rfl, g10, k10, hwl, hll, hls, hfl, hfs⟩
      rw [hwn, List.take_length] at hls hfs
      refine nx_in ?_
      refine ⟨_, rfl, ?_⟩
      exact ⟨ll, _, _, _, _, _, _, _, _, _, ls, fs, rfl, g10, Ne.symm nelf, hll, hls, hfl, hfs⟩
  · rintro σ H8 ⟨wl, u3, u4, u5, u6, u7, u8, u9, u10, u11, ws, fs, rfl, g8, newf, hwl, hws, hfl, hfs⟩
    refine nx_in ?_
    refine ret_in ?_
    have hll := laps_le n h4
    have hperm := sortR_perm (lapsM n n).2
    have elaw := lawM_eq n h1 h4
    have hfl2 := pr_len hfs
    have hrow : ∀ r ∈ (lapsM n n).2, r ≠ [] := laps_ne n h4
    generalize (lapsM n n).2 = rows at hfs hll hperm elaw hfl2 hrow
    have hmap := rows_map hfs
    have hev : ∀ x ∈ fs, ∃ rs, RowAt H8 x rs ∧ rs ≠ [] := fun x hx => by
      obtain ⟨i, hi⟩ := List.mem_iff_getElem?.mp hx
      obtain ⟨rs, hrs, hr⟩ := pr_left hfs hi
      exact ⟨rs, hr, hrow rs (List.mem_of_getElem? hrs)⟩
    refine ⟨_, rfl, fl, fs, rowK H8, rfl, .of hfl, fun x hx => ?_, fun ys p hsr hst np => ?_⟩
    · obtain ⟨rs, hr, hne⟩ := hev x hx
      rw [rowK_eq hr]
      exact ⟨hr, hne⟩
    have s9 := same_new np (.lst ys)
    refine ⟨p, ys, rfl, .inl ⟨.of upd_same, fun l nl => ?_⟩⟩
    have s10 := same_new nl (.tup ys)
    have hys : ∀ x ∈ ys, ∃ rs, RowAt H8 x rs := fun x hx => by
      obtain ⟨rs, hr, _⟩ := hev x (hst.perm.mem_iff.mp hx)
      exact ⟨rs, hr⟩
    refine q l ys _ ((g8.trans s9).trans s10) upd_same ?_
    have e : ys.map (rowK H8) = erM n := by
      rw [← elaw]
      refine srtR_uniq (List.pairwise_map.mpr hsr) (sortR_srt _) (((hst.perm.map _).trans ?_).trans hperm.symm)
      rw [hmap]
    rw [← e]
    exact pr_imp (fun _ _ h => RowAt.same (s9.trans s10) h) (rows_back hys)
end
end Fp
namespace Fp
open PySem PySem.Spec PyProof.Rows L2
/-! ### f(k = v, ..) -/
def tCallKW (n : Nat) (sp : Sp) (gV : List V → List V) (tk : TA) : TE := fun σ H Q => tk σ H fun zs H2 => zs.length = n ∧ sp (gV zs) H2 Q E0
structure FdKw (P : Program) (w : World) (K : PySem.W.Frag) (mg : Str → Option Value) (base : Heap) (CX : CXT) (x : Str) (k : Nat) (ps ks : List Str) (g : List Value → List Value) (gV : List V → List V) (sp : Sp) : Prop where
  ex : ∃ (f : Addr) (fd : FuncData), mg x = some (.ref f) ∧ PySem.W.keepIn K (.ref f) = true ∧ KBn K fd ps 0 ks (fun _ => g) (fun _ => gV) ∧ FnOk P w K mg base CX k f fd ps sp
section
variable {X : Cx} {k : Nat} {x : Str} {ps ks : List Str} {sp : Sp} {p pos : Pos} {kws : List Keyword} {tk : TA} {g : List Value → List Value} {gV : List V → List V}
theorem pe_fdKw (M : FdKw X.prog X.w X.K X.mg X.base CX0 x k ps ks g gV sp) (hr : Room k X.A) (hg : Gl X x) (hkw : PK X kws tk)
    (hall : (backToKw pos (keywordEach kws X.env)).all (·.1.isSome) = true := by rfl) (hks : (backToKw pos (keywordEach kws X.env)).filterMap (·.1) = ks := by rfl) (hdb : (x == ("__debug__" : Str)) = false := by decide)
    (hpl : ((backTo pos (starEach [] X.env)).any (·.1) || (backToKw pos (keywordEach kws X.env)).any (·.1.isNone)) = false := by rfl) :
    PE X (.Call (.Name x p) [] kws pos) (tCallKW ks.length sp gV tk) := by
  obtain ⟨f, fd, hm, hk, hb, F⟩ := M.ex
  refine ⟨fun pins s σ H Q I h => ?_⟩
  refine wpAny_Call_Name_kw (ld_glob I hg hm ?_ hdb)
  refine PySem.W.callWith_KW0 (first := []) (h₀ := X.base) I.ok.mod.kin hk hall ?_ hpl
  refine thn (hkw.run pos pins s σ H _ I h) fun ws s2 ⟨zs, H2, I2, rz, l2, q2⟩ => ⟨I2.kIn, ?_⟩
  rw [hks]
  have r2 := hb.rel (vs := []) (us := []) .nil rz
  refine wpAny_call (codeAny_mono (F.run X.A X.stack s2 H2 ⟨[], ks.zip ws⟩ (g ws) (gV zs) Q E0 hr I2.env0 (hb.to s2 [] ws I2.kIn rfl (rz.length.symm.trans l2)) r2 q2) fun r s' hq => ?_)
  cases r with
  | error e => exact pass0 pins σ H2 s2 e s' I2 hq
  | ok fl =>
    cases fl with
    | ret u => exact I2.after hq
    | next => exact False.elim hq
    | brk => exact False.elim hq
    | cont => exact False.elim hq
end
end Fp
namespace Fp
open PySem PySem.Spec PyProof.Rows L2
def spRight : Sp := fun vs H Q _ => ∃ p, vs = [.ref p] ∧ PotAt H p 0 ∧ ∀ H', But [p] H H' → Q (.bl true) H'
def kw2 {α : Type} : List α → List α
  | [a, b] => [b, a]
  | _ => []
theorem kw2_rel {zs : List V} {ws : List Value} (h : Vals zs ws) : Vals (kw2 zs) (kw2 ws) := by
  cases h with
  | nil => exact .nil
  | cons a h => cases h with
    | nil => exact .nil
    | cons b h => cases h with
      | nil => exact .cons b (.cons a .nil)
      | cons c h => exact .nil
theorem lots_dv {H : Hp} : ∀ {ys : List V} {rs : List (List Int)}, LotsV H ys rs → (∀ l ∈ rs, l.length ≤ 1000) → DVs H ys (rs.map lotD)
  | _, _, .nil, _ => .nil
  | _, _, .cons ⟨c, e, hc⟩ t, h => by
    subst e
    exact .cons (.tup hc (dvs_ints _ _) (by rw [List.length_map]; exact h _ List.mem_cons_self)) (lots_dv t fun l hl => h l (List.mem_cons_of_mem _ hl))
theorem row_dv {H : Hp} {x : V} {r : List (List Int)} (h : RowAt H x r) (hl : ∀ l ∈ r, l.length ≤ 1000) (hr : r.length ≤ 1000) : DV H x (rowD r) := by
  obtain ⟨t, ys, rfl, ht, hp⟩ := h
  exact .tup ht (lots_dv hp hl) (by rw [List.length_map]; exact hr)
theorem dv_lots {H : Hp} : ∀ {ys : List V} {rs : List (List Int)}, DVs H ys (rs.map lotD) → LotsV H ys rs
  | _, [], .nil => .nil
  | _, l :: rs, .cons h t => by
    refine .cons ?_ (dv_lots t)
    cases h with
    | tup h1 h2 _ =>
      have := DVs.ints h2 (fun x hx => by obtain ⟨i, _, rfl⟩ := List.mem_map.mp hx; rfl)
      rw [this, show (l.map Dt.int).map Dt.toInt = l from by rw [List.map_map]; exact List.map_id _] at h1
      exact ⟨_, rfl, h1⟩
theorem dv_row {H : Hp} {x : V} {r : List (List Int)} (h : DV H x (rowD r)) : RowAt H x r := by
  cases h with
  | tup h1 h2 _ => exact ⟨_, _, rfl, h1, dv_lots h2⟩
def rowsP (rows : List (List (List Int))) : PyData := .tuple (rows.map rowP)
theorem rows_dp {K : PySem.W.Frag} {H : Hp} : ∀ {ys : List V} {rows : List (List (List Int))}, ChsV H ys rows → DpAll K H ys (rows.map rowP)
  | _, _, .nil => .nil
  | _, _, .cons h t => .cons (row_dp h) (rows_dp t)
theorem er_ok : ∀ n : Nat, 1 ≤ n → n ≤ 4 → (erM n).all (fun r => wholeB n (rowD r)) = true ∧ (erM n).Nodup := fun n h1 h4 => by
  rcases (show n = 1 ∨ n = 2 ∨ n = 3 ∨ n = 4 by omega) with rfl | rfl | rfl | rfl <;> decide +kernel
theorem er_row {n : Nat} (h1 : 1 ≤ n) (h4 : n ≤ 4) {r : List (List Int)} (h : r ∈ erM n) : RowOk n r := (rowok_iff h1).mp (List.all_eq_true.mp (er_ok n h1 h4).1 r h)
theorem er_le {n : Nat} (h1 : 1 ≤ n) (h4 : n ≤ 4) : (erM n).length ≤ 75 ∧ 1 ≤ (erM n).length := by
  obtain ⟨a, b, c, d⟩ := er_len
  rcases (show n = 1 ∨ n = 2 ∨ n = 3 ∨ n = 4 by omega) with rfl | rfl | rfl | rfl <;> omega
theorem rowok_le {n : Nat} {r : List (List Int)} (R : RowOk n r) : r.length = n ∧ ∀ l ∈ r, l.length ≤ n := by
  refine ⟨R.len, fun l hl => ?_⟩
  obtain ⟨i, hi⟩ := List.mem_iff_getElem?.mp hl
  have := nodup_le (m := fullL n) (srt_nodup (R.up i l hi)) fun x hx => full_mem.mpr (R.rng i l hi x hx)
  unfold fullL at this
  rwa [List.length_map, List.length_range] at this
theorem rowP_sm {n : Nat} (h5 : n ≤ 5) {r : List (List Int)} (R : RowOk n r) : Sm 3 30 (rowP r) := by
  obtain ⟨a, b⟩ := rowok_le R
  have hl : ∀ d ∈ r.map (fun l => PyData.tuple (l.map PyData.int)), Sm 2 5 d := fun d hd => by
    obtain ⟨l, hl, rfl⟩ := List.mem_map.mp hd
    have := (Sms.all (k := 1) (n := 0) (ds := l.map PyData.int) fun d hd => by
      obtain ⟨x, hx, rfl⟩ := List.mem_map.mp hd
      obtain ⟨i, hi⟩ := List.mem_iff_getElem?.mp hl
      have := R.rng i l hi x hx
      exact Sm.int (by omega) (by omega)).tup
    refine this.mono (Nat.le_refl _) ?_
    have := b l hl
    rw [List.length_map]; omega
  refine (Sms.all hl).tup.mono (Nat.le_refl _) ?_
  rw [List.length_map]; omega
theorem rowsP_sm {n : Nat} (h1 : 1 ≤ n) (h4 : n ≤ 4) : Sm 4 2325 (rowsP (erM n)) := by
  refine (Sms.all (k := 3) (n := 30) fun d hd => ?_).tup.mono (Nat.le_refl _) ?_
  · obtain ⟨r, hr, rfl⟩ := List.mem_map.mp hd
    exact rowP_sm (by omega) (er_row h1 h4 hr)
  · have := (er_le h1 h4).1
    rw [List.length_map]; omega
section
variable {P : Program} {w : World} {K : PySem.W.Frag} {mg : Str → Option Value} {base : Heap} {f : Addr} {fd : FuncData} {C : Addr}
abbrev s_law_right : Stmt := top 33
theorem sc_law_right : FnScope ["pot", "many", "rows", "number", "row", "lap"] ["pot"] (defScope s_law_right) := ⟨rfl, rfl, rfl, by decide +kernel, rfl, by decide +kernel, by decide +kernel⟩
theorem ok_law_right (F : Fun K "_law_right" "_law_right" s_law_right f fd) (T : RTx mg) (T2 : LTx mg) (G_law_take : Fd P w K mg base CX0 "_law_take" 1 ["pot", "upto"] spTake) (G_law_of : Fd P w K mg base CX0 "_law_of" 2 ["pot", "some"] (spOf K)) (G_law_drawn_row : Fd P w K mg base CX0 "_law_drawn_row" 3 ["pot", "many", "is_whole_v"] spDRow) (G_every_row : Fd P w K mg base CX0 "every_row" 8 ["many"] spER) (G_law_every : Fd P w K mg base CX0 "_law_every" 3 ["many"] spLE) (G_row_at : Fd P w K mg base CX0 "row_at" 9 ["many", "number"] spRA) (G_number_of : Fd P w K mg base CX0 "number_of" 9 ["many", "row"] spNO) (K_row_at : FdKw P w K mg base CX0 "row_at" 9 ["many", "number"] ["number", "many"] kw2 kw2 spRA) (K_number_of : FdKw P w K mg base CX0 "number_of" 9 ["many", "row"] ["row", "many"] kw2 kw2 spNO) : FnOkG P w K mg base CX0 10 f fd ["pot"] spRight := by
  refine fun_okG F sc_law_right (fun vs H Q E h => ?_) (fun cdv A outer s H vs Q E hr hgu h => ?_)
  · obtain ⟨p, rfl, _⟩ := h
    rfl
  obtain ⟨pt, rfl, hP, q⟩ := h
  refine ⟨_, (pss_cons (ps_set (i := 1) sc_law_right.nd rfl (Or.inl rfl) (pe_fd G_law_of (hr.mono (by first | decide | omega)) rfl (pa_cons (pv 0) (pa_cons (pe_lst (pa_cons pe_int (pa_cons pe_int (pa_cons pe_int (pa_cons pe_int (pa_cons pe_int (pa_cons pe_int (pa_cons pe_int (pa_cons pe_int pa_nil))))))))) pa_nil))))
  (pss_cons (ps_set (i := 2) sc_law_right.nd rfl (Or.inr rfl) (pe_fd G_every_row (hr.mono (by first | decide | omega)) rfl (pa_cons (pv 1) pa_nil)))
  (pss_cons (ps_if (PW.pt (pw_or (pt_cmpR op_ne (pe_callB call_lenK rfl T.len (by decide +kernel) (pa_cons (pv 2) pa_nil)) (pe_ix ix_list (pe_lst (pa_cons pe_int (pa_cons pe_int (pa_cons pe_int (pa_cons pe_int (pa_cons pe_int pa_nil)))))) (pe_op op_sub (pv 1) pe_int) (fun _ _ => rfl)) (nomark _)) (pw_or1 (pt_cmpR op_ne (pe_callB (call_reprA hgu (u66 hr)) rfl T.repr (by decide +kernel) (pa_cons (pv 2) pa_nil)) (pe_callB (call_reprA hgu (u66 hr)) rfl T.repr (by decide +kernel) (pa_cons (pe_fd G_law_every (hr.mono (by first | decide | omega)) rfl (pa_cons (pv 1) pa_nil)) pa_nil)) (nomark _))))) (pss_one (ps_ret pe_bl)) pss_nil)
  (pss_cons (ps_for PassesOwn.never rfl (pi_list (pe_op op_cat (pe_lst (pa_cons pe_int (pa_cons (pe_op op_sub (pe_callB call_lenK rfl T.len (by decide +kernel) (pa_cons (pv 2) pa_nil)) pe_int) pa_nil))) (pe_lc (own := [("lap", 5)]) (g := (gName 5)) (tt := tYes) rfl sc_law_right.nd (pi_range1 rfl T.range (pa_cons pe_int pa_nil)) (blkOk_by (own := [("lap", 5)]) (N := ["pot", "many", "rows", "number", "row", "lap"]) (sc := defScope s_law_right) (by decide +kernel)) (fun _ _ _ _ _ => (pg_name (i := 5) sc_law_right.nd rfl (Or.inl rfl))) (fun _ _ _ _ _ => pts_nil) (fun _ _ _ _ _ => (pe_fd G_law_take (hr.mono (by first | decide | omega)) rfl (pa_cons (pv 0) (pa_cons (pe_callB call_lenK rfl T.len (by decide +kernel) (pa_cons (pv 2) pa_nil)) pa_nil))))))) (pg_name (i := 3) sc_law_right.nd rfl (Or.inl rfl)) (pss_cons (ps_if (pt_cmpR op_ne (pe_callB (call_reprA hgu (u66 hr)) rfl T.repr (by decide +kernel) (pa_cons (pe_fd G_row_at (hr.mono (by first | decide | omega)) rfl (pa_cons (pv 1) (pa_cons (pv 3) pa_nil))) pa_nil)) (pe_callB (call_reprA hgu (u66 hr)) rfl T.repr (by decide +kernel) (pa_cons (pe_ix ix_tup (pv 2) (pv 3) (fun _ _ => rfl)) pa_nil)) (nomark _)) (pss_one (ps_ret pe_bl)) pss_nil)
  (pss_one (ps_if (pt_cmpR op_ne (pe_callB (call_reprA hgu (u66 hr)) rfl T.repr (by decide +kernel) (pa_cons (pe_fdKw K_number_of (hr.mono (by decide)) rfl (pk_cons (pe_ix ix_tup (pv 2) (pv 3) (fun _ _ => rfl)) (pk_cons (pv 1) pk_nil))) pa_nil)) (pe_callB (call_reprA hgu (u66 hr)) rfl T.repr (by decide +kernel) (pa_cons (pe_callTy call_int1 rfl T.int (by decide +kernel) (pa_cons (pv 3) pa_nil)) pa_nil)) (nomark _)) (pss_one (ps_ret pe_bl)) pss_nil))))
  (pss_cons (ps_set (i := 4) sc_law_right.nd rfl (Or.inl rfl) (pe_fd G_law_drawn_row (hr.mono (by first | decide | omega)) rfl (pa_cons (pv 0) (pa_cons (pv 1) (pa_cons pe_bl pa_nil)))))
  (pss_one (ps_ret (pe_cmpR op_eq (pe_callB (call_reprA hgu (u66 hr)) rfl T.repr (by decide +kernel) (pa_cons (pe_fdKw K_row_at (hr.mono (by decide)) rfl (pk_cons (pe_fd G_number_of (hr.mono (by decide)) rfl (pa_cons (pv 1) (pa_cons (pv 4) pa_nil))) (pk_cons (pv 1) pk_nil))) pa_nil)) (pe_callB (call_reprA hgu (u66 hr)) rfl T.repr (by decide +kernel) (pa_cons (pv 4) pa_nil)) (nomark _))))))))), ?_⟩
  refine seq_in ?_
  refine ⟨_, rfl, szl (by show 8 ≤ _; decide), fun l0 nl0 => ?_⟩
  have n0 := but_none (But.refl [pt] H) hP nl0
  refine ⟨pt, l0, _, 0, rfl, .of upd_same, n0.2, fun z => (by cases z), by show 8 < 1000000; decide, by decide, pot_sm (same_new nl0 _) hP, fun i0 v0 H1 hv0 g1 hP1 => ?_⟩
  obtain ⟨n, rfl, h1, h4⟩ : ∃ n : Nat, v0 = .int n ∧ 1 ≤ n ∧ n ≤ 4 := by
    have := List.mem_of_getElem? hv0
    simp only [List.mem_cons, List.not_mem_nil, or_false] at this
    rcases this with rfl | rfl | rfl | rfl | rfl | rfl | rfl | rfl
    · exact ⟨1, rfl, by decide, by decide⟩
    · exact ⟨2, rfl, by decide, by decide⟩
    · exact ⟨3, rfl, by decide, by decide⟩
    · exact ⟨3, rfl, by decide, by decide⟩
    · exact ⟨4, rfl, by decide, by decide⟩
    · exact ⟨4, rfl, by decide, by decide⟩
    · exact ⟨4, rfl, by decide, by decide⟩
    · exact ⟨4, rfl, by decide, by decide⟩
  have f1 : But [pt] H H1 := (But.of (same_new nl0 _)).trans g1
  refine g_set ?_
  refine nx_in ?_
  refine seq_in ?_
  refine asg_in ?_
  refine ⟨_, rfl, n, rfl, h1, by omega, fun t ys rows H2 g2 ht hch hs hp hl => ?_⟩
  have e := er_eq hs hp
  subst e
  have hyl := pr_len hch
  have hel := er_le h1 h4
  have hP2 := pot_sm g2 hP1
  have f2 := f1.trans (.of g2)
  refine g_set ?_
  refine nx_in ?_
  refine seq_in ?_
  have hix : atI [V.int 1, .int 3, .int 13, .int 75, .int 541] ((n : Int) - 1) = some (.int (ys.length : Nat)) := by
    rw [hyl]
    obtain ⟨a, b, c, d⟩ := er_len
    rcases (show n = 1 ∨ n = 2 ∨ n = 3 ∨ n = 4 by omega) with rfl | rfl | rfl | rfl
    · rw [a]; rfl
    · rw [b]; rfl
    · rw [c]; rfl
    · rw [d]; rfl
  refine ⟨_, rfl, _, ys.length, rfl, .inr ⟨_, ht.sq, rfl⟩, szl (by show 5 ≤ _; decide), fun lq nlq => ⟨_, rfl, _, _, rfl, rfl, lq, _, _, _, rfl, rfl, .of upd_same, hix, rfl, _, rfl, ?_⟩⟩
  have s3 := same_new nlq (.lst [.int 1, .int 3, .int 13, .int 75, .int 541])
  rw [decide_eq_true rfl]
  refine iteF ?_
  obtain ⟨ot, ht, hod⟩ := ht
  have ht3 := s3 _ _ ht
  have hch3 := pr_imp (fun _ _ h => RowAt.same s3 h) hch
  have hP3 := pot_sm s3 hP2
  have f3 := f2.trans (.of s3)
  generalize upd H2 lq (.lst [.int 1, .int 3, .int 13, .int 75, .int 541]) = H3 at ht3 hch3 hP3 f3 ⊢
  clear s3 ht hch nlq
  refine ⟨_, rfl, .ref t, rowsP (erM n), 4, 2325, rfl, .tup (TF.sq ⟨ot, ht3, hod⟩) (rows_dp hch3), rowsP_sm h1 h4, by decide, by decide, ?_⟩
  refine ⟨_, rfl, n, rfl, h1, h4, fun t2 ys2 H4 g4 ht2 hch2 => ⟨.ref t2, rowsP (erM n), 4, 2325, rfl, .tup (.of ht2) (rows_dp hch2), rowsP_sm h1 h4, by decide, by decide, rfl, _, rfl, ?_⟩⟩
  rw [decide_eq_true rfl]
  refine iteF ?_
  have ht4 := g4 _ _ ht3
  have hch4 := pr_imp (fun _ _ h => RowAt.same g4 h) hch3
  have hP4 := pot_sm g4 hP3
  have f4 := f3.trans (.of g4)
  clear hch2 ht2 hch3 ht3 hP3
  refine next_in ?_
  refine nx_in ?_
  refine seq_in ?_
  have hy0 : 1 ≤ ys.length ∧ ys.length ≤ 75 := by omega
  refine ⟨_, rfl, _, ys.length, rfl, .inr ⟨_, TF.sq ⟨ot, ht4, hod⟩, rfl⟩, _, _, rfl, rfl, szl (by show 2 ≤ _; decide), fun la nla => ⟨(4 : Int), rfl, by decide, by decide, fun DD hDD => ?_⟩⟩
  have s5 := same_new nla (.lst [.int 0, .int ((ys.length : Nat) - 1)])
  have e0 : [V.int 0, .int (((ys.length : Nat) : Int) - 1)] = iL [0, ys.length - 1] := by
    show _ = [V.int ((0 : Nat) : Int), .int ((ys.length - 1 : Nat) : Int)]
    rw [show ((ys.length - 1 : Nat) : Int) = ((ys.length : Nat) : Int) - 1 by omega]; rfl
  have hla : upd H4 la (.lst [.int 0, .int (((ys.length : Nat) : Int) - 1)]) la = some (.lst (iL [0, ys.length - 1])) := by rw [upd_same, e0]
  have nla' := but_none f4 hP4 nla
  have hP5 := pot_sm s5 hP4
  have f5 := f4.trans (.of s5)
  have ht5 := s5 _ _ ht4
  have hch5 := pr_imp (fun _ _ h => RowAt.same s5 h) hch4
  have htp : t ≠ pt := fun z => by obtain ⟨a, b, c, e, _⟩ := hP4; rw [z, e] at ht4; cases ht4
  generalize upd H4 la (.lst [.int 0, .int (((ys.length : Nat) : Int) - 1)]) = H5 at hla hP5 f5 ht5 hch5 hDD ⊢
  clear s5 nla
  have nDD := but_none f5 hP5 hDD
  refine lc_it (walk_range (lo := 0) (n := 4)) (fun i H' => But [pt] H5 H' ∧ PotAt H' pt (1 + i) ∧ ∃ ks : List Nat, H' DD = some (.lst (iL ks)) ∧ ks.length = i ∧ ∀ x ∈ ks, x < ys.length) ⟨.of (same_new hDD _), pot_sm (same_new hDD _) hP5, [], upd_same, rfl, fun x hx => by cases hx⟩ (fun _ _ _ _ => True.intro) ?_ ?_
  · rintro i x H6 H6' hi ⟨g6, hP6, ks, hks, hkl, hkb⟩ ⟨rfl, rfl⟩
    refine ⟨rfl, yes_in ?_⟩
    have ht6 := g6 _ _ (by simpa using htp) ht5
    refine ⟨_, rfl, _, rfl, _, ys.length, rfl, .inr ⟨_, TF.sq ⟨ot, ht6, hod⟩, rfl⟩, pt, ys.length, 1 + i, rfl, by omega, by omega, by omega, hP6, fun d H7 hd g7 hP7 => ?_⟩
    have hD7 := g7 _ _ (by simpa using nDD.2) hks
    refine ⟨iL ks, hD7, szt (by rw [List.length_map]; omega), but_put (g6.trans g7) hDD, pot_put hP7 nDD.2, ks ++ [d], by rw [upd_same]; unfold iL; rw [List.map_append]; rfl, by rw [List.length_append, hkl]; rfl, fun x hx => ?_⟩
    rcases List.mem_append.mp hx with z | z
    · exact hkb x z
    · rw [List.mem_singleton.mp z]; omega
  rintro H6 ⟨g6, hP6, ks, hks, hkl, hkb⟩
  have hla6 := g6 _ _ (by simpa using nla'.2) hla
  refine ⟨la, DD, _, _, rfl, rfl, hla6, hks, szl (by rw [List.length_map, List.length_map]; show 2 + _ ≤ _; omega), fun m nm => ⟨m, rfl, ⟨_, .of upd_same⟩, ?_⟩⟩
  have ecat : iL [0, ys.length - 1] ++ iL ks = iL ([0, ys.length - 1] ++ ks) := List.map_append.symm
  rw [ecat]
  have hjs : ∀ x ∈ [0, ys.length - 1] ++ ks, x < ys.length := fun x hx => by
    rcases List.mem_append.mp hx with z | z
    · simp only [List.mem_cons, List.not_mem_nil, or_false] at z
      rcases z with rfl | rfl <;> omega
    · exact hkb x z
  generalize [0, ys.length - 1] ++ ks = js at hjs
  have s7 := same_new nm (.lst (iL js))
  have htk : TK H5 H6 := TK.but g6 (fun a ha => by
    obtain ⟨x, y, z, e, _⟩ := hP5
    rw [List.mem_singleton.mp ha, e]; exact fun z => z.elim)
  have f7 := (f5.trans g6).trans (.of s7)
  have hP7 := pot_sm s7 hP6
  have hm7 : upd H6 m (.lst (iL js)) m = some (.lst (iL js)) := upd_same
  have ht7 := s7 _ _ (g6 _ _ (by simpa using htp) ht5)
  have hch7 := pr_imp (fun _ _ h => RowAt.tk (htk.trans (.of s7)) h) hch5
  generalize upd H6 m (.lst (iL js)) = H7 at f7 hP7 hm7 ht7 hch7 ⊢
  clear s7 htk hla6 hks hla hch5 hch4 ht5 ht4 hP6 hP5 hP4 g6 f5 f4 f3 f2 f1
  refine for_list (K := K) (a := m) (xs := iL js) (fun i σ H' => ∃ u3, σ = [some (.ref pt), some (.int n), some (.ref t), u3, none, none] ∧ Same H7 H') ⟨_, rfl, Same.refl _⟩ ?_ ?_ ?_
  · rintro i σ H' _ ⟨u3, rfl, g⟩
    exact .of (g _ _ hm7)
  · rintro i x σ H8 hx ⟨u3, rfl, g8⟩
    rw [List.getElem?_map] at hx
    obtain ⟨j, hj, rfl⟩ := Option.map_eq_some_iff.mp hx
    have hjl := hjs j (List.mem_of_getElem? hj)
    have hv : ys[j]? = some (ys[j]'hjl) := List.getElem?_eq_getElem hjl
    generalize ys[j]'hjl = v at hv
    obtain ⟨r, hr', hrow⟩ := pr_left hch7 hv
    have R := er_row h1 h4 (List.mem_of_getElem? hr')
    have ht8 := g8 _ _ ht7
    have hrow8 := hrow.same g8
    refine g_set ?_
    refine seq_in ?_
    refine ⟨_, rfl, _, rfl, n, j, rfl, h1, by omega, by omega, fun y r2 H9 g9 hy hr2 => ?_⟩
    obtain rfl : r2 = r := by rw [hr'] at hr2; exact (Option.some.inj hr2).symm
    refine ⟨y, rowP r2, 3, 30, rfl, row_dp hy, rowP_sm (by omega) R, by decide, by decide, ?_⟩
    refine ⟨_, rfl, _, rfl, t, ys, _, v, rfl, rfl, TF.sq ⟨ot, g9 _ _ ht8, hod⟩, atI_nat hv, v, rowP r2, 3, 30, rfl, row_dp (hrow8.same g9), rowP_sm (by omega) R, by decide, by decide, rfl, _, rfl, ?_⟩
    rw [decide_eq_true rfl]
    refine iteF ?_
    refine next_in ?_
    refine nx_in ?_
    have rl := rowok_le R
    have g89 := g8.trans g9
    refine ⟨_, rfl, _, rfl, t, ys, _, v, rfl, rfl, TF.sq ⟨ot, g89 _ _ ht7, hod⟩, atI_nat hv, _, rfl, rfl, n, v, r2, rfl, h1, by omega, hrow.same g89, row_dv (hrow.same g89) (fun l hl => by have := rl.2 l hl; omega) (by omega), R, fun j2 H10 g10 hj2 hno => ?_⟩
    have ej : j2 = j := by
      have := (List.getElem?_inj (get_lt hj2) (er_ok n h1 h4).2).mp (hj2.trans hr'.symm)
      exact this
    subst ej
    refine ⟨_, _, 1, 0, rfl, .int _, Sm.int (by omega) (by omega), by decide, by decide, _, rfl, .inl ⟨_, rfl, _, _, 1, 0, rfl, .int _, Sm.int (by omega) (by omega), by decide, by decide, rfl, _, rfl, ?_⟩⟩
    rw [decide_eq_true rfl]
    refine iteF ?_
    exact ⟨_, rfl, g89.trans g10⟩
  · rintro σ H8 ⟨u3, rfl, g8⟩
    refine nx_in ?_
    refine seq_in ?_
    have hP8 := pot_sm g8 hP7
    refine ⟨_, rfl, _, rfl, pt, n, 1 + 4, true, rfl, h1, by omega, by decide, hP8, fun v H9 d g9 hP9 dv _ hw => ?_⟩
    obtain ⟨r, rfl, R⟩ := whole_row h1 (hw rfl)
    refine g_set ?_
    refine nx_in ?_
    refine ret_in ?_
    have hrow := dv_row dv
    have rl := rowok_le R
    refine ⟨_, rfl, _, rfl, n, v, r, rfl, h1, by omega, hrow, dv, R, fun j H10 g10 hj _ => ?_⟩
    refine ⟨_, rfl, rfl, n, j, rfl, h1, by omega, get_lt hj, fun y r2 H11 g11 hy hr2 => ?_⟩
    obtain rfl : r2 = r := by rw [hj] at hr2; exact (Option.some.inj hr2).symm
    refine ⟨y, rowP r2, 3, 30, rfl, row_dp hy, rowP_sm (by omega) R, by decide, by decide, ?_⟩
    refine ⟨_, rfl, v, rowP r2, 3, 30, rfl, row_dp (hrow.same (g10.trans g11)), rowP_sm (by omega) R, by decide, by decide, rfl, ?_⟩
    rw [decide_eq_true rfl]
    exact q _ (((f7.trans (.of g8)).trans g9).trans (.of (g10.trans g11)))
end
end Fp
namespace Fp
open PySem PySem.Spec PyProof.Rows L2
def spLaw (K : PySem.W.Frag) : Sp := fun vs H Q _ => ∃ (a : Addr) (ns : List Int), vs = [.ref a] ∧ SqL K H a (ns.map V.int) ∧ ns.length ≤ 63 ∧ ∀ H', Q (.bl true) H'
section
variable {P : Program} {w : World} {K : PySem.W.Frag} {mg : Str → Option Value} {base : Heap} {f : Addr} {fd : FuncData}
abbrev s_law : Stmt := top 34
theorem sc_law : FnScope ["script", "place"] ["script"] (defScope s_law) := ⟨rfl, rfl, rfl, by decide +kernel, rfl, by decide +kernel, by decide +kernel⟩
theorem ok_law (F : Fun K "law" "law" s_law f fd) (T : LTx mg) (G_law_cells : Fd P w K mg base CX0 "_law_cells" 1 ["script", "limit"] (spCells K)) (G_law_pot : Fd P w K mg base CX0 "_law_pot" 1 ["script", "place"] (spPot K)) (G_law_right : FdG P w K mg base CX0 "_law_right" 10 ["pot"] spRight) : FnOkG P w K mg base CX0 (10 + 1) f fd ["script"] (spLaw K) := by
  refine fun_okG F sc_law (fun vs H Q E h => ?_) (fun cdv A outer s H vs Q E hr hgu h => ?_)
  · obtain ⟨a, ns, rfl, _⟩ := h
    rfl
  obtain ⟨a, ns, rfl, hS, hl, k⟩ := h
  refine ⟨_, (pss_one (ps_ret (pe_callB (cr_all rfl) rfl T.all (by decide +kernel) (pa_cons (pe_lc (own := [("place", 1)]) (g := (gName 1)) (tt := tYes) rfl sc_law.nd (pi_list (pe_fd G_law_cells (hr.mono (by first | decide | omega)) rfl (pa_cons (pv 0) (pa_cons pe_int pa_nil)))) (blkOk_by (own := [("place", 1)]) (N := ["script", "place"]) (sc := defScope s_law) (by decide +kernel)) (fun _ _ _ _ _ => (pg_name (i := 1) sc_law.nd rfl (Or.inl rfl))) (fun _ _ _ _ _ => pts_nil) (fun _ _ _ _ _ => (pe_fdG G_law_right hr hgu rfl (pa_cons (pe_fd G_law_pot (hr.mono (by decide)) rfl (pa_cons (pv 0) (pa_cons (pv 1) pa_nil))) pa_nil)))) pa_nil)))), ?_⟩
  refine ⟨_, rfl, a, ns, 1, rfl, hS, hl, by decide, fun l H1 n hn g1 hl0 hl1 => ?_⟩
  refine ⟨l, rfl, ⟨_, .of hl1⟩, fun D hD => ?_⟩
  have hlen : ((List.range n).map fun i => V.int (i : Nat)).length = n := by simp
  refine lc_list (K := K) (a := l) (xs := (List.range n).map fun i => V.int (i : Nat)) (fun i H' => Same H1 H' ∧ H' D = some (.lst ((List.replicate i true).map V.bl))) ⟨same_new hD _, upd_same⟩ (fun i H' _ z => .of (z.1 _ _ hl1)) ?_ ?_
  · rintro i x Hi hx ⟨gi, hDi⟩
    have hi : i < n := by have := get_lt hx; rw [hlen] at this; exact this
    have hx' : x = .int (i : Nat) := by
      rw [List.getElem?_map, List.getElem?_range hi] at hx
      exact (Option.some.inj hx).symm
    subst hx'
    refine ⟨rfl, _, rfl, _, rfl, a, ns, i, rfl, gi.seq (g1.seq hS), hl, by omega, fun lp H3 g3 hlp hP => ?_⟩
    have lpD : D ≠ lp := ne_of_none hDi hlp
    refine ⟨lp, rfl, hP, fun H4 g4 => ?_⟩
    refine ⟨_, g4 _ _ (by simpa using lpD) (g3 _ _ hDi), Nat.lt_of_le_of_lt (show _ ≤ 1000 by rw [List.length_map, List.length_replicate]; omega) (by decide), fun b o q => ?_, ?_⟩
    · rw [upd_ne (ne_of_none q hD)]
      have q2 := gi b o q
      exact g4 _ _ (by simpa using ne_of_none q2 hlp) (g3 _ _ q2)
    · rw [upd_same, List.replicate_succ', List.map_append]
      rfl
  · rintro Hi ⟨gi, hDi⟩
    refine ⟨D, List.replicate ((List.range n).map fun i => V.int (i : Nat)).length true, rfl, .of hDi, ?_⟩
    rw [show (List.replicate ((List.range n).map fun i => V.int (i : Nat)).length true).all id = true by simp]
    exact k Hi
end
end Fp
namespace Fp
open PySem PySem.Spec PyProof.Rows L2
theorem all_mk {l : PySem.W.OpenLaw} {w : World} {K : PySem.W.Frag} {h : Heap} {mg : Str → Option Value} {fa : Addr} (X : K.In h) (G : h.Ns mainGlobals mg) (hfa : mg "law" = some (.ref fa))
    {od_is_whole an_is_whole : Option Addr} {sl_is_whole : Array (Option Value)} {oc_is_whole kV_is_whole dc_is_whole pm_is_whole cd_is_whole ct_is_whole : Value} {f_is_whole : Addr}
    (a_is_whole : PySem.W.nsIn K mainGlobals "is_whole" = some (some (.ref f_is_whole)))
    (l_is_whole : K.lookup f_is_whole = some ⟨oc_is_whole, od_is_whole, .func (PySem.W.fnOf "is_whole" "is_whole" (defArgs s_is_whole) (defBody s_is_whole) (defScope s_is_whole) .none kV_is_whole dc_is_whole pm_is_whole an_is_whole cd_is_whole ct_is_whole), sl_is_whole⟩)
    (c_is_whole : PySem.W.codeIn K cd_is_whole "is_whole" = true)
    (k_is_whole : PySem.W.keepIn K (.ref f_is_whole) = true)
    {od_is_lot an_is_lot : Option Addr} {sl_is_lot : Array (Option Value)} {oc_is_lot kV_is_lot dc_is_lot pm_is_lot cd_is_lot ct_is_lot : Value} {f_is_lot : Addr}
    (a_is_lot : PySem.W.nsIn K mainGlobals "is_lot" = some (some (.ref f_is_lot)))
    (l_is_lot : K.lookup f_is_lot = some ⟨oc_is_lot, od_is_lot, .func (PySem.W.fnOf "is_lot" "is_lot" (defArgs s_is_lot) (defBody s_is_lot) (defScope s_is_lot) .none kV_is_lot dc_is_lot pm_is_lot an_is_lot cd_is_lot ct_is_lot), sl_is_lot⟩)
    (c_is_lot : PySem.W.codeIn K cd_is_lot "is_lot" = true)
    (k_is_lot : PySem.W.keepIn K (.ref f_is_lot) = true)
    {od_is_below an_is_below : Option Addr} {sl_is_below : Array (Option Value)} {oc_is_below kV_is_below dc_is_below pm_is_below cd_is_below ct_is_below : Value} {f_is_below : Addr}
    (a_is_below : PySem.W.nsIn K mainGlobals "is_below" = some (some (.ref f_is_below)))
    (l_is_below : K.lookup f_is_below = some ⟨oc_is_below, od_is_below, .func (PySem.W.fnOf "is_below" "is_below" (defArgs s_is_below) (defBody s_is_below) (defScope s_is_below) .none kV_is_below dc_is_below pm_is_below an_is_below cd_is_below ct_is_below), sl_is_below⟩)
    (c_is_below : PySem.W.codeIn K cd_is_below "is_below" = true)
    (k_is_below : PySem.W.keepIn K (.ref f_is_below) = true)
    {od_lot_of an_lot_of : Option Addr} {sl_lot_of : Array (Option Value)} {oc_lot_of kV_lot_of dc_lot_of pm_lot_of cd_lot_of ct_lot_of : Value} {f_lot_of : Addr}
    (a_lot_of : PySem.W.nsIn K mainGlobals "lot_of" = some (some (.ref f_lot_of)))
    (l_lot_of : K.lookup f_lot_of = some ⟨oc_lot_of, od_lot_of, .func (PySem.W.fnOf "lot_of" "lot_of" (defArgs s_lot_of) (defBody s_lot_of) (defScope s_lot_of) .none kV_lot_of dc_lot_of pm_lot_of an_lot_of cd_lot_of ct_lot_of), sl_lot_of⟩)
    (c_lot_of : PySem.W.codeIn K cd_lot_of "lot_of" = true)
    (k_lot_of : PySem.W.keepIn K (.ref f_lot_of) = true)
    {od_lies_in an_lies_in : Option Addr} {sl_lies_in : Array (Option Value)} {oc_lies_in kV_lies_in dc_lies_in pm_lies_in cd_lies_in ct_lies_in : Value} {f_lies_in : Addr}
    (a_lies_in : PySem.W.nsIn K mainGlobals "lies_in" = some (some (.ref f_lies_in)))
    (l_lies_in : K.lookup f_lies_in = some ⟨oc_lies_in, od_lies_in, .func (PySem.W.fnOf "lies_in" "lies_in" (defArgs s_lies_in) (defBody s_lies_in) (defScope s_lies_in) .none kV_lies_in dc_lies_in pm_lies_in an_lies_in cd_lies_in ct_lies_in), sl_lies_in⟩)
    (c_lies_in : PySem.W.codeIn K cd_lies_in "lies_in" = true)
    (k_lies_in : PySem.W.keepIn K (.ref f_lies_in) = true)
    {od_lots_within an_lots_within : Option Addr} {sl_lots_within : Array (Option Value)} {oc_lots_within kV_lots_within dc_lots_within pm_lots_within cd_lots_within ct_lots_within : Value} {f_lots_within : Addr}
    (a_lots_within : PySem.W.nsIn K mainGlobals "lots_within" = some (some (.ref f_lots_within)))
    (l_lots_within : K.lookup f_lots_within = some ⟨oc_lots_within, od_lots_within, .func (PySem.W.fnOf "lots_within" "lots_within" (defArgs s_lots_within) (defBody s_lots_within) (defScope s_lots_within) .none kV_lots_within dc_lots_within pm_lots_within an_lots_within cd_lots_within ct_lots_within), sl_lots_within⟩)
    (c_lots_within : PySem.W.codeIn K cd_lots_within "lots_within" = true)
    (k_lots_within : PySem.W.keepIn K (.ref f_lots_within) = true)
    {od_check_many an_check_many : Option Addr} {sl_check_many : Array (Option Value)} {oc_check_many kV_check_many dc_check_many pm_check_many cd_check_many ct_check_many : Value} {f_check_many : Addr}
    (a_check_many : PySem.W.nsIn K mainGlobals "check_many" = some (some (.ref f_check_many)))
    (l_check_many : K.lookup f_check_many = some ⟨oc_check_many, od_check_many, .func (PySem.W.fnOf "check_many" "check_many" (defArgs s_check_many) (defBody s_check_many) (defScope s_check_many) .none kV_check_many dc_check_many pm_check_many an_check_many cd_check_many ct_check_many), sl_check_many⟩)
    (c_check_many : PySem.W.codeIn K cd_check_many "check_many" = true)
    (k_check_many : PySem.W.keepIn K (.ref f_check_many) = true)
    {od_is_at_once an_is_at_once : Option Addr} {sl_is_at_once : Array (Option Value)} {oc_is_at_once kV_is_at_once dc_is_at_once pm_is_at_once cd_is_at_once ct_is_at_once : Value} {f_is_at_once : Addr}
    (a_is_at_once : PySem.W.nsIn K mainGlobals "is_at_once" = some (some (.ref f_is_at_once)))
    (l_is_at_once : K.lookup f_is_at_once = some ⟨oc_is_at_once, od_is_at_once, .func (PySem.W.fnOf "is_at_once" "is_at_once" (defArgs s_is_at_once) (defBody s_is_at_once) (defScope s_is_at_once) .none kV_is_at_once dc_is_at_once pm_is_at_once an_is_at_once cd_is_at_once ct_is_at_once), sl_is_at_once⟩)
    (c_is_at_once : PySem.W.codeIn K cd_is_at_once "is_at_once" = true)
    (k_is_at_once : PySem.W.keepIn K (.ref f_is_at_once) = true)
    {od_is_view an_is_view : Option Addr} {sl_is_view : Array (Option Value)} {oc_is_view kV_is_view dc_is_view pm_is_view cd_is_view ct_is_view : Value} {f_is_view : Addr}
    (a_is_view : PySem.W.nsIn K mainGlobals "is_view" = some (some (.ref f_is_view)))
    (l_is_view : K.lookup f_is_view = some ⟨oc_is_view, od_is_view, .func (PySem.W.fnOf "is_view" "is_view" (defArgs s_is_view) (defBody s_is_view) (defScope s_is_view) .none kV_is_view dc_is_view pm_is_view an_is_view cd_is_view ct_is_view), sl_is_view⟩)
    (c_is_view : PySem.W.codeIn K cd_is_view "is_view" = true)
    (k_is_view : PySem.W.keepIn K (.ref f_is_view) = true)
    {od_fit an_fit : Option Addr} {sl_fit : Array (Option Value)} {oc_fit kV_fit dc_fit pm_fit cd_fit ct_fit : Value} {f_fit : Addr}
    (a_fit : PySem.W.nsIn K mainGlobals "fit" = some (some (.ref f_fit)))
    (l_fit : K.lookup f_fit = some ⟨oc_fit, od_fit, .func (PySem.W.fnOf "fit" "fit" (defArgs s_fit) (defBody s_fit) (defScope s_fit) .none kV_fit dc_fit pm_fit an_fit cd_fit ct_fit), sl_fit⟩)
    (c_fit : PySem.W.codeIn K cd_fit "fit" = true)
    (k_fit : PySem.W.keepIn K (.ref f_fit) = true)
    {od_is_whole_row an_is_whole_row : Option Addr} {sl_is_whole_row : Array (Option Value)} {oc_is_whole_row kV_is_whole_row dc_is_whole_row pm_is_whole_row cd_is_whole_row ct_is_whole_row : Value} {f_is_whole_row : Addr}
    (a_is_whole_row : PySem.W.nsIn K mainGlobals "is_whole_row" = some (some (.ref f_is_whole_row)))
    (l_is_whole_row : K.lookup f_is_whole_row = some ⟨oc_is_whole_row, od_is_whole_row, .func (PySem.W.fnOf "is_whole_row" "is_whole_row" (defArgs s_is_whole_row) (defBody s_is_whole_row) (defScope s_is_whole_row) .none kV_is_whole_row dc_is_whole_row pm_is_whole_row an_is_whole_row cd_is_whole_row ct_is_whole_row), sl_is_whole_row⟩)
    (c_is_whole_row : PySem.W.codeIn K cd_is_whole_row "is_whole_row" = true)
    (k_is_whole_row : PySem.W.keepIn K (.ref f_is_whole_row) = true)
    {od_every_row an_every_row : Option Addr} {sl_every_row : Array (Option Value)} {oc_every_row kV_every_row dc_every_row pm_every_row cd_every_row ct_every_row : Value} {f_every_row : Addr}
    (a_every_row : PySem.W.nsIn K mainGlobals "every_row" = some (some (.ref f_every_row)))
    (l_every_row : K.lookup f_every_row = some ⟨oc_every_row, od_every_row, .func (PySem.W.fnOf "every_row" "every_row" (defArgs s_every_row) (defBody s_every_row) (defScope s_every_row) .none kV_every_row dc_every_row pm_every_row an_every_row cd_every_row ct_every_row), sl_every_row⟩)
    (c_every_row : PySem.W.codeIn K cd_every_row "every_row" = true)
    (k_every_row : PySem.W.keepIn K (.ref f_every_row) = true)
    {od_ways_down an_ways_down : Option Addr} {sl_ways_down : Array (Option Value)} {oc_ways_down kV_ways_down dc_ways_down pm_ways_down cd_ways_down ct_ways_down : Value} {f_ways_down : Addr}
    (a_ways_down : PySem.W.nsIn K mainGlobals "ways_down" = some (some (.ref f_ways_down)))
    (l_ways_down : K.lookup f_ways_down = some ⟨oc_ways_down, od_ways_down, .func (PySem.W.fnOf "ways_down" "ways_down" (defArgs s_ways_down) (defBody s_ways_down) (defScope s_ways_down) .none kV_ways_down dc_ways_down pm_ways_down an_ways_down cd_ways_down ct_ways_down), sl_ways_down⟩)
    (c_ways_down : PySem.W.codeIn K cd_ways_down "ways_down" = true)
    (k_ways_down : PySem.W.keepIn K (.ref f_ways_down) = true)
    {od_row_of an_row_of : Option Addr} {sl_row_of : Array (Option Value)} {oc_row_of kV_row_of dc_row_of pm_row_of cd_row_of ct_row_of : Value} {f_row_of : Addr}
    (a_row_of : PySem.W.nsIn K mainGlobals "row_of" = some (some (.ref f_row_of)))
    (l_row_of : K.lookup f_row_of = some ⟨oc_row_of, od_row_of, .func (PySem.W.fnOf "row_of" "row_of" (defArgs s_row_of) (defBody s_row_of) (defScope s_row_of) .none kV_row_of dc_row_of pm_row_of an_row_of cd_row_of ct_row_of), sl_row_of⟩)
    (c_row_of : PySem.W.codeIn K cd_row_of "row_of" = true)
    (k_row_of : PySem.W.keepIn K (.ref f_row_of) = true)
    {od_row_at an_row_at : Option Addr} {sl_row_at : Array (Option Value)} {oc_row_at kV_row_at dc_row_at pm_row_at cd_row_at ct_row_at : Value} {f_row_at : Addr}
    (a_row_at : PySem.W.nsIn K mainGlobals "row_at" = some (some (.ref f_row_at)))
    (l_row_at : K.lookup f_row_at = some ⟨oc_row_at, od_row_at, .func (PySem.W.fnOf "row_at" "row_at" (defArgs s_row_at) (defBody s_row_at) (defScope s_row_at) .none kV_row_at dc_row_at pm_row_at an_row_at cd_row_at ct_row_at), sl_row_at⟩)
    (c_row_at : PySem.W.codeIn K cd_row_at "row_at" = true)
    (k_row_at : PySem.W.keepIn K (.ref f_row_at) = true)
    {od_number_of an_number_of : Option Addr} {sl_number_of : Array (Option Value)} {oc_number_of kV_number_of dc_number_of pm_number_of cd_number_of ct_number_of : Value} {f_number_of : Addr}
    (a_number_of : PySem.W.nsIn K mainGlobals "number_of" = some (some (.ref f_number_of)))
    (l_number_of : K.lookup f_number_of = some ⟨oc_number_of, od_number_of, .func (PySem.W.fnOf "number_of" "number_of" (defArgs s_number_of) (defBody s_number_of) (defScope s_number_of) .none kV_number_of dc_number_of pm_number_of an_number_of cd_number_of ct_number_of), sl_number_of⟩)
    (c_number_of : PySem.W.codeIn K cd_number_of "number_of" = true)
    (k_number_of : PySem.W.keepIn K (.ref f_number_of) = true)
    {od_law_pot an_law_pot : Option Addr} {sl_law_pot : Array (Option Value)} {oc_law_pot kV_law_pot dc_law_pot pm_law_pot cd_law_pot ct_law_pot : Value} {f_law_pot : Addr}
    (a_law_pot : PySem.W.nsIn K mainGlobals "_law_pot" = some (some (.ref f_law_pot)))
    (l_law_pot : K.lookup f_law_pot = some ⟨oc_law_pot, od_law_pot, .func (PySem.W.fnOf "_law_pot" "_law_pot" (defArgs s_law_pot) (defBody s_law_pot) (defScope s_law_pot) .none kV_law_pot dc_law_pot pm_law_pot an_law_pot cd_law_pot ct_law_pot), sl_law_pot⟩)
    (c_law_pot : PySem.W.codeIn K cd_law_pot "_law_pot" = true)
    (k_law_pot : PySem.W.keepIn K (.ref f_law_pot) = true)
    {od_law_take an_law_take : Option Addr} {sl_law_take : Array (Option Value)} {oc_law_take kV_law_take dc_law_take pm_law_take cd_law_take ct_law_take : Value} {f_law_take : Addr}
    (a_law_take : PySem.W.nsIn K mainGlobals "_law_take" = some (some (.ref f_law_take)))
    (l_law_take : K.lookup f_law_take = some ⟨oc_law_take, od_law_take, .func (PySem.W.fnOf "_law_take" "_law_take" (defArgs s_law_take) (defBody s_law_take) (defScope s_law_take) .none kV_law_take dc_law_take pm_law_take an_law_take cd_law_take ct_law_take), sl_law_take⟩)
    (c_law_take : PySem.W.codeIn K cd_law_take "_law_take" = true)
    (k_law_take : PySem.W.keepIn K (.ref f_law_take) = true)
    {od_law_of an_law_of : Option Addr} {sl_law_of : Array (Option Value)} {oc_law_of kV_law_of dc_law_of pm_law_of cd_law_of ct_law_of : Value} {f_law_of : Addr}
    (a_law_of : PySem.W.nsIn K mainGlobals "_law_of" = some (some (.ref f_law_of)))
    (l_law_of : K.lookup f_law_of = some ⟨oc_law_of, od_law_of, .func (PySem.W.fnOf "_law_of" "_law_of" (defArgs s_law_of) (defBody s_law_of) (defScope s_law_of) .none kV_law_of dc_law_of pm_law_of an_law_of cd_law_of ct_law_of), sl_law_of⟩)
    (c_law_of : PySem.W.codeIn K cd_law_of "_law_of" = true)
    (k_law_of : PySem.W.keepIn K (.ref f_law_of) = true)
    {od_law_some an_law_some : Option Addr} {sl_law_some : Array (Option Value)} {oc_law_some kV_law_some dc_law_some pm_law_some cd_law_some ct_law_some : Value} {f_law_some : Addr}
    (a_law_some : PySem.W.nsIn K mainGlobals "_law_some" = some (some (.ref f_law_some)))
    (l_law_some : K.lookup f_law_some = some ⟨oc_law_some, od_law_some, .func (PySem.W.fnOf "_law_some" "_law_some" (defArgs s_law_some) (defBody s_law_some) (defScope s_law_some) .none kV_law_some dc_law_some pm_law_some an_law_some cd_law_some ct_law_some), sl_law_some⟩)
    (c_law_some : PySem.W.codeIn K cd_law_some "_law_some" = true)
    (k_law_some : PySem.W.keepIn K (.ref f_law_some) = true)
    {od_law_cells an_law_cells : Option Addr} {sl_law_cells : Array (Option Value)} {oc_law_cells kV_law_cells dc_law_cells pm_law_cells cd_law_cells ct_law_cells : Value} {f_law_cells : Addr}
    (a_law_cells : PySem.W.nsIn K mainGlobals "_law_cells" = some (some (.ref f_law_cells)))
    (l_law_cells : K.lookup f_law_cells = some ⟨oc_law_cells, od_law_cells, .func (PySem.W.fnOf "_law_cells" "_law_cells" (defArgs s_law_cells) (defBody s_law_cells) (defScope s_law_cells) .none kV_law_cells dc_law_cells pm_law_cells an_law_cells cd_law_cells ct_law_cells), sl_law_cells⟩)
    (c_law_cells : PySem.W.codeIn K cd_law_cells "_law_cells" = true)
    (k_law_cells : PySem.W.keepIn K (.ref f_law_cells) = true)
    {od_law_drawn_row an_law_drawn_row : Option Addr} {sl_law_drawn_row : Array (Option Value)} {oc_law_drawn_row kV_law_drawn_row dc_law_drawn_row pm_law_drawn_row cd_law_drawn_row ct_law_drawn_row : Value} {f_law_drawn_row : Addr}
    (a_law_drawn_row : PySem.W.nsIn K mainGlobals "_law_drawn_row" = some (some (.ref f_law_drawn_row)))
    (l_law_drawn_row : K.lookup f_law_drawn_row = some ⟨oc_law_drawn_row, od_law_drawn_row, .func (PySem.W.fnOf "_law_drawn_row" "_law_drawn_row" (defArgs s_law_drawn_row) (defBody s_law_drawn_row) (defScope s_law_drawn_row) .none kV_law_drawn_row dc_law_drawn_row pm_law_drawn_row an_law_drawn_row cd_law_drawn_row ct_law_drawn_row), sl_law_drawn_row⟩)
    (c_law_drawn_row : PySem.W.codeIn K cd_law_drawn_row "_law_drawn_row" = true)
    (k_law_drawn_row : PySem.W.keepIn K (.ref f_law_drawn_row) = true)
    {od_law_every an_law_every : Option Addr} {sl_law_every : Array (Option Value)} {oc_law_every kV_law_every dc_law_every pm_law_every cd_law_every ct_law_every : Value} {f_law_every : Addr}
    (a_law_every : PySem.W.nsIn K mainGlobals "_law_every" = some (some (.ref f_law_every)))
    (l_law_every : K.lookup f_law_every = some ⟨oc_law_every, od_law_every, .func (PySem.W.fnOf "_law_every" "_law_every" (defArgs s_law_every) (defBody s_law_every) (defScope s_law_every) .none kV_law_every dc_law_every pm_law_every an_law_every cd_law_every ct_law_every), sl_law_every⟩)
    (c_law_every : PySem.W.codeIn K cd_law_every "_law_every" = true)
    (k_law_every : PySem.W.keepIn K (.ref f_law_every) = true)
    {od_law_right an_law_right : Option Addr} {sl_law_right : Array (Option Value)} {oc_law_right kV_law_right dc_law_right pm_law_right cd_law_right ct_law_right : Value} {f_law_right : Addr}
    (a_law_right : PySem.W.nsIn K mainGlobals "_law_right" = some (some (.ref f_law_right)))
    (l_law_right : K.lookup f_law_right = some ⟨oc_law_right, od_law_right, .func (PySem.W.fnOf "_law_right" "_law_right" (defArgs s_law_right) (defBody s_law_right) (defScope s_law_right) .none kV_law_right dc_law_right pm_law_right an_law_right cd_law_right ct_law_right), sl_law_right⟩)
    (c_law_right : PySem.W.codeIn K cd_law_right "_law_right" = true)
    (k_law_right : PySem.W.keepIn K (.ref f_law_right) = true)
    {od_law an_law : Option Addr} {sl_law : Array (Option Value)} {oc_law kV_law dc_law pm_law cd_law ct_law : Value} {f_law : Addr}
    (a_law : PySem.W.nsIn K mainGlobals "law" = some (some (.ref f_law)))
    (l_law : K.lookup f_law = some ⟨oc_law, od_law, .func (PySem.W.fnOf "law" "law" (defArgs s_law) (defBody s_law) (defScope s_law) .none kV_law dc_law pm_law an_law cd_law ct_law), sl_law⟩)
    (c_law : PySem.W.codeIn K cd_law "law" = true)
    (k_law : PySem.W.keepIn K (.ref f_law) = true)
    (z_isinstance : PySem.W.nsIn K mainGlobals "isinstance" = some none)
    (z_int : PySem.W.nsIn K mainGlobals "int" = some none)
    (z_bool : PySem.W.nsIn K mainGlobals "bool" = some none)
    (z_tuple : PySem.W.nsIn K mainGlobals "tuple" = some none)
    (z_list : PySem.W.nsIn K mainGlobals "list" = some none)
    (z_all : PySem.W.nsIn K mainGlobals "all" = some none)
    (z_any : PySem.W.nsIn K mainGlobals "any" = some none)
    (z_len : PySem.W.nsIn K mainGlobals "len" = some none)
    (z_sum : PySem.W.nsIn K mainGlobals "sum" = some none)
    (z_abs : PySem.W.nsIn K mainGlobals "abs" = some none)
    (z_max : PySem.W.nsIn K mainGlobals "max" = some none)
    (z_min : PySem.W.nsIn K mainGlobals "min" = some none)
    (z_range : PySem.W.nsIn K mainGlobals "range" = some none)
    (z_repr : PySem.W.nsIn K mainGlobals "repr" = some none)
    (z_set : PySem.W.nsIn K mainGlobals "set" = some none)
    (z_sorted : PySem.W.nsIn K mainGlobals "sorted" = some none)
    (z_zip : PySem.W.nsIn K mainGlobals "zip" = some none)
    (z_enumerate : PySem.W.nsIn K mainGlobals "enumerate" = some none)
    (z_str : PySem.W.nsIn K mainGlobals "str" = some none)
    {t_MOST_HANDS : Tok}
    (v_MOST_HANDS : PySem.W.nsIn K mainGlobals "MOST_HANDS" = some (some (.int 5 t_MOST_HANDS))) :
    ∃ fd : FuncData, (∀ (s : Shared) (v : Value), BindsTo s fd ⟨[v], []⟩ [("script", v)]) ∧ ∀ base : Heap, K.In base → base.Ns mainGlobals mg → FnOkG l.prog w K mg base CX0 (10 + 1) fa fd ["script"] (spLaw K) := by
  have e := hfa.symm.trans (PySem.W.mg_of X G a_law)
  cases e
  have F_is_whole := fun_mk (st := s_is_whole) l_is_whole c_is_whole k_is_whole
  have b_is_whole := F_is_whole.binds (ps := ["value"]) fun _ _ _ _ _ _ us hl => match us, hl with | [_], _ => rfl
  have F_is_lot := fun_mk (st := s_is_lot) l_is_lot c_is_lot k_is_lot
  have b_is_lot := F_is_lot.binds (ps := ["value"]) fun _ _ _ _ _ _ us hl => match us, hl with | [_], _ => rfl
  have F_is_below := fun_mk (st := s_is_below) l_is_below c_is_below k_is_below
  have b_is_below := F_is_below.binds (ps := ["value", "many"]) fun _ _ _ _ _ _ us hl => match us, hl with | [_, _], _ => rfl
  have F_lot_of := fun_mk (st := s_lot_of) l_lot_of c_lot_of k_lot_of
  have b_lot_of := F_lot_of.binds (ps := ["words"]) fun _ _ _ _ _ _ us hl => match us, hl with | [_], _ => rfl
  have F_lies_in := fun_mk (st := s_lies_in) l_lies_in c_lies_in k_lies_in
  have b_lies_in := F_lies_in.binds (ps := ["lot", "other"]) fun _ _ _ _ _ _ us hl => match us, hl with | [_, _], _ => rfl
  have F_lots_within := fun_mk (st := s_lots_within) l_lots_within c_lots_within k_lots_within
  have b_lots_within := F_lots_within.binds (ps := ["words"]) fun _ _ _ _ _ _ us hl => match us, hl with | [_], _ => rfl
  have F_check_many := fun_mk (st := s_check_many) l_check_many c_check_many k_check_many
  have b_check_many := F_check_many.binds (ps := ["many"]) fun _ _ _ _ _ _ us hl => match us, hl with | [_], _ => rfl
  have F_is_at_once := fun_mk (st := s_is_at_once) l_is_at_once c_is_at_once k_is_at_once
  have b_is_at_once := F_is_at_once.binds (ps := ["many", "value"]) fun _ _ _ _ _ _ us hl => match us, hl with | [_, _], _ => rfl
  have F_is_view := fun_mk (st := s_is_view) l_is_view c_is_view k_is_view
  have b_is_view := F_is_view.binds (ps := ["many", "hand", "value"]) fun _ _ _ _ _ _ us hl => match us, hl with | [_, _, _], _ => rfl
  have F_fit := fun_mk (st := s_fit) l_fit c_fit k_fit
  have b_fit := F_fit.binds (ps := ["one", "other"]) fun _ _ _ _ _ _ us hl => match us, hl with | [_, _], _ => rfl
  have F_is_whole_row := fun_mk (st := s_is_whole_row) l_is_whole_row c_is_whole_row k_is_whole_row
  have b_is_whole_row := F_is_whole_row.binds (ps := ["many", "value"]) fun _ _ _ _ _ _ us hl => match us, hl with | [_, _], _ => rfl
  have F_every_row := fun_mk (st := s_every_row) l_every_row c_every_row k_every_row
  have b_every_row := F_every_row.binds (ps := ["many"]) fun _ _ _ _ _ _ us hl => match us, hl with | [_], _ => rfl
  have F_ways_down := fun_mk (st := s_ways_down) l_ways_down c_ways_down k_ways_down
  have b_ways_down := F_ways_down.binds (ps := ["many", "came"]) fun _ _ _ _ _ _ us hl => match us, hl with | [_, _], _ => rfl
  have F_row_of := fun_mk (st := s_row_of) l_row_of c_row_of k_row_of
  have b_row_of := F_row_of.binds (ps := ["many", "views"]) fun _ _ _ _ _ _ us hl => match us, hl with | [_, _], _ => rfl
  have F_row_at := fun_mk (st := s_row_at) l_row_at c_row_at k_row_at
  have b_row_at := F_row_at.binds (ps := ["many", "number"]) fun _ _ _ _ _ _ us hl => match us, hl with | [_, _], _ => rfl
  have F_number_of := fun_mk (st := s_number_of) l_number_of c_number_of k_number_of
  have b_number_of := F_number_of.binds (ps := ["many", "row"]) fun _ _ _ _ _ _ us hl => match us, hl with | [_, _], _ => rfl
  have F_law_pot := fun_mk (st := s_law_pot) l_law_pot c_law_pot k_law_pot
  have b_law_pot := F_law_pot.binds (ps := ["script", "place"]) fun _ _ _ _ _ _ us hl => match us, hl with | [_, _], _ => rfl
  have F_law_take := fun_mk (st := s_law_take) l_law_take c_law_take k_law_take
  have b_law_take := F_law_take.binds (ps := ["pot", "upto"]) fun _ _ _ _ _ _ us hl => match us, hl with | [_, _], _ => rfl
  have F_law_of := fun_mk (st := s_law_of) l_law_of c_law_of k_law_of
  have b_law_of := F_law_of.binds (ps := ["pot", "some"]) fun _ _ _ _ _ _ us hl => match us, hl with | [_, _], _ => rfl
  have F_law_some := fun_mk (st := s_law_some) l_law_some c_law_some k_law_some
  have b_law_some := F_law_some.binds (ps := ["pot", "pool", "many"]) fun _ _ _ _ _ _ us hl => match us, hl with | [_, _, _], _ => rfl
  have F_law_cells := fun_mk (st := s_law_cells) l_law_cells c_law_cells k_law_cells
  have b_law_cells := F_law_cells.binds (ps := ["script", "limit"]) fun _ _ _ _ _ _ us hl => match us, hl with | [_, _], _ => rfl
  have F_law_drawn_row := fun_mk (st := s_law_drawn_row) l_law_drawn_row c_law_drawn_row k_law_drawn_row
  have b_law_drawn_row := F_law_drawn_row.binds (ps := ["pot", "many", "is_whole_v"]) fun _ _ _ _ _ _ us hl => match us, hl with | [_, _, _], _ => rfl
  have F_law_every := fun_mk (st := s_law_every) l_law_every c_law_every k_law_every
  have b_law_every := F_law_every.binds (ps := ["many"]) fun _ _ _ _ _ _ us hl => match us, hl with | [_], _ => rfl
  have F_law_right := fun_mk (st := s_law_right) l_law_right c_law_right k_law_right
  have b_law_right := F_law_right.binds (ps := ["pot"]) fun _ _ _ _ _ _ us hl => match us, hl with | [_], _ => rfl
  have F_law := fun_mk (st := s_law) l_law c_law k_law
  have b_law := F_law.binds (ps := ["script"]) fun _ _ _ _ _ _ us hl => match us, hl with | [_], _ => rfl
  refine ⟨PySem.W.fnOf "law" "law" (defArgs s_law) (defBody s_law) (defScope s_law) .none kV_law dc_law pm_law an_law cd_law ct_law, fun s v => .of_eq rfl, fun base _ _ => ?_⟩
  have T : RTx mg := ⟨(PySem.W.mg_none_of X G z_isinstance), (PySem.W.mg_none_of X G z_int), (PySem.W.mg_none_of X G z_bool), (PySem.W.mg_none_of X G z_tuple), (PySem.W.mg_none_of X G z_list), (PySem.W.mg_none_of X G z_all), (PySem.W.mg_none_of X G z_any), (PySem.W.mg_none_of X G z_len), (PySem.W.mg_none_of X G z_sum), (PySem.W.mg_none_of X G z_abs), (PySem.W.mg_none_of X G z_max), (PySem.W.mg_none_of X G z_min), (PySem.W.mg_none_of X G z_range), (PySem.W.mg_none_of X G z_repr), (PySem.W.mg_none_of X G z_set), (PySem.W.mg_none_of X G z_sorted), (PySem.W.mg_none_of X G z_zip), (PySem.W.mg_none_of X G z_enumerate), ⟨_, (PySem.W.mg_of X G v_MOST_HANDS)⟩⟩
  have LT : LTx mg := ⟨(PySem.W.mg_none_of X G z_len), (PySem.W.mg_none_of X G z_int), (PySem.W.mg_none_of X G z_sum), (PySem.W.mg_none_of X G z_abs), (PySem.W.mg_none_of X G z_list), (PySem.W.mg_none_of X G z_tuple), (PySem.W.mg_none_of X G z_range), (PySem.W.mg_none_of X G z_max), (PySem.W.mg_none_of X G z_min), (PySem.W.mg_none_of X G z_repr), (PySem.W.mg_none_of X G z_all), (PySem.W.mg_none_of X G z_enumerate)⟩
  have G_law_cells : Fd l.prog w K mg base CX0 "_law_cells" 1 ["script", "limit"] (spCells K) := ⟨_, _, (PySem.W.mg_of X G a_law_cells), k_law_cells, b_law_cells, ok_law_cells F_law_cells LT⟩
  have G_law_pot : Fd l.prog w K mg base CX0 "_law_pot" 1 ["script", "place"] (spPot K) := ⟨_, _, (PySem.W.mg_of X G a_law_pot), k_law_pot, b_law_pot, ok_law_pot F_law_pot LT⟩
  have G_law_take : Fd l.prog w K mg base CX0 "_law_take" 1 ["pot", "upto"] spTake := ⟨_, _, (PySem.W.mg_of X G a_law_take), k_law_take, b_law_take, ok_law_take F_law_take LT⟩
  have G_law_of : Fd l.prog w K mg base CX0 "_law_of" 2 ["pot", "some"] (spOf K) := ⟨_, _, (PySem.W.mg_of X G a_law_of), k_law_of, b_law_of, ok_law_of F_law_of LT G_law_take⟩
  have G_law_some : Fd l.prog w K mg base CX0 "_law_some" 2 ["pot", "pool", "many"] (spSome K) := ⟨_, _, (PySem.W.mg_of X G a_law_some), k_law_some, b_law_some, ok_law_some F_law_some LT G_law_take⟩
  have G_law_drawn_row : Fd l.prog w K mg base CX0 "_law_drawn_row" 3 ["pot", "many", "is_whole_v"] spDRow := ⟨_, _, (PySem.W.mg_of X G a_law_drawn_row), k_law_drawn_row, b_law_drawn_row, ok_law_drawn_row F_law_drawn_row T G_law_take G_law_some⟩
  have G_is_whole : Fd l.prog w K mg base CX0 "is_whole" 1 ["value"] spWhD := ⟨_, _, (PySem.W.mg_of X G a_is_whole), k_is_whole, b_is_whole, ok_is_whole F_is_whole T⟩
  have G_check_many : Fd l.prog w K mg base CX0 "check_many" 2 ["many"] spChkD := ⟨_, _, (PySem.W.mg_of X G a_check_many), k_check_many, b_check_many, ok_check_many F_check_many T G_is_whole⟩
  have G_lot_of : Fd l.prog w K mg base CX0 "lot_of" 1 ["words"] (spLotOfD K) := ⟨_, _, (PySem.W.mg_of X G a_lot_of), k_lot_of, b_lot_of, ok_lot_of F_lot_of T⟩
  have G_lots_within : Fd l.prog w K mg base CX0 "lots_within" 1 ["words"] (spLW K) := ⟨_, _, (PySem.W.mg_of X G a_lots_within), k_lots_within, b_lots_within, ok_lots_within F_lots_within ⟩
  have G_ways_down : Fd l.prog w K mg base CX0 "ways_down" 7 ["many", "came"] (spWD 6) := all_ways_down F_ways_down b_ways_down (PySem.W.mg_of X G a_ways_down) T G_lot_of G_lots_within 6
  have G_row_of : Fd l.prog w K mg base CX0 "row_of" 1 ["many", "views"] spRowOf := ⟨_, _, (PySem.W.mg_of X G a_row_of), k_row_of, b_row_of, ok_row_of F_row_of T⟩
  have G_every_row : Fd l.prog w K mg base CX0 "every_row" 8 ["many"] spER := ⟨_, _, (PySem.W.mg_of X G a_every_row), k_every_row, b_every_row, ok_every_row F_every_row T G_check_many G_ways_down G_row_of⟩
  have G_law_every : Fd l.prog w K mg base CX0 "_law_every" 3 ["many"] spLE := ⟨_, _, (PySem.W.mg_of X G a_law_every), k_law_every, b_law_every, ok_law_every F_law_every T LT⟩
  have G_is_below : Fd l.prog w K mg base CX0 "is_below" 2 ["value", "many"] spBelowI := ⟨_, _, (PySem.W.mg_of X G a_is_below), k_is_below, b_is_below, ok_is_below F_is_below G_is_whole⟩
  have G_row_at : Fd l.prog w K mg base CX0 "row_at" 9 ["many", "number"] spRA := ⟨_, _, (PySem.W.mg_of X G a_row_at), k_row_at, b_row_at, ok_row_at F_row_at T G_every_row G_is_below⟩
  have G_is_lot : Fd l.prog w K mg base CX0 "is_lot" 2 ["value"] spLotD := ⟨_, _, (PySem.W.mg_of X G a_is_lot), k_is_lot, b_is_lot, ok_is_lot F_is_lot T G_is_whole⟩
  have G_is_view : Fd l.prog w K mg base CX0 "is_view" 3 ["many", "hand", "value"] spViewD := ⟨_, _, (PySem.W.mg_of X G a_is_view), k_is_view, b_is_view, ok_is_view F_is_view G_is_lot⟩
  have G_lies_in : Fd l.prog w K mg base CX0 "lies_in" 1 ["lot", "other"] spLiesD := ⟨_, _, (PySem.W.mg_of X G a_lies_in), k_lies_in, b_lies_in, ok_lies_in F_lies_in T⟩
  have G_fit : Fd l.prog w K mg base CX0 "fit" 2 ["one", "other"] spFitD := ⟨_, _, (PySem.W.mg_of X G a_fit), k_fit, b_fit, ok_fit F_fit G_lies_in⟩
  have G_is_at_once : Fd l.prog w K mg base CX0 "is_at_once" 4 ["many", "value"] spAtD := ⟨_, _, (PySem.W.mg_of X G a_is_at_once), k_is_at_once, b_is_at_once, ok_is_at_once F_is_at_once T G_check_many G_is_view G_fit⟩
  have G_is_whole_row : Fd l.prog w K mg base CX0 "is_whole_row" 5 ["many", "value"] spRowD := ⟨_, _, (PySem.W.mg_of X G a_is_whole_row), k_is_whole_row, b_is_whole_row, ok_is_whole_row F_is_whole_row G_is_at_once⟩
  have G_number_of : Fd l.prog w K mg base CX0 "number_of" 9 ["many", "row"] spNO := ⟨_, _, (PySem.W.mg_of X G a_number_of), k_number_of, b_number_of, ok_number_of F_number_of G_is_whole_row G_every_row⟩
  have K_row_at : FdKw l.prog w K mg base CX0 "row_at" 9 ["many", "number"] ["number", "many"] kw2 kw2 spRA := ⟨_, _, (PySem.W.mg_of X G a_row_at), k_row_at, ⟨fun s us ws _ h1 h2 => match us, ws, h1, h2 with | [], [_, _], _, _ => .of_eq rfl, fun _ r2 => kw2_rel r2⟩, ok_row_at F_row_at T G_every_row G_is_below⟩
  have K_number_of : FdKw l.prog w K mg base CX0 "number_of" 9 ["many", "row"] ["row", "many"] kw2 kw2 spNO := ⟨_, _, (PySem.W.mg_of X G a_number_of), k_number_of, ⟨fun s us ws _ h1 h2 => match us, ws, h1, h2 with | [], [_, _], _, _ => .of_eq rfl, fun _ r2 => kw2_rel r2⟩, ok_number_of F_number_of G_is_whole_row G_every_row⟩
  have G_law_right : FdG l.prog w K mg base CX0 "_law_right" 10 ["pot"] spRight := ⟨_, _, (PySem.W.mg_of X G a_law_right), k_law_right, b_law_right, ok_law_right F_law_right T LT G_law_take G_law_of G_law_drawn_row G_every_row G_law_every G_row_at G_number_of K_row_at K_number_of⟩
  exact ok_law F_law LT G_law_cells G_law_pot G_law_right
theorem walk {l : PySem.W.OpenLaw} {q : Program} {loose : List Str} {XP : (Str → Option Value) → Heap → Prop} {YP : World → Heap → Prop} {d : DefRec} {K : Params → PySem.W.Frag} (hn : l.most = some 63) (hdf : d.params.defaults = [])
    (hY : ∀ (w : World) (h : Heap), YP w h → (K w.params).In h)
    (F : ∀ (w : World) (mg : Str → Option Value) (fa : Addr) (h : Heap), (K w.params).In h → h.Ns mainGlobals mg → mg d.name = some (.ref fa) →
      ∃ fd : FuncData, (∀ (s : Shared) (u : Value), BindsTo s fd ⟨[u], []⟩ [("script", u)]) ∧ ∀ base : Heap, (K w.params).In base → base.Ns mainGlobals mg → FnOkG l.prog w (K w.params) mg base CX0 (10 + 1) fa fd ["script"] (spLaw (K w.params))) :
    PySem.W.WalkO q loose XP YP l.row.toRowW d [] (fun f vs => PySem.call f vs) :=
  L2.walk_ofG (n := 63) (k := 10 + 1) (x := "script") (CX := fun _ => CX0) (sp := fun w => spLaw (K w.params)) hn (by decide) hdf ⟨rfl, by decide, by decide⟩ hY F (fun _ _ a ns hl _ hS => ⟨a, ns, rfl, hS, hl, fun _ => rfl⟩) fun _ _ _ _ _ z => z
end Fp
open PySem PySem.W PyProof.Rows
set_option maxRecDepth 100000 in
set_option maxHeartbeats 0 in
theorem PySem.Challenge.cw_fewplaymany_k29_all_rows_of_views_counte_holds : PySem.Challenge.rw_fewplaymany_k29_all_rows_of_views_counte.Holds := by
  w_on; o_law; k_head; (case hw => w_witness2)
  k_fill
  refine Fp.walk (l := PySem.Challenge.rw_fewplaymany_k29_all_rows_of_views_counte) rfl rfl (fun w h Y => PySem.W.kIn_of Y) ?F
  case F =>
    intro w mg fa h KX G hmg
    refine' Fp.all_mk KX G hmg ?a_is_whole ?l_is_whole ?c_is_whole ?k_is_whole ?a_is_lot ?l_is_lot ?c_is_lot ?k_is_lot ?a_is_below ?l_is_below ?c_is_below ?k_is_below ?a_lot_of ?l_lot_of ?c_lot_of ?k_lot_of ?a_lies_in ?l_lies_in ?c_lies_in ?k_lies_in ?a_lots_within ?l_lots_within ?c_lots_within ?k_lots_within ?a_check_many ?l_check_many ?c_check_many ?k_check_many ?a_is_at_once ?l_is_at_once ?c_is_at_once ?k_is_at_once ?a_is_view ?l_is_view ?c_is_view ?k_is_view ?a_fit ?l_fit ?c_fit ?k_fit ?a_is_whole_row ?l_is_whole_row ?c_is_whole_row ?k_is_whole_row ?a_every_row ?l_every_row ?c_every_row ?k_every_row ?a_ways_down ?l_ways_down ?c_ways_down ?k_ways_down ?a_row_of ?l_row_of ?c_row_of ?k_row_of ?a_row_at ?l_row_at ?c_row_at ?k_row_at ?a_number_of ?l_number_of ?c_number_of ?k_number_of ?a_law_pot ?l_law_pot ?c_law_pot ?k_law_pot ?a_law_take ?l_law_take ?c_law_take ?k_law_take ?a_law_of ?l_law_of ?c_law_of ?k_law_of ?a_law_some ?l_law_some ?c_law_some ?k_law_some ?a_law_cells ?l_law_cells ?c_law_cells ?k_law_cells ?a_law_drawn_row ?l_law_drawn_row ?c_law_drawn_row ?k_law_drawn_row ?a_law_every ?l_law_every ?c_law_every ?k_law_every ?a_law_right ?l_law_right ?c_law_right ?k_law_right ?a_law ?l_law ?c_law ?k_law ?z_isinstance ?z_int ?z_bool ?z_tuple ?z_list ?z_all ?z_any ?z_len ?z_sum ?z_abs ?z_max ?z_min ?z_range ?z_repr ?z_set ?z_sorted ?z_zip ?z_enumerate ?z_str ?v_MOST_HANDS
    (case a_is_whole => k_is)
    (case l_is_whole => k_is)
    (case c_is_whole => k_is)
    (case k_is_whole => k_is)
    (case a_is_lot => k_is)
    (case l_is_lot => k_is)
    (case c_is_lot => k_is)
    (case k_is_lot => k_is)
    (case a_is_below => k_is)
    (case l_is_below => k_is)
    (case c_is_below => k_is)
    (case k_is_below => k_is)
    (case a_lot_of => k_is)
    (case l_lot_of => k_is)
    (case c_lot_of => k_is)
    (case k_lot_of => k_is)
    (case a_lies_in => k_is)
    (case l_lies_in => k_is)
    (case c_lies_in => k_is)
    (case k_lies_in => k_is)
    (case a_lots_within => k_is)
    (case l_lots_within => k_is)
    (case c_lots_within => k_is)
    (case k_lots_within => k_is)
    (case a_check_many => k_is)
    (case l_check_many => k_is)
    (case c_check_many => k_is)
    (case k_check_many => k_is)
    (case a_is_at_once => k_is)
    (case l_is_at_once => k_is)
    (case c_is_at_once => k_is)
    (case k_is_at_once => k_is)
    (case a_is_view => k_is)
    (case l_is_view => k_is)
    (case c_is_view => k_is)
    (case k_is_view => k_is)
    (case a_fit => k_is)
    (case l_fit => k_is)
    (case c_fit => k_is)
    (case k_fit => k_is)
    (case a_is_whole_row => k_is)
    (case l_is_whole_row => k_is)
    (case c_is_whole_row => k_is)
    (case k_is_whole_row => k_is)
    (case a_every_row => k_is)
    (case l_every_row => k_is)
    (case c_every_row => k_is)
    (case k_every_row => k_is)
    (case a_ways_down => k_is)
    (case l_ways_down => k_is)
    (case c_ways_down => k_is)
    (case k_ways_down => k_is)
    (case a_row_of => k_is)
    (case l_row_of => k_is)
    (case c_row_of => k_is)
    (case k_row_of => k_is)
    (case a_row_at => k_is)
    (case l_row_at => k_is)
    (case c_row_at => k_is)
    (case k_row_at => k_is)
    (case a_number_of => k_is)
    (case l_number_of => k_is)
    (case c_number_of => k_is)
    (case k_number_of => k_is)
    (case a_law_pot => k_is)
    (case l_law_pot => k_is)
    (case c_law_pot => k_is)
    (case k_law_pot => k_is)
    (case a_law_take => k_is)
    (case l_law_take => k_is)
    (case c_law_take => k_is)
    (case k_law_take => k_is)
    (case a_law_of => k_is)
    (case l_law_of => k_is)
    (case c_law_of => k_is)
    (case k_law_of => k_is)
    (case a_law_some => k_is)
    (case l_law_some => k_is)
    (case c_law_some => k_is)
    (case k_law_some => k_is)
    (case a_law_cells => k_is)
    (case l_law_cells => k_is)
    (case c_law_cells => k_is)
    (case k_law_cells => k_is)
    (case a_law_drawn_row => k_is)
    (case l_law_drawn_row => k_is)
    (case c_law_drawn_row => k_is)
    (case k_law_drawn_row => k_is)
    (case a_law_every => k_is)
    (case l_law_every => k_is)
    (case c_law_every => k_is)
    (case k_law_every => k_is)
    (case a_law_right => k_is)
    (case l_law_right => k_is)
    (case c_law_right => k_is)
    (case k_law_right => k_is)
    (case a_law => k_is)
    (case l_law => k_is)
    (case c_law => k_is)
    (case k_law => k_is)
    (case z_isinstance => k_is)
    (case z_int => k_is)
    (case z_bool => k_is)
    (case z_tuple => k_is)
    (case z_list => k_is)
    (case z_all => k_is)
    (case z_any => k_is)
    (case z_len => k_is)
    (case z_sum => k_is)
    (case z_abs => k_is)
    (case z_max => k_is)
    (case z_min => k_is)
    (case z_range => k_is)
    (case z_repr => k_is)
    (case z_set => k_is)
    (case z_sorted => k_is)
    (case z_zip => k_is)
    (case z_enumerate => k_is)
    (case z_str => k_is)
    (case v_MOST_HANDS => k_is)
