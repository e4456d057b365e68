import PyProof.Rows.All
import HandS.ForMost
import Wide.All
import OpenK.AllK
import Wide.FinOn
import HandS.ForExc
import HandS.Walk
import HandS.Conv
import HandS.Star
import HandS.CallLocal
import HandS.Codes
import HandS.More
import HandS.OwnEq
import HandS.Wide
import HandS.Flow
import KE.GoesEnum
import PyProof.ListStr
import PyProof.StrBlock2
import KE.IntTextLaws
import PyProof.InstNe
import HandS.MakeKwOnly
import HandS.IsInst
import HandS.Ends
import PyProof.ReprRoads
import KE.GoesMore
import HandS.TupMul
import HandS.TupAny
import HandS.Strs
import HandS.SetIn
import HandS.SetFor
import HandS.SortRule
import HandS.Style
import HandS.Deep
import HandS.Iter
import KE.KRevSl
import HandS.Zip
import HandS.Defaults
import PyProof.P3In
import PySem.Challenge.RW_fewplaymany_k30_whole_what_is_no_row_of
import HandS.ExcInit
import HandS.WordsExc
import HandS.ExcIs
import HandS.ExcField
import HandS.TryOnly
import HandS.Lambda
import HandS.Comp
import HandS.EndOwn
set_option Elab.async false
set_option linter.all false
set_option maxRecDepth 100000
set_option maxHeartbeats 4000000
/-! small words that enter a reading -/
namespace Fp
open PySem PySem.Spec PyProof.Rows L2
theorem g_set {i : Nat} {v : V} {σ : L2.St} {H : Hp} {k : L2.St → Hp → Prop} (h : k (σ.set i (some v)) H) : gName i v σ H k := h
theorem yes_in {σ : L2.St} {H : Hp} {A B : Hp → Prop} (h : A H) : tYes σ H fun b H3 => if b = true then A H3 else B H3 := by
  show if true = true then A H else B H
  exact iteT h
theorem nx_in {f b c : L2.St → Hp → Prop} {r : VK} {σ : L2.St} {H : Hp} (h : f σ H) : ({ nx := f, rt := r, bk := b, ct := c } : Ends).nx σ H := h
theorem next_in {D : Ends} {σ : L2.St} {H : Hp} (h : D.nx σ H) : tNext D σ H := h
theorem seq_in {a b : TS} {D : Ends} {σ : L2.St} {H : Hp} (h : a { nx := b D, rt := D.rt, bk := D.bk, ct := D.ct } σ H) : tSeq a b D σ H := h
theorem asg_in {te : TE} {g : TG} {D : Ends} {σ : L2.St} {H : Hp} (h : te σ H fun v H1 => g v σ H1 fun σ2 H2 => D.nx σ2 H2) : tAsg te g D σ H := h
theorem op_in {r : R2} {ta tb : TE} {σ : L2.St} {H : Hp} {Q : VK} (h : ta σ H fun x H1 => tb σ H1 fun y H2 => r x y H2 Q) : tOp r ta tb σ H Q := h
theorem if_not {te : TE} {a b : TS} {D : Ends} {σ : L2.St} {H : Hp} (h : te σ H fun v H1 => ∃ c, v = .bl c ∧ if (!c) = true then a D σ H1 else b D σ H1) : tIfS (tNot (tB te)) a b D σ H := h
theorem ret_in {te : TE} {D : Ends} {σ : L2.St} {H : Hp} (h : te σ H D.rt) : tRet te D σ H := h
/-- what stands behind a statement, once for all its ways -/
theorem cut_nx {t : TS} {D : Ends} {σ : L2.St} {H : Hp} (R : Hp → Prop) (h : ∀ H1, R H1 → D.nx σ H1) (g : (∀ H1, R H1 → D.nx σ H1) → t D σ H) : t D σ H := g h
end Fp
namespace Fp
open PySem PySem.Spec PyProof.Rows L2
/-! ### heaps -/
/-- all that is tracked stays, but what stands at S -/
def But (S : List Addr) (H H' : Hp) : Prop := ∀ b o, b ∉ S → H b = some o → H' b = some o
theorem But.refl (S : List Addr) (H : Hp) : But S H H := fun _ _ _ h => h
theorem But.trans {S : List Addr} {H H1 H2 : Hp} (a : But S H H1) (b : But S H1 H2) : But S H H2 := fun c o n h => b c o n (a c o n h)
theorem But.of {S : List Addr} {H H' : Hp} (h : Same H H') : But S H H' := fun c o _ q => h c o q
theorem But.new {S : List Addr} {H H1 : Hp} {p : Addr} {o : HO} (a : But S H H1) (n : H1 p = none) : But S H (upd H1 p o) := fun c u k q => by
  have z := a c u k q
  rw [upd_ne (ne_of_none z n)]
  exact z
theorem But.put {S : List Addr} {H H1 : Hp} {p : Addr} {o : HO} (a : But S H H1) (n : p ∈ S) : But S H (upd H1 p o) := fun c u k q => by
  have ne : c ≠ p := fun z => k (z ▸ n)
  rw [upd_ne ne]
  exact a c u k q
theorem But.wide {S T : List Addr} {H H' : Hp} (a : But S H H') (h : ∀ x ∈ S, x ∈ T) : But T H H' := fun c o n q => a c o (fun z => n (h c z)) q
theorem But.at {S : List Addr} {H H' : Hp} {a : Addr} {o : HO} (b : But S H H') (h : H a = some o) (n : a ∉ S) : H' a = some o := b a o n h
theorem But.seq {S : List Addr} {H H' : Hp} {K : PySem.W.Frag} {a : Addr} {xs : List V} (b : But S H H') (h : SqL K H a xs) (n : a ∉ S) : SqL K H' a xs := by
  rcases h with (h | ⟨o, h⟩) | h
  · exact .inl (.inl (b _ _ n h))
  · exact .inl (.inr ⟨o, b _ _ n h⟩)
  · exact .inr h
theorem But.seqT {S : List Addr} {H H' : Hp} {K : PySem.W.Frag} {a : Addr} {xs : List V} (b : But S H H') (h : SqT K H a xs) (n : a ∉ S) : SqT K H' a xs := by
  rcases h with (h | ⟨o, h⟩) | h
  · exact .inl (.inl (b _ _ n h))
  · exact .inl (.inr ⟨o, b _ _ n h⟩)
  · exact .inr h
theorem same_new {H : Hp} {p : Addr} (h : H p = none) (o : HO) : Same H (upd H p o) := fun b u q => by rw [upd_ne (ne_of_none q h)]; exact q
/-! ### a def of the module with its promise -/
structure Fd (P : Program) (w : World) (K : PySem.W.Frag) (mg : Str → Option Value) (base : Heap) (CX : CXT) (x : Str) (k : Nat) (ps : List Str) (sp : Sp) : Prop where
  ex : ∃ (f : Addr) (fd : FuncData), mg x = some (.ref f) ∧ PySem.W.keepIn K (.ref f) = true ∧ Binds K fd ps [] ∧ FnOk P w K mg base CX k f fd ps sp
section
variable {X : Cx} {CX : CXT} {x : Str} {k : Nat} {ps : List Str} {sp : Sp} {e : Expr} {es : List Expr} {t : TA} {p pos : Pos}
theorem pe_fd (G : Fd X.prog X.w X.K X.mg X.base CX0 x k ps sp) (hr : Room k X.A) (hg : Gl X x) (ha : PA X (e :: es) t) (hdb : (x == ("__debug__" : Str)) = false := by decide)
    (he : starEach (e :: es) X.env = (false, eval e X.env) :: starEach es X.env := by rfl) (hpl : (backTo pos (starEach es X.env)).any (·.1) = false := by rfl) :
    PE X (.Call (.Name x p) (e :: es) [] pos) (tCall sp [] E0 t) := by
  obtain ⟨f, fd, h1, h2, h3, h4⟩ := G.ex
  exact pe_call h4 hr hg h1 h2 h3 .nil pass0 ha hdb he hpl
end
/-! ### powers of greater numbers -/
theorem op_powB {X : Cx} : OpR X (binaryOp .Pow) (rI (fun i j => 0 ≤ j ∧ (Builtin.Int.intBits i : Int) * j ≤ 2 ^ 27) fun i j => .int (i ^ j.toNat)) :=
  opI fun _ _ _ _ _ _ _ hc q => PyProof.Rows.pow_int hc.1 hc.2 q
theorem bits_ok {a : Int} (k : Nat) {j : Int} (h : a.natAbs < 2 ^ k) (hj : 0 ≤ j) (hk : (k : Int) * j ≤ 2 ^ 27) : (Builtin.Int.intBits a : Int) * j ≤ 2 ^ 27 := by
  have h1 : (Builtin.Int.intBits a : Int) ≤ (k : Int) := by
    have := PyProof.Rows.intBits_le h
    omega
  exact Int.le_trans (Int.mul_le_mul_of_nonneg_right h1 hj) hk
/-! ### a word between a part and what follows it -/
def tMid (t : TE) : TE := fun σ H Q => ∃ Mid : V → Hp → Prop, t σ H Mid ∧ ∀ v H', Mid v H' → Q v H'
theorem pe_mid {X : Cx} {e : Expr} {t : TE} (h : PE X e t) : PE X e (tMid t) := by
  refine ⟨fun pins s σ H Q I z => ?_⟩
  obtain ⟨Mid, hm, hu⟩ := z
  exact thn (h.run pins s σ H Mid I hm) fun v s1 ⟨x, H1, I1, r1, q1⟩ => ⟨x, H1, I1, r1, hu x H1 q1⟩
def tMidT (t : TT) : TT := fun σ H Q => ∃ Mid : Bool → Hp → Prop, t σ H Mid ∧ ∀ v H', Mid v H' → Q v H'
theorem pt_mid {X : Cx} {e : Expr} {t : TT} (h : PT X e t) : PT X e (tMidT t) := by
  refine ⟨fun pins s σ H Q I z => ?_⟩
  obtain ⟨Mid, hm, hu⟩ := z
  exact thn (h.run pins s σ H Mid I hm) fun v s1 ⟨H1, I1, q1⟩ => ⟨H1, I1, hu v H1 q1⟩
theorem erase_perm {α : Type} : ∀ (l : List α) (i : Nat) (h : i < l.length), (l[i] :: l.eraseIdx i).Perm l
  | a :: l, 0, _ => List.Perm.refl _
  | a :: l, i + 1, h => by
    have h' : i < l.length := Nat.lt_of_succ_lt_succ h
    have ih := erase_perm l i h'
    show (l[i] :: a :: l.eraseIdx i).Perm (a :: l)
    exact (List.Perm.swap _ _ _).trans (List.Perm.cons a ih)
theorem b01 (k : Bool) : -(2 ^ 64) < (if k = true then (1 : Int) else 0) ∧ (if k = true then (1 : Int) else 0) < 2 ^ 64 := by cases k <;> decide
/-! ### draws -/
def PotAt (H : Hp) (p : Addr) (n : Nat) : Prop := ∃ a b c : Int, H p = some (.lst [.int a, .int b, .int c]) ∧ 0 ≤ b ∧ b < 2305843009213693951 ∧ 0 ≤ c ∧ c ≤ n
theorem PotAt.mono {H : Hp} {p : Addr} {n m : Nat} (h : PotAt H p n) (l : n ≤ m) : PotAt H p m := by
  obtain ⟨a, b, c, h1, h2, h3, h4, h5⟩ := h
  exact ⟨a, b, c, h1, h2, h3, h4, by omega⟩
theorem PotAt.there {H : Hp} {p : Addr} {n : Nat} (h : PotAt H p n) : ∃ xs, H p = some (.lst xs) := by
  obtain ⟨a, b, c, h1, _⟩ := h
  exact ⟨_, h1⟩
def spTake : Sp := fun vs H Q _ => ∃ (p : Addr) (u : Int) (n : Nat), vs = [.ref p, .int u] ∧ 0 < u ∧ u < 1000000 ∧ n < 1000000 ∧ PotAt H p n ∧
  ∀ (d : Nat) (H' : Hp), (d : Int) < u → But [p] H H' → PotAt H' p (n + 1) → Q (.int d) H'
def spOf (K : PySem.W.Frag) : Sp := fun vs H Q _ => ∃ (p q : Addr) (xs : List V) (n : Nat), vs = [.ref p, .ref q] ∧ SqL K H q xs ∧ q ≠ p ∧ xs ≠ [] ∧ xs.length < 1000000 ∧ n < 1000000 ∧ PotAt H p n ∧
  ∀ (d : Nat) (v : V) (H' : Hp), xs[d]? = some v → But [p] H H' → PotAt H' p (n + 1) → Q v H'
/-- many of a pool, in some sequence -/
def spSome (K : PySem.W.Frag) : Sp := fun vs H Q _ => ∃ (p q : Addr) (xs : List V) (m n : Nat), vs = [.ref p, .ref q, .int m] ∧ (SqL K H q xs ∨ SqT K H q xs) ∧ m ≤ xs.length ∧ xs.length < 1000 ∧ n + m < 1000000 ∧ PotAt H p n ∧
  ∀ (l : Addr) (ys zs : List V) (H' : Hp), ys.length = m → (ys ++ zs).Perm xs → H l = none → H' l = some (.lst ys) → But [p] H H' → PotAt H' p (n + m) → Q (.ref l) H'
/-- the pot of a cell -/
def spPot (K : PySem.W.Frag) : Sp := fun vs H Q _ => ∃ (a : Addr) (ns : List Int) (k : Nat), vs = [.ref a, .int k] ∧ SqL K H a (ns.map V.int) ∧ ns.length ≤ 63 ∧ k < 1000 ∧ ∀ (l : Addr) (H' : Hp), Same H H' → H l = none → PotAt H' l 0 → Q (.ref l) H'
/-- the cells that are looked at -/
def spCells (K : PySem.W.Frag) : Sp := fun vs H Q _ => ∃ (a : Addr) (ns : List Int) (m : Nat), vs = [.ref a, .int m] ∧ SqL K H a (ns.map V.int) ∧ ns.length ≤ 63 ∧ m < 1000 ∧
  ∀ (l : Addr) (H' : Hp) (k : Nat), k < 1000 → Same H H' → H l = none → H' l = some (.lst ((List.range k).map fun i => V.int (i : Nat))) → Q (.ref l) H'
theorem modNat (a : Int) {u : Int} (h : 0 < u) : ∃ d : Nat, a % u = (d : Int) ∧ (d : Int) < u :=
  ⟨(a % u).toNat, by have := Int.emod_nonneg a (show u ≠ 0 by omega); omega, by have := Int.emod_nonneg a (show u ≠ 0 by omega); have := Int.emod_lt_of_pos a h; omega⟩
theorem sq_le (m : Int) {c : Int} (h : 0 ≤ c) (h1 : c ≤ 1000001) (hm : 0 ≤ m := by decide) (hm1 : m ≤ 200000 := by decide) : 0 ≤ m * c * c ∧ m * c * c ≤ 200000 * 1000001 * 1000001 := by
  have e1 : m * c ≤ 200000 * 1000001 := Int.mul_le_mul hm1 h1 h (by decide)
  have e0 : 0 ≤ m * c := Int.mul_nonneg hm h
  exact ⟨Int.mul_nonneg e0 h, Int.mul_le_mul e1 h1 h (by decide)⟩
end Fp
namespace Fp
open PySem PySem.Spec PyProof.Rows L2
/-! ### constants of the module -/
section
variable {X : Cx} {x : Str} {pos : Pos}
theorem pe_cS {z : Str} (h : ∃ t, X.mg x = some (.str z t)) (hg : Gl X x := by rfl) (hd : (x == ("__debug__" : Str)) = false := by decide) : PE X (.Name x pos) (tC (.str z)) := by
  obtain ⟨t, h⟩ := h
  exact pe_glob hg h ⟨_, rfl⟩ hd
theorem pe_cI {i : Int} (h : ∃ t, X.mg x = some (.int i t)) (hg : Gl X x := by rfl) (hd : (x == ("__debug__" : Str)) = false := by decide) : PE X (.Name x pos) (tC (.int i)) := by
  obtain ⟨t, h⟩ := h
  exact pe_glob hg h ⟨_, rfl⟩ hd
/-- a tuple of the module -/
def KTup (K : PySem.W.Frag) (a : Addr) (xs : List V) : Prop := ∀ H, SqT K H a xs
def tKT (K : PySem.W.Frag) (xs : List V) : TE := fun _ H Q => ∀ a, KTup K a xs → Q (.ref a) H
theorem pe_cT {xs : List V} (h : ∃ a, X.mg x = some (.ref a) ∧ KTup X.K a xs) (hg : Gl X x := by rfl) (hd : (x == ("__debug__" : Str)) = false := by decide) : PE X (.Name x pos) (tKT X.K xs) := by
  obtain ⟨a, h1, h2⟩ := h
  exact ⟨fun pins s σ H Q I q => (pe_glob (v := .ref a) hg h1 rfl hd).run pins s σ H Q I (q a h2)⟩
/-- an object of the module -/
def tKR (φ : Addr → Prop) : TE := fun _ H Q => ∀ a, φ a → Q (.ref a) H
theorem pe_cR {φ : Addr → Prop} (h : ∃ a, X.mg x = some (.ref a) ∧ φ a) (hg : Gl X x := by rfl) (hd : (x == ("__debug__" : Str)) = false := by decide) : PE X (.Name x pos) (tKR φ) := by
  obtain ⟨a, h1, h2⟩ := h
  exact ⟨fun pins s σ H Q I q => (pe_glob (v := .ref a) hg h1 rfl hd).run pins s σ H Q I (q a h2)⟩
/-- a dict of the module with text keys, at d -/
structure KD (K : PySem.W.Frag) (w : World) (d : Addr) (tab : Str → Option V) : Prop where
  ex : ∃ es n, KDict K w d es n
  get : ∀ z, ∃ r, PySem.W.nsIn K d z = some r ∧ RelO (tab z) r
theorem RelO.some_iff {o : Option V} {r : Option Value} (h : RelO o r) : o.isSome = r.isSome := by
  cases o <;> cases r <;> first | rfl | exact h.elim
variable {e : Expr} {te : TE} {apos cpos p : Pos} {tab : Str → Option V} {d : Addr}
/-- key in NAME -/
theorem pe_kin (D : ∃ d, X.mg x = some (.ref d) ∧ KD X.K X.w d tab) (he : PE X e te) (hg : Gl X x := by rfl) (hb : behindInMarks .In (.Name x p) = false := by rfl) (hd : (x == ("__debug__" : Str)) = false := by decide) : PE X (.Compare e [.In] [.Name x p] pos) (fun σ H Q => te σ H fun y H1 => ∃ z, y = .str z ∧ Q (.bl (tab z).isSome) H1) := by
  obtain ⟨d, hm, ⟨es, n, D⟩, get⟩ := D
  refine ⟨fun pins s σ H Q I h => ?_⟩
  refine (pe_cmpR (op_in_kd D) he (pe_glob (v := .ref d) hg hm rfl hd) hb).run pins s σ H Q I ?_
  have h' : (fun σ H Q => te σ H fun y H1 => ∃ z, y = .str z ∧ Q (.bl (tab z).isSome) H1) σ H Q := h
  exact (fun (k : te σ H _) => k) (by
    refine (?_ : te σ H _)
    have e2 : (fun (y : V) (H1 : Hp) => ∃ z : Str, y = V.str z ∧ Q (V.bl (tab z).isSome) H1) = fun y H1 => tC (.ref d) σ H1 fun y' H2 => ∃ (z : Str) (r : Option Value), y = .str z ∧ y' = .ref d ∧ PySem.W.nsIn X.K d z = some r ∧ Q (.bl r.isSome) H2 := by
      funext y H1
      apply propext
      constructor
      · rintro ⟨z, rfl, q⟩
        obtain ⟨r, g1, g2⟩ := get z
        refine ⟨z, r, rfl, rfl, g1, ?_⟩
        rw [← RelO.some_iff g2]
        exact q
      · rintro ⟨z, r, rfl, _, g1, q⟩
        obtain ⟨r', g1', g2⟩ := get z
        rw [g1] at g1'
        cases g1'
        refine ⟨z, rfl, ?_⟩
        rw [RelO.some_iff g2]
        exact q
    rw [← e2]
    exact h')
/-- NAME.get(key) -/
theorem pe_kget (D : ∃ d, X.mg x = some (.ref d) ∧ KD X.K X.w d tab) (he : PE X e te) (hg : Gl X x := by rfl) (m : M1 X (.Name x p) "get" apos e cpos := by exact ⟨rfl, rfl, rfl, rfl⟩) (hd : (x == ("__debug__" : Str)) = false := by decide) :
    PE X (.Call (.Attribute (.Name x p) "get" apos) [e] [] cpos) (fun σ H Q => te σ H fun y H1 => ∃ z, y = .str z ∧ Q ((tab z).getD .non) H1) := by
  obtain ⟨d, hm, ⟨es, n, D⟩, get⟩ := D
  refine ⟨fun pins s σ H Q I h => ?_⟩
  refine wpAny_Call_method m.base m.few m.line PySem.F.plainAttrs_dict PySem.F.slot_dict_get PySem.F.type_dict_get (thn ((pe_glob (v := .ref d) hg hm rfl hd).run pins s σ H (fun y H1 => y = .ref d ∧ te σ H1 fun y H1 => ∃ z, y = .str z ∧ Q ((tab z).getD .non) H1) I ⟨rfl, h⟩) fun u s1 hh => ?_)
  obtain ⟨y, H1, I1, ry, ey, q1⟩ := hh
  subst ey
  obtain rfl : u = Value.ref d := ry
  have hmp := PySem.W.mapOf_K (prog := X.prog) (w := X.w) I1.kIn D.at_ D.lit
  refine ⟨hmp.typeIs, hmp.noDict, ?_⟩
  rw [m.trees]
  refine Calls.callWith_builtin rfl (Calls.evalArgs_plain (Calls.spliced_cons (thn (he.run pins s1 σ H1 _ I1 q1) fun iv s2 hh2 => Calls.spliced_nil ?_)))
  obtain ⟨y2, H2, I2, ry2, z, ez, q2⟩ := hh2
  subst ez
  obtain ⟨t, rfl⟩ := ry2
  have hmp2 := PySem.W.mapOf_K (prog := X.prog) (w := X.w) I2.kIn D.at_ D.lit
  obtain ⟨r, g1, g2⟩ := get z
  refine call_meetsIn PySem.F.slot_dict_get hmp2.typeIs PySem.F.entry_dict_get (PySem.F.args_dict_get_2 _ _) (meets_dict_get (strKind X.prog X.w) d (PySem.strKind_is X.prog X.w z t) D.low) ⟨_, hmp2, ?_⟩
  show EP X pins σ Q _ _
  rw [PySem.W.find_K D.at_ g1]
  exact ⟨_, H2, I2.tok _, g2.getD (d := .non) rfl, q2⟩
end
/-! ### for i, x in enumerate(list, start) -/
def ItE (K : PySem.W.Frag) (a : Addr) (lo : Int) : It :=
  ⟨fun i H => ∃ (ys : List V) (y : V), SqL K H a ys ∧ ys[i]? = some y,
   fun i H v H' => ∃ T y, v = .ref T ∧ H T = none ∧ H' = upd H T (.tup [.int (lo + (i : Nat)), y]) ∧ ∀ ys, SqL K H a ys → ys[i]? = some y,
   fun i H => ∃ ys : List V, SqL K H a ys ∧ ys.length ≤ i⟩
theorem turn_enumS {P : Program} {w : World} {K : PySem.W.Frag} {elts : List Expr} {kk : Nat} {tpos : Pos} (a e it : Addr) (lo : Int) :
    Turn P w K (.Tuple elts kk tpos) (ItE K a lo) [e, it] e (fun i h => (∃ was, IsEnum h e it (lo + ((i : Nat) : Int)) was) ∧ h.IsListIter it a i ∧ e ≠ it) where
  mem := List.mem_cons_self
  obj := fun i h st b hb => by
    obtain ⟨⟨was, he⟩, ⟨o, ho, hc, hd⟩, _⟩ := st
    rcases List.mem_cons.mp hb with z | z
    · subst z
      exact ⟨_, he, fun v q => nomatch q⟩
    · have z' := List.mem_singleton.mp z
      subst z'
      exact ⟨o, ho, fun v q => by rw [hd] at q; cases q⟩
  keep := fun i h h' st k => ⟨st.1.imp fun was he => k e (by simp) _ he, st.2.1.at fun o q => k it (by simp) o q, st.2.2⟩
  item := by
    intro X hP hw hK hc i pins s σ H E I hf st hg
    subst hP hw hK
    obtain ⟨⟨was, he⟩, hit, hne⟩ := st
    obtain ⟨ys, y, hq, hx⟩ := hg
    obtain ⟨its, rv, lp, hz⟩ := I.list hq
    obtain ⟨u, hu, ru⟩ := rv.get hx
    have le : e < s.heap.objs.size := Heap.lt_size he
    have li : it < s.heap.objs.size := by
      obtain ⟨_, q, _⟩ := hit
      exact Heap.lt_size q
    have fr := I.hok.fresh (Nat.le_refl s.heap.objs.size)
    have hL := lp.isList
    have nel : e ≠ a := fun z => by
      obtain ⟨o, ho, hc', _⟩ := hL
      rw [← z, (show s.heap.get? e = some _ from he)] at ho
      cases ho
      injection hc' with z'
      exact absurd z' (by decide)
    have nil' : a ≠ it := fun z => by
      obtain ⟨o, ho, hc', _⟩ := hL
      obtain ⟨o2, ho2, hc2, _⟩ := hit
      rw [z, ho2] at ho
      cases ho
      rw [hc2] at hc'
      injection hc' with z'
      exact absurd z' (by decide)
    have hiu : its.toArray[i]? = some u := by simpa using hu
    have hlt : i < its.toArray.size := by
      by_cases z : i < its.toArray.size
      · exact z
      · rw [Array.getElem?_eq_none (by omega)] at hiu
        cases hiu
    refine wpAny_pyNext_enum_itemC (Draws.list (A := X.A.in1) (I.ok.hd hc) it a nil' its.toArray) he ⟨hit, hL⟩ hlt hne (by simp [hne, nel]) fun x h1 tk hx1 ho hst1 hT hsz hk => ⟨_, rfl, ?_⟩
    rw [hiu] at hx1
    cases hx1
    have hit1 := hst1.1
    refine wpAny_letOwnedTupleGo_enum (s := { s with heap := h1, toks := tk + 1 }) ho fun h2 he2 sb => ?_
    have hT2 := (sb.2 _ (Nat.ne_of_gt le)).trans hT
    have mem2 : ∀ {b : Addr}, b ∈ [e, it] → b < s.heap.objs.size := fun {b} hb => by
      rcases List.mem_cons.mp hb with z | z
      · rw [z]; exact le
      · rw [List.mem_singleton.mp z]; exact li
    refine ⟨.ref s.heap.objs.size, upd H s.heap.objs.size (.tup [.int (lo + (i : Nat)), y]), ?_, rfl, ⟨_, y, rfl, fr, rfl, fun zs hy => by rw [I.list_inj hy hq]; exact hx⟩, ⟨⟨u, ?_⟩, hit1.at fun o q => (sb.2 it (Ne.symm hne)).trans q, hne⟩, fun b hb => ?_⟩
    · refine I.turnedNew (ch := [e, it]) (fun b ob hb q => ?_) hf (Nat.le_refl _) ⟨by show 2 ≤ sizeLine; decide, [.int (lo + (i : Nat)) tk, u], .cons ⟨_, rfl⟩ (.cons ru .nil), ⟨_, hT2, rfl, _, rfl⟩⟩
      have be : b ≠ e := fun z => hb (by simp [z])
      have bi : b ≠ it := fun z => hb (by simp [z])
      exact (sb.2 b be).trans (hk b ob be bi q)
    · have e1 : lo + (((i + 1 : Nat)) : Int) = lo + (i : Int) + 1 := by omega
      rw [e1]
      exact he2
    · rw [upd_ne (Nat.ne_of_lt (mem2 hb))]
      exact (hf b hb).1
  done := by
    intro X hP hw hK hc i pins s σ H E I hf st hg
    subst hP hw hK
    obtain ⟨⟨was, he⟩, hit, hne⟩ := st
    obtain ⟨ys, hq, hx⟩ := hg
    obtain ⟨its, rv, lp, hz⟩ := I.list hq
    obtain ⟨f0, f1, f2, f3, f4, f5⟩ := hf it (by simp)
    have hl := rv.length
    have D : Draws X.prog X.w X.A.in1 it [it, a] i (fun _ _ => False) (fun j h => j = i ∧ h.IsListIter it a i ∧ h.IsList a its.toArray) := {
      live := fun j h st => by
        obtain ⟨_, ⟨o, ho, _⟩, _⟩ := st
        exact ⟨o, ho⟩
      frame := fun j h h' st k => ⟨st.1, st.2.1.at fun o q => k it (by simp) o q, st.2.2.at fun o q => k a (by simp) o q⟩
      item := fun j s Q E hj st _ => by
        have := st.1
        omega
      done := fun s Q E st hE => wpAny_nextOf_list_end (I.ok.hd hc) st.2.1 st.2.2 (by simp; omega) hE }
    exact wpAny_pyNext_enum_endD D he ⟨rfl, hit, lp.isList⟩ fun h1 eb => ⟨rfl, I.turned (t' := s.toks) (fun b o hb q => eb b o hb q) f0 f1 f3 f4 f5⟩
  self := fun A i s Q E st h => st.1.elim fun _ he => wpAny_pyIter_enum he h
def iEnumS (K : PySem.W.Frag) (ta : TA) : TI := fun σ H R => ta σ H fun vs H1 => ∃ a xs lo, vs = [.ref a, .int lo] ∧ SqL K H1 a xs ∧ -(2 ^ 62) ≤ lo ∧ lo < 2 ^ 62 ∧ R (ItE K a lo) H1
theorem pi_enumS {X : Cx} {e1 e2 : Expr} {ta : TA} {p pos tpos : Pos} {elts : List Expr} {kk : Nat} (hg : Gl X "enumerate") (hm : X.mg "enumerate" = none) (ha : PA X [e1, e2] ta)
    (he : starEach (e1 :: [e2]) X.env = (false, eval e1 X.env) :: starEach [e2] X.env := by rfl) (hpl : (backTo pos (starEach [e2] X.env)).any (·.1) = false := by rfl) :
    PI X (.Tuple elts kk tpos) (.Call (.Name "enumerate" p) [e1, e2] [] pos) (iEnumS X.K ta) := by
  refine ⟨fun pins s σ H R I h => ?_⟩
  refine Call_ (ld_blt I hg hm boot_enumerate (PyProof.Rows.callWith_type1 (thn (ha.run pos pins s σ H _ I h) fun us s1 hh => ?_) he hpl))
  obtain ⟨vs, H1, I1, r1, a, xs, lo, ex, hq, hl0, hl1, q⟩ := hh
  subst ex
  obtain ⟨u1, u2, rfl, ra, rb⟩ := vals2 r1
  obtain rfl : u1 = Value.ref a := ra
  obtain ⟨t, rfl⟩ := rb
  obtain ⟨its, rv, lp, hz⟩ := I1.list hq
  refine enum_begins (begins_list a its.toArray) lp.isList (by omega) (by omega) fun h1 he hit hsz hk => wpAny_pyIter_enum he ?_
  have I2 : Inv X pins σ H1 { s1 with heap := h1 } := I1.kept (t' := s1.toks) hk
  refine ⟨s1.heap.objs.size + 1, [s1.heap.objs.size + 1, s1.heap.objs.size], _, _, H1, rfl, I2, turn_enumS a (s1.heap.objs.size + 1) s1.heap.objs.size lo, ⟨⟨.none, by simpa using he⟩, ⟨_, hit, rfl, rfl⟩, Nat.succ_ne_self _⟩, fun b hb => ?_, q⟩
  have hle : s1.heap.objs.size ≤ b := by
    rcases List.mem_cons.mp hb with z | z
    · rw [z]; exact Nat.le_add_right _ _
    · rw [List.mem_singleton.mp z]; exact Nat.le_refl _
  exact I1.fpOk hle (I1.hok.fresh hle)
/-! ### list(text), text * int -/
abbrev sg (z : Str) : List Nat := z.cps.toList
def signsV (z : Str) : List V := (sg z).map fun c => V.str ⟨#[c]⟩
theorem signs_vals : ∀ (l : List Nat) (us : List Value), us.length = l.length → (∀ (j : Nat) (v : Value), us[j]? = some v → ∃ (c : Nat) (u : Tok), l[j]? = some c ∧ v = Value.str ⟨#[c]⟩ u) → Vals (l.map fun c => V.str ⟨#[c]⟩) us
  | [], [], _, _ => .nil
  | c :: l, u :: us, hl, h => by
    obtain ⟨c', t, e1, e2⟩ := h 0 u rfl
    have e1' : c = c' := by simpa using e1
    subst e1'
    exact .cons ⟨t, e2⟩ (signs_vals l us (by simpa using hl) fun j v e => by simpa using h (j + 1) v (by simpa using e))
  | [], _ :: _, hl, _ => by simp at hl
  | _ :: _, [], hl, _ => by simp at hl
theorem call_list_txt {X : Cx} (hc : X.calm = true) : CallR X (.type "list") (fun xs H Q => ∃ z, xs = [.str z] ∧ z.length ≤ sizeLine ∧ ∀ l, H l = none → Q (.ref l) (upd H l (.lst (signsV z)))) := by
  intro pins s σ H xs us Q I r h
  obtain ⟨z, rfl, hz, q⟩ := h
  obtain ⟨u, rfl, rx⟩ := vals1 r
  obtain ⟨t, rfl⟩ := rx
  refine call_list_str (I.ok.hd hc) z t (fun h' tk acc c' hk hS hacc => ?_) (hn := hz)
  have hv : Vals (signsV z) acc.toList := signs_vals _ _ (by simpa [sg] using hacc.1) fun j v e => by
    obtain ⟨c, u, e1, e2⟩ := hacc.2 j v (by simpa using e)
    exact ⟨c, u, by simpa [sg] using e1, e2⟩
  have hlen : (signsV z).length ≤ sizeLine := by simpa [signsV, sg, Str.length] using hz
  exact ⟨.ref s.heap.objs.size, _, I.laid (t' := tk) hk (Nat.le_refl _) (show ObjOk X.prog X.w _ h' _ (.lst (signsV z)) from ⟨hlen, acc.toList, c', hv, hS⟩), rfl, q _ (I.hok.fresh (Nat.le_refl _))⟩
theorem mulOk6 {z : Str} {i : Int} (hz : z.length = 1) (h0 : 0 ≤ i) (h1 : i ≤ 6) : PySem.MulOk z i := by
  have : i = 0 ∨ i = 1 ∨ i = 2 ∨ i = 3 ∨ i = 4 ∨ i = 5 ∨ i = 6 := by omega
  unfold PySem.MulOk
  rw [hz]
  rcases this with rfl | rfl | rfl | rfl | rfl | rfl | rfl <;> decide
theorem op_mul_txt {X : Cx} : OpR X (binaryOp .Mult) (fun x y H Q => ∃ (z : Str) (i : Int), x = .str z ∧ y = .int i ∧ z.length = 1 ∧ 0 ≤ i ∧ i ≤ 6 ∧ Q (.str (Txt.mul z i)) H) := by
  intro pins s σ H x y v u Q I rx ry h
  obtain ⟨z, i, rfl, rfl, hz, h0, h1, q⟩ := h
  obtain ⟨t, rfl⟩ := rx
  obtain ⟨t', rfl⟩ := ry
  exact PySem.SB.mul (mulOk6 hz h0 h1) fun t2 k => ⟨.str (Txt.mul z i), H, I.tok k, ⟨t2, rfl⟩, q⟩
/-! ### a comprehension over a text -/
theorem lc_txt {z : Str} {f : Nat → V} {g : TG} {te : TE} {vs : List Nat} {σ : L2.St} {H : Hp} {D : Addr} {Qd : Hp → Prop} (hD : H D = none) (hz : z.length ≤ 100000)
    (helt : ∀ (c : Nat) (H' : Hp) (R : V → Hp → Prop), c ∈ sg z → Same H H' → R (f c) H' → g (.str ⟨#[c]⟩) (wipe σ vs) H' fun σ2 H2 => wipe σ2 vs = wipe σ vs ∧ te σ2 H2 R)
    (hq : ∀ H', Same H H' → H' D = some (.lst ((sg z).map f)) → Qd H') :
    ∃ W : Nat → Nat → Hp → Prop, (∃ m, W 0 m (upd H D (.lst []))) ∧ ∀ i m H, W i m H →
      ((Its z).stop i H ∧ Qd H) ∨ ((Its z).go i H ∧ ∃ Nx : Hp → Prop, (∀ H', Nx H' → ∃ m', m' < m ∧ W (i + 1) m' H') ∧ ∀ x H', (Its z).yld i H x H' → g x (wipe σ vs) H' fun σ2 H2 => wipe σ2 vs = wipe σ vs ∧ tYes σ2 H2 fun b H3 =>
        if b = true then te σ2 H3 fun y H4 => ∃ acc, H4 D = some (.lst acc) ∧ acc.length < sizeLine ∧ Nx (upd H4 D (.lst (acc ++ [y]))) else Nx H3) := by
  have hsz : z.cps.size = (sg z).length := by simp [sg]
  refine lc_it (walk_str (z := z)) (fun i H' => Same H H' ∧ H' D = some (.lst (((sg z).take i).map f))) ⟨same_new hD _, upd_same⟩ (fun _ _ _ _ => True.intro) ?_ (fun H' h => hq H' h.1 (by rw [hsz] at h; rw [h.2, List.take_length]))
  rintro i x H1 H2 hi ⟨g1, g2⟩ ⟨rfl, c, hc, rfl⟩
  have hc' : (sg z)[i]? = some c := by simpa [sg] using hc
  refine helt c H2 _ (List.mem_of_getElem? hc') g1 ⟨_, g2, ?_, fun b o q => ?_, ?_⟩
  · have : (((sg z).take i).map f).length ≤ z.length := by simp [sg, Str.length]; omega
    exact Nat.lt_of_le_of_lt (Nat.le_trans this hz) (by decide)
  · rw [upd_ne (ne_of_none q hD)]
    exact g1 b o q
  · rw [upd_same, List.take_add_one, hc']
    simp
end Fp
namespace Fp
open PySem PySem.Spec PyProof.Rows L2
/-! ### methods with their promises -/
section
variable {X : Cx} {k i : Nat} {x m : Str} {p pos apos : Pos} {e o : Expr} {es : List Expr} {t : TA} {ta : TE} {C : Addr} {ps : List Str} {sp : Sp}
structure Md (P : Program) (w : World) (K : PySem.W.Frag) (mg : Str → Option Value) (base : Heap) (CX : CXT) (C : Addr) (m : Str) (k : Nat) (ps : List Str) (sp : Sp) : Prop where
  ex : ∃ (f : Addr) (fd : FuncData), Meth K C m f ∧ Binds K fd ps [] ∧ FnOk P w K mg base CX k f fd ps sp
theorem pe_md {pl : Sem Bool} (he : PE X o ta) (c : Cls X.K C) (M : Md X.prog X.w X.K X.mg X.base CX0 C m k ps sp) (hr : Room k X.A) (ha : PA X (e :: es) t)
    (hst : starEach (e :: es) X.env = (false, eval e X.env) :: starEach es X.env := by rfl) (hpl : (backTo pos (starEach es X.env)).any (·.1) = false := by rfl)
    (ht : eval (.Call (.Attribute o m apos) (e :: es) [] pos) X.env = (do
      let ov ← eval o X.env
      standAt apos.atName
      let (f, first) ← holding [ov] (getMethod ov m pl)
      callWith pos f first (backTo pos (starEach (e :: es) X.env)) (backToKw pos (keywordEach [] X.env))) := by rfl) :
    PE X (.Call (.Attribute o m apos) (e :: es) [] pos) (tMeth C m sp [] E0 ta t) := by
  obtain ⟨f, fd, h1, h2, h3⟩ := M.ex
  exact pe_meth he c h1 h3 hr h2 .nil pass0 ha hst hpl ht
theorem pe_md0 {pl : Sem Bool} (he : PE X o ta) (c : Cls X.K C) (M : Md X.prog X.w X.K X.mg X.base CX0 C m k ps sp) (hr : Room k X.A)
    (ht : eval (.Call (.Attribute o m apos) [] [] pos) X.env = (do
      let ov ← eval o X.env
      standAt apos.atName
      let (f, first) ← holding [ov] (getMethod ov m pl)
      callWith pos f first (backTo pos (starEach [] X.env)) (backToKw pos (keywordEach [] X.env))) := by rfl) :
    PE X (.Call (.Attribute o m apos) [] [] pos) (tMeth C m sp [] E0 ta tNil) := by
  obtain ⟨f, fd, h1, h2, h3⟩ := M.ex
  exact pe_meth0 he c h1 h3 hr h2 .nil pass0 ht
end
/-- a statement that is never reached -/
theorem ps_no {X : Cx} {st : Stmt} : PS X st (fun _ _ _ => False) := ⟨fun _ _ _ _ _ _ h => h.elim⟩
/-! ### a class of the module, made with its promise -/
structure MkC (P : Program) (w : World) (K : PySem.W.Frag) (mg : Str → Option Value) (base : Heap) (x : Str) (C : Addr) (k : Nat) (ps : List Str) (sp : Sp) : Prop where
  at_ : mg x = some (.ref C)
  ex : ∃ (f : Addr) (fd : FuncData), Mk K C f ∧ Binds K fd ps [] ∧ FnOk P w K mg base CX0 k f fd ps sp
section
variable {X : Cx} {x : Str} {k : Nat} {ps : List Str} {sp : Sp} {C : Addr} {e : Expr} {es : List Expr} {t : TA} {p pos : Pos}
theorem pe_mk0 (M : MkC X.prog X.w X.K X.mg X.base x C k ps sp) (hr : Room (k + 1) X.A) (hg : Gl X x) (hdb : (x == ("__debug__" : Str)) = false := by decide) : PE X (.Call (.Name x p) [] [] pos) (tMake C sp [] E0 tNil) := by
  obtain ⟨f, fd, h1, h2, h3⟩ := M.ex
  exact pe_make0 h1 h3 hr hg M.at_ h2 .nil pass0 hdb
theorem pe_mk (M : MkC X.prog X.w X.K X.mg X.base x C k ps sp) (hr : Room (k + 1) X.A) (hg : Gl X x) (ha : PA X (e :: es) t) (hdb : (x == ("__debug__" : Str)) = false := by decide)
    (he : starEach (e :: es) X.env = (false, eval e X.env) :: starEach es X.env := by rfl) (hpl : (backTo pos (starEach es X.env)).any (·.1) = false := by rfl) : PE X (.Call (.Name x p) (e :: es) [] pos) (tMake C sp [] E0 t) := by
  obtain ⟨f, fd, h1, h2, h3⟩ := M.ex
  exact pe_make h1 h3 hr hg M.at_ h2 .nil pass0 ha hdb he hpl
end
/-! ### x == y, x != y by an own __eq__ (no own __ne__) -/
section
open PySem.W
variable {prog : Program} {w : World} {A : Around} {E : Value → Shared → Prop} {s : Shared} {K : Frag} {x C L f : Addr} {h₀ : Heap} {m : Str → Option Value} {ox : Obj} {od : Option Obj} {b tb : Value}
theorem tryNe_K {Q : Option Value → Shared → Prop} (hu : A.units + 1 < cLine) (X : K.In s.heap) (I : InstAt s.heap x ox C od) (hne : findIn K (.ref C) "__ne__" = some (some (.builtin "object.__ne__"))) (top : mroIn K C (.type "object") = some true)
    (hs : findIn K (.ref C) "__eq__" = some (some (.ref f))) (hf : isFn K (.ref f) = true)
    (h : wpAny (model prog w) A.in1 (call (.ref f) [.ref x, b]) (fun v s' => ∃ k, v = .bool k ∧ Q (some (.bool (!k))) s') E s) : wpAny (model prog w) A (tryCompare (.ref x) "__ne__" b) Q E s := by
  have inner : ∀ (A' : Around) (hu' : A'.units < cLine) (E' : Value → Shared → Prop) (Q' : Fin → Shared → Prop), wpAny (model prog w) A' (call (.ref f) [.ref x, b]) (fun v s' => ∃ k, v = .bool k ∧ Q' (.done (.ret (.bool (!k)))) s') E' s →
      wpAny (model prog w) A' (Builtin.«object.__ne__» ⟨[.ref x, b], []⟩) Q' E' s := by
    intro A' hu' E' Q' h'
    unfold Builtin.«object.__ne__»
    repeat (first
      | with_reducible refine wpAny_cRoomFor hu' ?_
      | (refine wpAny_bind (m := callSpecialIfBound? (.ref x) (Str.ofString "__eq__") [b])
          (ifBound_K X I hs hf (wpAny_mono h' (fun r s' hr => by
            obtain ⟨k, rfl, hq⟩ := hr
            repeat (first | exact hq | exact wpAny_pure hq | exact wpAny_truthy_bool hq | (refine wpAny_bind (m := truthy (.bool _)) (wpAny_truthy_bool ?_)) | wp_step)) fun _ _ e => e)))
      | wp_step)
  have hi : Looks (model prog w) s.heap (isInstance (.ref x) (.type "object")) true := I.type.andThen (looks_mroIn X top)
  have S := F.slot_object_ne
  have done : ∀ (Q' : Value → Shared → Prop), wpAny (model prog w) A.in1 (call (.ref f) [.ref x, b]) (fun v s' => ∃ k, v = .bool k ∧ Q' (.bool (!k)) s') E s → wpAny (model prog w) A (call (.builtin "object.__ne__") [.ref x, b]) Q' E s := by
    intro Q' h'
    refine wpAny_call (codeAny_call_builtin S.plain PySem.F.cmpEntry_ne (check_slot PySem.F.cmpKind_ne PySem.F.cmpSplit_ne hi (PySem.F.cmpArgs_ne _ _) (inner A.in1 hu _ _ (wpAny_mono h' (fun v s' hv => ?_) fun _ _ e => e))))
    obtain ⟨k, rfl, hq⟩ := hv
    exact ⟨k, rfl, hq⟩
  have one : wpAny (model prog w) A (callSpecialIfBound? (.ref x) "__ne__" [b]) (fun r s' => ∃ k, r = some (.bool k) ∧ Q (some (.bool k)) s') E s := by
    simp only [callSpecialIfBound?, bindSpecialIfBound?]
    refine wpAny_holding (wpAny_bind (wpAny_bind (wpAny_bind (I.type.here ((looks_findIn X hne).here ?_)))))
    refine wpAny_bind (wpAny_askSetting (wpAny_ite ?_))
    have fin : wpAny (model prog w) A (call (.builtin "object.__ne__") ([.ref x] ++ [b]) >>= fun v => pure (some v)) (fun r s' => ∃ k, r = some (.bool k) ∧ Q (some (.bool k)) s') E s :=
      wpAny_bind (done _ (wpAny_mono h (fun v s' hv => by
        obtain ⟨k, rfl, hq⟩ := hv
        exact ⟨k, rfl, wpAny_pure ⟨_, rfl, hq⟩⟩) fun _ _ e => e))
    rw [S.bind]
    split
    · exact wpAny_bind (wpAny_pure (wpAny_pure fin))
    · exact wpAny_tryCatch (wpAny_bind (wpAny_pure (wpAny_pure fin)))
  unfold tryCompare
  refine wpAny_bind (wpAny_mono one (fun r s' z => ?_) fun _ _ e => e)
  obtain ⟨k, rfl, hq⟩ := z
  exact wpAny_pure hq
theorem ne_K {Q : Value → Shared → Prop} (hu : A.units + 1 < cLine) (F : Fr h₀ L s.heap m) (X₀ : K.In h₀) (I : InstAt s.heap x ox C od) (hb : Looks (model prog w) s.heap (typeOf b) tb) (hn : notFirst K C tb = true)
    (hne : findIn K (.ref C) "__ne__" = some (some (.builtin "object.__ne__"))) (top : mroIn K C (.type "object") = some true) (hs : findIn K (.ref C) "__eq__" = some (some (.ref f))) (hf : isFn K (.ref f) = true)
    (h : wpAny (model prog w) A.in1 (call (.ref f) [.ref x, b]) (fun v s' => ∃ k, v = .bool k ∧ Q (.bool (!k)) s') E s) : wpAny (model prog w) A (richCompare .NotEq (.ref x) b) Q E s := by
  have X := X₀.keeps F.keep
  have one : wpAny (model prog w) A (tryCompare (.ref x) "__ne__" b) (fun r s' => ∃ v, r = some v ∧ Q v s') E s :=
    tryNe_K hu X I hne top hs hf (wpAny_mono h (fun v s' hv => by
      obtain ⟨k, rfl, hq⟩ := hv
      exact ⟨k, rfl, _, rfl, hq⟩) fun _ _ e => e)
  unfold richCompare
  simp only [oneThing_ref]
  refine wpAny_holding (wpAny_bind (wpAny_cRoomFor (Nat.lt_of_succ_lt hu) ?_))
  refine wpAny_bind (I.type.here (wpAny_bind (hb.here ?_)))
  split
  · rename_i q
    have e : subIn K tb (.ref C) = some false := by
      rcases Bool.or_eq_true_iff.mp hn with e | e
      · rw [beq_iff_eq.mp e] at q; simp at q
      · exact beq_iff_eq.mp e
    refine wpAny_bind ((looks_subIn X e).here ?_)
    simp only [Bool.false_eq_true, if_false]
    refine wpAny_bind (wpAny_mono one (fun r s' z => ?_) fun _ _ e => e)
    obtain ⟨v, rfl, hq⟩ := z
    exact wpAny_pure hq
  · refine wpAny_bind (wpAny_pure ?_)
    simp only [Bool.false_eq_true, if_false]
    refine wpAny_bind (wpAny_mono one (fun r s' z => ?_) fun _ _ e => e)
    obtain ⟨v, rfl, hq⟩ := z
    exact wpAny_pure hq
end
/-- what a class with an own == must have -/
structure EqC (P : Program) (w : World) (K : PySem.W.Frag) (mg : Str → Option Value) (base : Heap) (C : Addr) (n : Nat) (ps : List Str) (sp : Sp) : Prop where
  ex : ∃ (f : Addr) (fd : FuncData), PySem.W.findIn K (.ref C) "__eq__" = some (some (.ref f)) ∧ PySem.W.isFn K (.ref f) = true ∧ Binds K fd ps [] ∧ FnOk P w K mg base CX0 n f fd ps sp
  ne : PySem.W.findIn K (.ref C) "__ne__" = some (some (.builtin "object.__ne__"))
  top : PySem.W.mroIn K C (.type "object") = some true
def rEqO (K : PySem.W.Frag) (C : Addr) (sp : Sp) (neg : Bool) : R2 := fun x y H Q => ∃ (a dx : Addr) (fs : List (Str × V)) (t : Value), x = .ref a ∧ H a = some (.ins C dx fs) ∧ TyX K H y t ∧ PySem.W.notFirst K C t = true ∧
  sp [x, y] H (fun v H' => ∃ b, v = .bl b ∧ Q (.bl (if neg then !b else b)) H') E0
section
variable {X : Cx} {C : Addr} {n : Nat} {ps : List Str} {sp : Sp}
theorem op_eqO (M : EqC X.prog X.w X.K X.mg X.base C n ps sp) (hr : Room n X.A) : OpR X (compareOp .Eq) (rEqO X.K C sp false) := by
  intro pins s σ H x y v u Q I rx ry h
  obtain ⟨a, dx, fs, t, rfl, ha, ty, hn, q⟩ := h
  cases rx
  obtain ⟨f, fd, hs, hf, hb, F⟩ := M.ex
  obtain ⟨mA, J, _⟩ := ins_get I.hok ha
  obtain ⟨od, J, _⟩ := J.look
  obtain ⟨m, hF⟩ := I.fr
  obtain ⟨Pk, Z, pk, _⟩ := kit_of I ry ty
  show wpAny (model X.prog X.w) X.A (richCompare .Eq (.ref a) u) (EP X pins σ Q) X.xe s
  refine PySem.W.cmp_K (op := .Eq) (tb := t) hr.units0 hF I.ok.mod.kin J (Z.ty _ _ I.kIn pk) hn hs hf ?_
  refine wpAny_mono (run_fn (us := [.ref a, u]) (vs := [.ref a, y]) F hr hb .nil pass0 I (.cons rfl (.cons ry .nil)) (show sp ([V.ref a, y] ++ []) H _ E0 from q)) (fun r s' z => ?_) fun _ _ e => e
  obtain ⟨v, H', I', rv, b, rfl, q'⟩ := z
  cases rv
  exact ⟨.bl b, H', I', rfl, q'⟩
theorem op_neO (M : EqC X.prog X.w X.K X.mg X.base C n ps sp) (hr : Room (n + 1) X.A) : OpR X (compareOp .NotEq) (rEqO X.K C sp true) := by
  intro pins s σ H x y v u Q I rx ry h
  obtain ⟨a, dx, fs, t, rfl, ha, ty, hn, q⟩ := h
  cases rx
  obtain ⟨f, fd, hs, hf, hb, F⟩ := M.ex
  obtain ⟨mA, J, _⟩ := ins_get I.hok ha
  obtain ⟨od, J, _⟩ := J.look
  obtain ⟨m, hF⟩ := I.fr
  obtain ⟨Pk, Z, pk, _⟩ := kit_of I ry ty
  show wpAny (model X.prog X.w) X.A (richCompare .NotEq (.ref a) u) (EP X pins σ Q) X.xe s
  refine ne_K (tb := t) (hu_of hr) hF I.ok.mod.kin J (Z.ty _ _ I.kIn pk) hn M.ne M.top hs hf ?_
  have e0 : Env0 X.prog X.w X.K X.mg X.base X.A.in1 X.stack s H := I.env0.in1
  have r2 : Vals ([V.ref a, y] ++ []) ([Value.ref a, u] ++ []) := (Vals.append (.cons rfl (.cons ry .nil)) .nil)
  have hsp : sp ([V.ref a, y] ++ []) H (fun v H' => ∃ b, v = .bl b ∧ Q (.bl (!b)) H') E0 := q
  have hl : ([Value.ref a, u] ++ []).length = ps.length := by rw [← r2.length]; exact F.len _ _ _ _ hsp
  refine wpAny_call (codeAny_mono (F.run X.A.in1 X.stack s H ⟨[.ref a, u], []⟩ _ _ _ E0 hr.in1 e0 (hb s [.ref a, u] I.kIn hl) r2 hsp) fun r s' hq => ?_)
  cases r with
  | error e => exact pass0 pins σ H s e s' I hq
  | ok fl =>
    cases fl with
    | ret u =>
      obtain ⟨v, H', I', rv, b, rfl, q'⟩ := I.after hq
      cases rv
      exact ⟨b, rfl, .bl (!b), H', I', rfl, q'⟩
    | next => exact False.elim hq
    | brk => exact False.elim hq
    | cont => exact False.elim hq
end
end Fp
/-! Defs that may show data: no repr under way -/
namespace L2
open PySem PySem.Spec PyProof.Rows
structure FnOkG (P : Program) (w : World) (K : PySem.W.Frag) (mg : Str → Option Value) (base : Heap) (CX : CXT) (k : Nat) (f : Addr) (fd : FuncData) (ps : List Str) (sp : Sp) : Prop where
  len : ∀ vs H Q E, sp vs H Q E → vs.length = ps.length
  run : ∀ (A : Around) (outer : List Env) (s : Shared) (H : Hp) (args : Args) (us : List Value) (vs : List V) (Q : VK) (E : XK), Room k A → A.guards = some [] → Env0 P w K mg base A outer s H → BindsTo s fd args (ps.zip us) → Vals vs us → sp vs H Q E →
    codeAny (model P w) A (.call (.ref f) args) (CR CX outer P w H s Q E) s
theorem fn_ofG {CX : CXT} {P : Program} {w : World} {K : PySem.W.Frag} {mg : Str → Option Value} {base : Heap} {k : Nat} {f : Addr} {name qual : Str} {params : Arguments} {body : List Stmt} {scope : Scope} {dV kV doc pm cdv ct oc : Value} {an od : Option Addr}
    {osl : Array (Option Value)} {N ps : List Str} {sp : Sp} (lk : K.lookup f = some ⟨oc, od, .func (PySem.W.fnOf name qual params body scope dV kV doc pm an cdv ct), osl⟩) (hcd : PySem.W.codeIn K cdv qual = true) (S : FnScope N ps scope)
    (len : ∀ vs H Q E, sp vs H Q E → vs.length = ps.length)
    (hbody : ∀ (A : Around) (outer : List Env) (s : Shared) (H : Hp) (vs : List V) (Q : VK) (E : XK), Room k (A.deeper (envOfC qual scope s.heap.objs.size f cdv)) → (A.deeper (envOfC qual scope s.heap.objs.size f cdv)).guards = some [] → sp vs H Q E →
      ∃ t, PSs (cxOf CX P w K mg base N qual scope f cdv A outer s H E) body t ∧ t { nx := fun _ H' => Q .non H', rt := Q } (start N vs) H) :
    FnOkG P w K mg base CX (k + 1) f (PySem.W.fnOf name qual params body scope dV kV doc pm an cdv ct) ps sp := by
  refine ⟨len, fun A outer s H args us vs Q E hr hgu e0 hb r hsp => ?_⟩
  have hl := len _ _ _ _ hsp
  have KX : K.In s.heap := e0.mod.kin.keeps fun b o e => (e0.bs b o e).1
  have lim : s.heap.NoLimit := e0.mod.nolimit.keeps fun b o e => (e0.bs b o e).1
  have hkind : ∀ y ∈ ps.zip us, scope.names.lookup y.1 = some .local ∨ (scope.names.lookup y.1 = some .cell ∧ ((cellsFrom (s.heap.objs.size + 1) scope.names []).lookup y.1).isSome = true) := fun ⟨n, v⟩ hy => by
    rcases S.par n (List.of_mem_zip hy).1 with q | q
    · exact .inl q
    · exact .inr ⟨q, PySem.W.cellsFrom_some _ _ _ (.inl q)⟩
  refine codeAny_call_function hr.depth (KX _ _ lk) rfl S.co S.gen rfl (PySem.W.codeRec_of KX hcd) (hb _ _ _ _ ?_)
  refine wpAny_newFunctionEnv_cells S.kind hkind fun env he s1 x => ?_
  subst he
  refine ⟨lim.keeps x.toInCall.keep, codeAny_func ?_⟩
  obtain ⟨t, ht, hq⟩ := hbody A outer s H vs Q E (hr.deeper _) hgu hsp
  have I : Inv (cxOf CX P w K mg base N qual scope f cdv A outer s H E) [] (start N vs) H s1 := inv_start S hr.hd e0 hl r x
  refine wpAny_mono (ht.run [] s1 (start N vs) H _ I hq) (fun fl s' hs => ?_) fun e s' hs => hs
  have fin : ∀ {σ' : St} {H' : Hp} {v : V} {u : Value}, Inv (cxOf CX P w K mg base N qual scope f cdv A outer s H E) [] σ' H' s' → RelV v u → Q v H' → CE outer P w H s Q u s' :=
    fun {σ' H' v u} J rv q => ⟨v, H', J.os, J.bare, J.base, J.hok, rv, q⟩
  cases fl with
  | ret u =>
    obtain ⟨v, σ', H', J, rv, q⟩ := hs
    exact fin J rv q
  | next =>
    obtain ⟨σ', H', J, q⟩ := hs
    exact fin (v := V.non) (u := Value.none) J rfl q
  | brk =>
    obtain ⟨_, _, _, q⟩ := hs
    exact False.elim q
  | cont =>
    obtain ⟨_, _, _, q⟩ := hs
    exact False.elim q
theorem law_callG {P : Program} {w : World} {K : PySem.W.Frag} {mg mb : Str → Option Value} {CX : CXT} {k : Nat} {fa a : Addr} {fd : FuncData} {x : Str} {sp : Sp} {s₁ : Shared} {vs : List Value} {ns : List Int}
    (KX : K.In s₁.heap) (hns : s₁.heap.Ns mainGlobals mg) (hb : s₁.heap.Ns builtinsNs mb) (hbb : ∀ x : Str, x ≠ "__name__" → mb x = bootBuiltins x) (hlim : s₁.heap.NoLimit) (hg : s₁.gens = #[])
    (ha : s₁.heap.get? a = some { cls := .type "list", data := .seq vs.toArray }) (hi : IntsAre vs ns) (hl : ns.length ≤ sizeLine) (hr : Room k callerA)
    (F : ∀ base : Heap, K.In base → base.Ns mainGlobals mg → FnOkG P w K mg base CX k fa fd [x] sp) (hbind : ∀ (s : Shared) (u : Value), BindsTo s fd ⟨[u], []⟩ [(x, u)])
    (hsp : ∀ H : Hp, Only H → SqL K H a (ns.map V.int) → sp [.ref a] H (fun v _ => v = .bl true) fun _ _ _ => False)
    (hCX : ∀ H e s', CX [] H s₁ (fun _ _ _ => False) e s' → False) :
    codeAny (model P w) callerA (.call (.ref fa) ⟨[.ref a], []⟩) (fun r s' => r = .ok (.ret (.bool true)) ∧ OldK s₁.heap s'.heap ∧ s'.os = s₁.os ∧ AllBare s'.gens) s₁ := by
  have rv := vals_ints hi
  have lenV := hi.length
  -- from an abstract heap in which nothing but the script may be tracked
  have core : ∀ H : Hp, Only H → SqL K H a (ns.map V.int) → HOk P w H s₁.heap → (∀ b, H b ≠ none → b = a) → (H a ≠ none → K.lookup a = none) →
      codeAny (model P w) callerA (.call (.ref fa) ⟨[.ref a], []⟩) (fun r s' => r = .ok (.ret (.bool true)) ∧ OldK s₁.heap s'.heap ∧ s'.os = s₁.os ∧ AllBare s'.gens) s₁ := by
    intro H hO hS hok hA hK
    have base_of : ∀ {b : Addr} {o : Obj}, s₁.heap.get? b = some o → H b = none → (hidT s₁.heap H).get? b = some o := fun e n => hidT_get e n
    have noA : ∀ {b : Addr} {o : Obj} {es : Array DictEntry} {ep : Nat}, s₁.heap.get? b = some o → o.data = .dict es ep → H b = none := fun {b o es ep} e d => by
      cases q : H b with
      | none => rfl
      | some u =>
        have e' : b = a := hA b (by rw [q]; simp)
        subst e'
        rw [ha] at e; cases e
        have d' : Data.seq vs.toArray _ = Data.dict es ep := d
        cases d'
    have nsK : ∀ {b : Addr} {m : Str → Option Value}, s₁.heap.Ns b m → (hidT s₁.heap H).Ns b m := fun {b m} ⟨o, es, ep, e, d, r⟩ => ⟨o, es, ep, base_of e (noA e d), d, r⟩
    have hKb : K.In (hidT s₁.heap H) := fun b o e => base_of (KX b o e) (by
      cases q : H b with
      | none => rfl
      | some u =>
        have e' : b = a := hA b (by rw [q]; simp)
        subst e'
        rw [hK (by rw [q]; simp)] at e; cases e)
    have hM : Mod K mg (hidT s₁.heap H) := ⟨hKb, nsK hns, ⟨mb, nsK hb, hbb⟩, let ⟨mc, h1, h2⟩ := hlim; ⟨mc, nsK h1, h2⟩⟩
    have e0 : Env0 P w K mg (hidT s₁.heap H) callerA [] s₁ H := ⟨rfl, hM, fun b o e => of_hidT e, Nat.le_of_eq (hidT_size _ _), trivial, fun b hb => absurd (show b ∈ ([] : List Addr) from hb) (by simp), hok, .of_eq hg⟩
    refine codeAny_mono ((F _ hKb (nsK hns)).run callerA [] s₁ H ⟨[.ref a], []⟩ [.ref a] [.ref a] _ _ hr rfl e0 (hbind s₁ (.ref a)) (.cons rfl .nil) (hsp H hO hS)) fun r s' h => ?_
    cases r with
    | error e => exact (hCX H e s' h).elim
    | ok fl =>
      cases fl with
      | next => exact False.elim h
      | brk => exact False.elim h
      | cont => exact False.elim h
      | ret u =>
        obtain ⟨v, H', os, bare, un, hok', r', q⟩ := h
        have q' : v = .bl true := q
        subst q'
        obtain rfl : u = Value.bool true := r'
        refine ⟨rfl, OldK.of_keep fun b o e => ?_, os, bare⟩
        cases q : H b with
        | none => exact un.keep b o e q (by intro z; exact absurd (show b ∈ ([] : List Addr) from z) (by simp)) (by simp)
        | some u =>
          rcases hO b with z | ⟨ob, xs, z⟩
          · rw [q] at z; cases z
          · have z2 := un.frzs b ob _ z
            obtain ⟨e1, _⟩ := hok b _ z
            obtain ⟨e2, _⟩ := hok' b _ z2
            rw [e] at e1; cases e1
            exact e2
  cases hk : K.lookup a with
  | some o =>
    -- the script is one of the module's own objects
    have e := KX a o hk
    rw [ha] at e
    cases e
    refine core (fun _ => none) (fun _ => .inl rfl) (.inr ⟨_, vs.toArray, _, hk, rfl, rfl, rfl, by rw [List.size_toArray, lenV]; exact hl, by simpa using rv⟩) (fun b u z => by have z' : (none : Option HO) = some u := z; cases z') (fun b z => absurd rfl z) fun z => absurd rfl z
  | none =>
    refine core (fun b => if b = a then some (.frz { cls := .type "list", data := .seq vs.toArray } (.lst (ns.map V.int))) else none) (fun b => ?_) (.inl (.inr ⟨{ cls := .type "list", data := .seq vs.toArray }, if_pos rfl⟩)) (fun b u z => ?_) (fun b z => ?_) fun _ => hk
    · by_cases hb : b = a
      · exact .inr ⟨_, _, if_pos hb⟩
      · exact .inl (if_neg hb)
    · by_cases hb : b = a
      · have z' := (if_pos hb).symm.trans z
        cases z'
        subst hb
        exact ⟨ha, by rw [List.length_map]; exact hl, vs, _, rv, ha⟩
      · have z' := (if_neg hb).symm.trans z
        cases z'
    · by_cases hb : b = a
      · exact hb
      · exact absurd (if_neg hb) z
theorem walk_ofG {l : PySem.W.OpenLaw} {n k : Nat} {q : Program} {loose : List Str} {XP : (Str → Option Value) → Heap → Prop} {YP : World → Heap → Prop} {d : DefRec} {K : Params → PySem.W.Frag} {CX : World → CXT} {sp : World → Sp} {x : Str}
    (hn : l.most = some n) (hn2 : n ≤ sizeLine) (hdf : d.params.defaults = []) (hr : Room k callerA)
    (hY : ∀ (w : World) (h : Heap), YP w h → (K w.params).In h)
    (F : ∀ (w : World) (mg : Str → Option Value) (fa : Addr) (h : Heap), (K w.params).In h → h.Ns mainGlobals mg → mg d.name = some (.ref fa) →
      ∃ fd : FuncData, (∀ (s : Shared) (u : Value), BindsTo s fd ⟨[u], []⟩ [(x, u)]) ∧
        ∀ base : Heap, (K w.params).In base → base.Ns mainGlobals mg → FnOkG l.prog w (K w.params) mg base (CX w) k fa fd [x] (sp w))
    (hsp : ∀ (w : World) (H : Hp) (a : Addr) (ns : List Int), ns.length ≤ n → Only H → SqL (K w.params) H a (ns.map V.int) → sp w [.ref a] H (fun v _ => v = .bl true) fun _ _ _ => False)
    (hCX : ∀ (w : World) (H : Hp) (s : Shared) (e : Value) (s' : Shared), CX w [] H s (fun _ _ _ => False) e s' → False) :
    PySem.W.WalkO q loose XP YP l.row.toRowW d [] (fun f vs => PySem.call f vs) := by
  refine Att.attach_call hn hdf fun w s₀ s₁ mg mb fa o pm cd doc a vs ns G Y ho hd hcd hmg hobj hints hlen hg => ?_
  have KX := hY w _ Y
  obtain ⟨fd, hb, hF⟩ := F w mg fa _ KX G.T.g hmg
  exact law_callG KX G.T.g G.T.b G.T.builtins G.T.nolimit hg hobj hints (Nat.le_trans hlen hn2) hr hF hb (fun H hO hS => hsp w H a ns hlen hO hS) fun H e s' => hCX w H s₁ e s'
theorem FnOk.toG {P : Program} {w : World} {K : PySem.W.Frag} {mg : Str → Option Value} {base : Heap} {CX : CXT} {k : Nat} {f : Addr} {fd : FuncData} {ps : List Str} {sp : Sp} (F : FnOk P w K mg base CX k f fd ps sp) : FnOkG P w K mg base CX k f fd ps sp :=
  ⟨F.len, fun A outer s H args us vs Q E hr _ => F.run A outer s H args us vs Q E hr⟩
end L2
namespace Fp
open PySem PySem.Spec PyProof.Rows L2
section
variable {P : Program} {w : World} {K : PySem.W.Frag} {mg : Str → Option Value} {base : Heap}
theorem fun_okG {x qual : Str} {st : Stmt} {f : Addr} {fd : FuncData} {N ps : List Str} {k : Nat} {sp : Sp} (F : Fun K x qual st f fd) (S : FnScope N ps (defScope st)) (len : ∀ vs H Q E, sp vs H Q E → vs.length = ps.length)
    (hbody : ∀ (cdv : Value) (A : Around) (outer : List Env) (s : Shared) (H : Hp) (vs : List V) (Q : VK) (E : XK), Room k (A.deeper (envOfC qual (defScope st) s.heap.objs.size f cdv)) → (A.deeper (envOfC qual (defScope st) s.heap.objs.size f cdv)).guards = some [] → sp vs H Q E →
      ∃ t, PSs (cxOf CX0 P w K mg base N qual (defScope st) f cdv A outer s H E).nox (defBody st) t ∧ t { nx := fun _ H' => Q .non H', rt := Q } (start N vs) H) : FnOkG P w K mg base CX0 (k + 1) f fd ps sp := by
  obtain ⟨oc, od, kV, doc, pm, an, cdv, ct, osl, rfl, lk, hcd⟩ := F.ex
  refine fn_ofG lk hcd S len fun A outer s H vs Q E hr hg hsp => ?_
  obtain ⟨t, h, q⟩ := hbody cdv A outer s H vs Q E hr hg hsp
  exact ⟨t, h.nox, q⟩
structure FdG (P : Program) (w : World) (K : PySem.W.Frag) (mg : Str → Option Value) (base : Heap) (CX : CXT) (x : Str) (k : Nat) (ps : List Str) (sp : Sp) : Prop where
  ex : ∃ (f : Addr) (fd : FuncData), mg x = some (.ref f) ∧ PySem.W.keepIn K (.ref f) = true ∧ Binds K fd ps [] ∧ FnOkG P w K mg base CX k f fd ps sp
end
section
variable {X : Cx} {x : Str} {k : Nat} {ps : List Str} {sp : Sp} {e : Expr} {es : List Expr} {t : TA} {p pos : Pos}
theorem pe_fdG (G : FdG X.prog X.w X.K X.mg X.base CX0 x k ps sp) (hr : Room k X.A) (hgu : X.A.guards = some []) (hg : Gl X x) (ha : PA X (e :: es) t) (hdb : (x == ("__debug__" : Str)) = false := by decide)
    (he : starEach (e :: es) X.env = (false, eval e X.env) :: starEach es X.env := by rfl) (hpl : (backTo pos (starEach es X.env)).any (·.1) = false := by rfl) :
    PE X (.Call (.Name x p) (e :: es) [] pos) (tCall sp [] E0 t) := by
  obtain ⟨f, fd, hm, hk, hb, F⟩ := G.ex
  refine ⟨fun pins s σ H Q I h => ?_⟩
  refine wpAny_Call_Name_kw (ld_glob I hg hm ?_ hdb)
  refine PySem.W.callWith_K (h₀ := X.base) I.ok.mod.kin hk (thn (ha.run pos pins s σ H _ I h) fun us s1 ⟨vs, H1, I1, r, q⟩ => ⟨I1.kIn, ?_⟩) he hpl
  have r2 : Vals (vs ++ []) (us ++ []) := r.append .nil
  have hl : (us ++ []).length = ps.length := by rw [← r2.length]; exact F.len _ _ _ _ q
  refine wpAny_call (codeAny_mono (F.run X.A X.stack s1 H1 ⟨us, []⟩ (us ++ []) (vs ++ []) Q E0 hr hgu I1.env0 (hb s1 us I1.kIn hl) r2 q) fun r s' hq => ?_)
  cases r with
  | error e => exact pass0 pins σ H1 s1 e s' I1 hq
  | ok fl =>
    cases fl with
    | ret u => exact I1.after hq
    | next => exact False.elim hq
    | brk => exact False.elim hq
    | cont => exact False.elim hq
/-- repr(x), x of data -/
theorem call_reprG (hgu : X.A.guards = some []) (hu : X.A.units + 64 < cLine) : CallR X (.builtin "repr") (fun xs H Q => ∃ (p : Addr) (d : PyData), xs = [.ref p] ∧ Dp X.K H (.ref p) d ∧ d.showable = true ∧ d.hasDict = false ∧ d.depth ≤ 60 ∧ d.shown.length ≤ sizeLine ∧ Q (.str d.shown) H) := by
  intro pins s σ H xs us Q I r h
  obtain ⟨p, d, rfl, hd, h1, h2, h3, h4, q⟩ := h
  obtain ⟨u, rfl, rx⟩ := vals1 r
  obtain ⟨as, rd⟩ := Dp.reads I d _ u hd rx
  cases rx
  exact repr_of_reads' rd h1 (fun z => by rw [h2] at z; cases z) hgu (by omega) (fun _ _ z => z) (fun h' u tk k => ⟨.str d.shown, H, I.kept (t' := tk) k, ⟨_, rfl⟩, q⟩) h4
end
end Fp
namespace Fp
open PySem PySem.Spec PyProof.Rows L2
/-! ### for i, x in enumerate(tuple, start) -/
def ItF (K : PySem.W.Frag) (a : Addr) (lo : Int) : It :=
  ⟨fun i H => ∃ (ys : List V) (y : V), SqT K H a ys ∧ ys[i]? = some y,
   fun i H v H' => ∃ T y, v = .ref T ∧ H T = none ∧ H' = upd H T (.tup [.int (lo + (i : Nat)), y]) ∧ ∀ ys, SqT K H a ys → ys[i]? = some y,
   fun i H => ∃ ys : List V, SqT K H a ys ∧ ys.length ≤ i⟩
theorem turn_enumF {P : Program} {w : World} {K : PySem.W.Frag} {elts : List Expr} {kk : Nat} {tpos : Pos} (a e it : Addr) (lo : Int) :
    Turn P w K (.Tuple elts kk tpos) (ItF K a lo) [e, it] e (fun i h => (∃ was, IsEnum h e it (lo + ((i : Nat) : Int)) was) ∧ h.IsTupleIter it a i ∧ e ≠ it) where
  mem := List.mem_cons_self
  obj := fun i h st b hb => by
    obtain ⟨⟨was, he⟩, ⟨o, ho, hc, hd⟩, _⟩ := st
    rcases List.mem_cons.mp hb with z | z
    · subst z
      exact ⟨_, he, fun v q => nomatch q⟩
    · have z' := List.mem_singleton.mp z
      subst z'
      exact ⟨o, ho, fun v q => by rw [hd] at q; cases q⟩
  keep := fun i h h' st k => ⟨st.1.imp fun was he => k e (by simp) _ he, st.2.1.at fun o q => k it (by simp) o q, st.2.2⟩
  item := by
    intro X hP hw hK hc i pins s σ H E I hf st hg
    subst hP hw hK
    obtain ⟨⟨was, he⟩, hit, hne⟩ := st
    obtain ⟨ys, y, hq, hx⟩ := hg
    obtain ⟨its, rv, lp, hz⟩ := I.tuple hq
    obtain ⟨u, hu, ru⟩ := rv.get hx
    have le : e < s.heap.objs.size := Heap.lt_size he
    have li : it < s.heap.objs.size := by
      obtain ⟨_, q, _⟩ := hit
      exact Heap.lt_size q
    have fr := I.hok.fresh (Nat.le_refl s.heap.objs.size)
    have hL := lp
    have nel : e ≠ a := fun z => by
      obtain ⟨o, ho, hc', _⟩ := hL
      rw [← z, (show s.heap.get? e = some _ from he)] at ho
      cases ho
      injection hc' with z'
      exact absurd z' (by decide)
    have nil' : a ≠ it := fun z => by
      obtain ⟨o, ho, hc', _⟩ := hL
      obtain ⟨o2, ho2, hc2, _⟩ := hit
      rw [z, ho2] at ho
      cases ho
      rw [hc2] at hc'
      injection hc' with z'
      exact absurd z' (by decide)
    have hiu : its.toArray[i]? = some u := by simpa using hu
    have hlt : i < its.toArray.size := by
      by_cases z : i < its.toArray.size
      · exact z
      · rw [Array.getElem?_eq_none (by omega)] at hiu
        cases hiu
    refine wpAny_pyNext_enum_itemC (Draws.tuple (A := X.A.in1) (I.ok.hd hc) it a nil' its.toArray) he ⟨hit, hL⟩ hlt hne (by simp [hne, nel]) fun x h1 tk hx1 ho hst1 hT hsz hk => ⟨_, rfl, ?_⟩
    rw [hiu] at hx1
    cases hx1
    have hit1 := hst1.1
    refine wpAny_letOwnedTupleGo_enum (s := { s with heap := h1, toks := tk + 1 }) ho fun h2 he2 sb => ?_
    have hT2 := (sb.2 _ (Nat.ne_of_gt le)).trans hT
    have mem2 : ∀ {b : Addr}, b ∈ [e, it] → b < s.heap.objs.size := fun {b} hb => by
      rcases List.mem_cons.mp hb with z | z
      · rw [z]; exact le
      · rw [List.mem_singleton.mp z]; exact li
    refine ⟨.ref s.heap.objs.size, upd H s.heap.objs.size (.tup [.int (lo + (i : Nat)), y]), ?_, rfl, ⟨_, y, rfl, fr, rfl, fun zs hy => by rw [I.tuple_inj hy hq]; exact hx⟩, ⟨⟨u, ?_⟩, hit1.at fun o q => (sb.2 it (Ne.symm hne)).trans q, hne⟩, fun b hb => ?_⟩
    · refine I.turnedNew (ch := [e, it]) (fun b ob hb q => ?_) hf (Nat.le_refl _) ⟨by show 2 ≤ sizeLine; decide, [.int (lo + (i : Nat)) tk, u], .cons ⟨_, rfl⟩ (.cons ru .nil), ⟨_, hT2, rfl, _, rfl⟩⟩
      have be : b ≠ e := fun z => hb (by simp [z])
      have bi : b ≠ it := fun z => hb (by simp [z])
      exact (sb.2 b be).trans (hk b ob be bi q)
    · have e1 : lo + (((i + 1 : Nat)) : Int) = lo + (i : Int) + 1 := by omega
      rw [e1]
      exact he2
    · rw [upd_ne (Nat.ne_of_lt (mem2 hb))]
      exact (hf b hb).1
  done := by
    intro X hP hw hK hc i pins s σ H E I hf st hg
    subst hP hw hK
    obtain ⟨⟨was, he⟩, hit, hne⟩ := st
    obtain ⟨ys, hq, hx⟩ := hg
    obtain ⟨its, rv, lp, hz⟩ := I.tuple hq
    obtain ⟨f0, f1, f2, f3, f4, f5⟩ := hf it (by simp)
    have hl := rv.length
    have D : Draws X.prog X.w X.A.in1 it [it, a] i (fun _ _ => False) (fun j h => j = i ∧ h.IsTupleIter it a i ∧ h.IsTuple a its.toArray) := {
      live := fun j h st => by
        obtain ⟨_, ⟨o, ho, _⟩, _⟩ := st
        exact ⟨o, ho⟩
      frame := fun j h h' st k => ⟨st.1, st.2.1.at fun o q => k it (by simp) o q, st.2.2.at fun o q => k a (by simp) o q⟩
      item := fun j s Q E hj st _ => by
        have := st.1
        omega
      done := fun s Q E st hE => wpAny_nextOf_tuple_end (I.ok.hd hc) st.2.1 st.2.2 (by simp; omega) hE }
    exact wpAny_pyNext_enum_endD D he ⟨rfl, hit, lp⟩ fun h1 eb => ⟨rfl, I.turned (t' := s.toks) (fun b o hb q => eb b o hb q) f0 f1 f3 f4 f5⟩
  self := fun A i s Q E st h => st.1.elim fun _ he => wpAny_pyIter_enum he h
def iEnumF (K : PySem.W.Frag) (ta : TA) : TI := fun σ H R => ta σ H fun vs H1 => ∃ a xs lo, vs = [.ref a, .int lo] ∧ SqT K H1 a xs ∧ -(2 ^ 62) ≤ lo ∧ lo < 2 ^ 62 ∧ R (ItF K a lo) H1
theorem pi_enumF {X : Cx} {e1 e2 : Expr} {ta : TA} {p pos tpos : Pos} {elts : List Expr} {kk : Nat} (hg : Gl X "enumerate") (hm : X.mg "enumerate" = none) (ha : PA X [e1, e2] ta)
    (he : starEach (e1 :: [e2]) X.env = (false, eval e1 X.env) :: starEach [e2] X.env := by rfl) (hpl : (backTo pos (starEach [e2] X.env)).any (·.1) = false := by rfl) :
    PI X (.Tuple elts kk tpos) (.Call (.Name "enumerate" p) [e1, e2] [] pos) (iEnumF X.K ta) := by
  refine ⟨fun pins s σ H R I h => ?_⟩
  refine Call_ (ld_blt I hg hm boot_enumerate (PyProof.Rows.callWith_type1 (thn (ha.run pos pins s σ H _ I h) fun us s1 hh => ?_) he hpl))
  obtain ⟨vs, H1, I1, r1, a, xs, lo, ex, hq, hl0, hl1, q⟩ := hh
  subst ex
  obtain ⟨u1, u2, rfl, ra, rb⟩ := vals2 r1
  obtain rfl : u1 = Value.ref a := ra
  obtain ⟨t, rfl⟩ := rb
  obtain ⟨its, rv, lp, hz⟩ := I1.tuple hq
  refine enum_begins (begins_tuple a its.toArray) lp (by omega) (by omega) fun h1 he hit hsz hk => wpAny_pyIter_enum he ?_
  have I2 : Inv X pins σ H1 { s1 with heap := h1 } := I1.kept (t' := s1.toks) hk
  refine ⟨s1.heap.objs.size + 1, [s1.heap.objs.size + 1, s1.heap.objs.size], _, _, H1, rfl, I2, turn_enumF a (s1.heap.objs.size + 1) s1.heap.objs.size lo, ⟨⟨.none, by simpa using he⟩, ⟨_, hit, rfl, rfl⟩, Nat.succ_ne_self _⟩, fun b hb => ?_, q⟩
  have hle : s1.heap.objs.size ≤ b := by
    rcases List.mem_cons.mp hb with z | z
    · rw [z]; exact Nat.le_add_right _ _
    · rw [List.mem_singleton.mp z]; exact Nat.le_refl _
  exact I1.fpOk hle (I1.hok.fresh hle)

set_option maxHeartbeats 1000000 in
theorem meets_enumerate_newB1 {v : Value} {o : Obj} {H : Heap → Prop} (B : Begins v o H) :
    Meets (Builtin.«enumerate.__new__» ⟨[.type "enumerate", v], []⟩) (fun _ R s => H s.heap ∧
      R (.ok (.ret (.ref (s.heap.push o).objs.size))) { s with heap := (s.heap.push o).push { cls := .type "enumerate", data := .fields #[.none, .bool false, .ref s.heap.objs.size, rawInt 0, .none, .none] } }) :=
  .of_wp fun prog w A R s h => by
    obtain ⟨hp, g, d, tk, os⟩ := s; obtain ⟨h1, h⟩ := h
    have hsub := sub_enumerate
    have q1 : ∀ {A' : Around} {E : Value → Shared → Prop} {Q : Value → Shared → Prop}, Q (.ref hp.objs.size) ⟨hp.push o, g, d, tk, os⟩ → wpAny (model prog w) A' (pyIter v) Q E ⟨hp, g, d, tk, os⟩ :=
      fun q => B.iter prog w _ _ ⟨hp, g, d, tk, os⟩ _ h1 q
    wp_walk using q1
    refine wpAny_stack_any fun st => wpAny_pure ?_
    split
    · rename_i c _ _ _ _ _
      cases (c == Value.type "enumerate")
      · wp_walk using q1
        exact ⟨_, rfl, h⟩
      · wp_walk using q1
        exact ⟨_, rfl, h⟩
    · wp_walk using q1
      exact ⟨_, rfl, h⟩
section
variable {prog : Program} {w : World} {A : Around} {E : Value → Shared → Prop} {s : Shared}
theorem enum_begins1 {v : Value} {o : Obj} {H : Heap → Prop} {Q : Value → Shared → Prop} (B : Begins v o H) (h1 : H s.heap)
    (h : ∀ h', IsEnum h' (s.heap.objs.size + 1) s.heap.objs.size 0 .none → h'.get? s.heap.objs.size = some o → h'.objs.size = s.heap.objs.size + 2 →
      (∀ b o, s.heap.get? b = some o → h'.get? b = some o) → Q (.ref (s.heap.objs.size + 1)) { s with heap := h' }) :
    wpAny (model prog w) A (call (.type "enumerate") [v]) Q E s := by
  refine callType_new F.called_enumerate (by decide) (F.typeCall_enumerate_1 _) (F.newCall_enumerate_1 _) (fun obj => F.args_object_init_2 obj _) F.entry_enumerate_new
    (meets_enumerate_newB1 B) ⟨h1, ?_⟩
  have hz : (s.heap.push o).objs.size = s.heap.objs.size + 1 := Heap.size_push ..
  show _ ∧ _
  rw [hz]
  have he : IsEnum ((s.heap.push o).push { cls := .type "enumerate", data := .fields #[.none, .bool false, .ref s.heap.objs.size, rawInt 0, .none, .none] }) (s.heap.objs.size + 1) s.heap.objs.size 0 .none := by
    have := Heap.get?_push_size (s.heap.push o) (o := { cls := .type "enumerate", data := .fields #[.none, .bool false, .ref s.heap.objs.size, rawInt 0, .none, .none] }) rfl
    rw [hz] at this; exact this
  refine ⟨⟨_, he, rfl⟩, h _ he (Heap.get?_push_of_some _ (Heap.get?_push_size _ B.free)) (by rw [Heap.size_push, hz]) fun b o x => Heap.get?_push_of_some _ (Heap.get?_push_of_some _ x)⟩
end
def iEnumT (K : PySem.W.Frag) (ta : TA) : TI := fun σ H R => ta σ H fun vs H1 => ∃ a xs, vs = [.ref a] ∧ SqT K H1 a xs ∧ R (ItF K a 0) H1
theorem pi_enumT {X : Cx} {e1 : Expr} {ta : TA} {p pos tpos : Pos} {elts : List Expr} {kk : Nat} (hg : Gl X "enumerate") (hm : X.mg "enumerate" = none) (ha : PA X [e1] ta)
    (hs : starEach [e1] X.env = [(false, eval e1 X.env)] := by rfl) :
    PI X (.Tuple elts kk tpos) (.Call (.Name "enumerate" p) [e1] [] pos) (iEnumT X.K ta) := by
  refine ⟨fun pins s σ H R I h => ?_⟩
  refine Call_ (ld_blt I hg hm boot_enumerate (PyProof.Rows.callWith_type1 (thn (ha.run pos pins s σ H _ I h) fun us s1 hh => ?_) hs rfl))
  obtain ⟨vs, H1, I1, r1, a, xs, ex, hq, q⟩ := hh
  subst ex
  obtain ⟨u1, rfl, ra⟩ := vals1 r1
  obtain rfl : u1 = Value.ref a := ra
  obtain ⟨its, rv, lp, hz⟩ := I1.tuple hq
  refine enum_begins1 (begins_tuple a its.toArray) lp fun h1 he hit hsz hk => wpAny_pyIter_enum he ?_
  have I2 : Inv X pins σ H1 { s1 with heap := h1 } := I1.kept (t' := s1.toks) hk
  refine ⟨s1.heap.objs.size + 1, [s1.heap.objs.size + 1, s1.heap.objs.size], _, _, H1, rfl, I2, turn_enumF a (s1.heap.objs.size + 1) s1.heap.objs.size 0, ⟨⟨.none, by simpa using he⟩, ⟨_, hit, rfl, rfl⟩, Nat.succ_ne_self _⟩, fun b hb => ?_, q⟩
  have hle : s1.heap.objs.size ≤ b := by
    rcases List.mem_cons.mp hb with z | z
    · rw [z]; exact Nat.le_add_right _ _
    · rw [List.mem_singleton.mp z]; exact Nat.le_refl _
  exact I1.fpOk hle (I1.hok.fresh hle)
theorem walk_enumT {K : PySem.W.Frag} {a : Addr} {xs : List V} {lo : Int} : Walk (ItF K a lo) xs.length (fun H => SqT K H a xs) (fun i H v H' => ∃ T y, v = .ref T ∧ H T = none ∧ H' = upd H T (.tup [.int (lo + (i : Nat)), y]) ∧ xs[i]? = some y) where
  goes := fun i H hi h => ⟨xs, xs[i], h, List.getElem?_eq_getElem hi⟩
  stops := fun H h => ⟨xs, h, Nat.le_refl _⟩
  yields := fun i H v H' hi h y => by
    obtain ⟨T, y, e1, e2, e3, e4⟩ := y
    exact ⟨T, y, e1, e2, e3, e4 _ h⟩
end Fp
/-! Rules: tuple * 1, tuple.index of flat items, repr of any data, not equal -/
namespace L2
open PySem PySem.Spec PyProof.Rows
theorem tuple_mul1 (l : Addr) (items : Array Value) (n : Nat) (dd : Option Addr) (sl : Array (Option Value)) (u : Tok) :
    Meets (Builtin.«tuple.__mul__» ⟨[.ref l, .int 1 u], []⟩) (fun _ R s => s.heap.get? l = some { cls := .type "tuple", dict := dd, data := .seq items n, slots := sl } ∧
      R (.ok (.ret (Value.ref l))) s) :=
  .of_wp fun prog w A R s h => by
    obtain ⟨hp, g, d, tk, os⟩ := s
    obtain ⟨hl, h⟩ := h
    have f1 := AutoSeq1.idx_int
    have c0 : ¬ ((decide ((1 : Int) < -(2 ^ 63)) || decide ((1 : Int) ≥ 2 ^ 63)) = true) := by decide
    have c1 : (items.isEmpty || (1 : Int) == 1) = true := by simp
    wp_walk using wpAny_loadPart' hl
    repeat (first
      | (refine wpAny_ite_false (decide_eq_false (by decide)) ?_; wp_walk using wpAny_loadPart' hl)
      | (refine wpAny_ite_true (decide_eq_true c1) ?_; wp_walk using wpAny_loadPart' hl))
    all_goals first | exact ⟨_, rfl, h⟩ | exact h
def rRepU (K : PySem.W.Frag) : R2 := fun x y H Q => ∃ l k xs, x = .ref l ∧ y = .int k ∧ SqT K H l xs ∧ xs ≠ [] ∧ 1 ≤ k ∧ k ≤ 1000 ∧ xs.length ≤ 1000 ∧ (k = 1 → Q (.ref l) H) ∧ (2 ≤ k → ∀ p, H p = none → Q (.ref p) (upd H p (.tup (List.replicate k.toNat xs).flatten)))
section
variable {X : Cx}
theorem op_repU : OpR X (binaryOp .Mult) (rRepU X.K) := by
  intro pins s σ H x y v u Q I rx ry h
  obtain ⟨l, k, xs, rfl, rfl, hT, hne, h1, h2, hz, q1, q2⟩ := h
  by_cases hk : k = 1
  · subst hk
    cases rx
    obtain ⟨t, rfl⟩ := ry
    obtain ⟨its, r, ⟨⟨cls, dd, data, sl⟩, ho, hc, n, hd⟩, hs⟩ := I.tuple hT
    simp only at hc hd
    subst hc hd
    refine wpAny_binaryOp_repeat_ref (T := "tuple") (U := "int") (by decide) ⟨_, ho, rfl⟩ (fun s' => typeIs_int s' 1 t) noFill_tuple_mul F.fills_int_mul F.slot_int_rmul repeat_tuple F.slot_int_index.lookup
      (call_meets F.slot_int_rmul (typeIs_int s 1 t) F.entry_int_rmul (F.args_int_rmul_2 _ _) (int_rmul_tuple 1 t l its.toArray n dd sl)
        ⟨ho, rfl, ⟨_, ho, rfl⟩, call_meets F.slot_tuple_mul ⟨_, ho, rfl⟩ F.entry_tuple_mul (F.args_tuple_mul_2 _ _) (tuple_mul1 l its.toArray n dd sl t) ⟨ho, ?_⟩⟩)
    exact ⟨.ref l, H, I, rfl, q1 rfl⟩
  · exact op_repT pins s σ H _ _ v u Q I rx ry ⟨l, k, xs, rfl, rfl, hT, hne, by omega, h2, hz, q2 (by omega)⟩
/-- t.index(x), x and all of t flat: the first place -/
theorem mt_tindex : MtR X "tuple.index" (fun x xs H Q => ∃ (p : Addr) (ys : List V) (y : V) (j : Nat) (z : V), x = .ref p ∧ xs = [y] ∧ SqT X.K H p ys ∧ flatV y = true ∧ ys.all flatV = true ∧ ys[j]? = some z ∧ eqV z y = true ∧
    (∀ (m : Nat) (z' : V), m < j → ys[m]? = some z' → eqV z' y = false) ∧ Q (.int (j : Nat)) H) := by
  intro pins s σ H x xs v us Q I rx rs h
  obtain ⟨p, ys, y, j, z, rfl, rfl, hq, fy, fys, hz, hzj, hno, q⟩ := h
  cases rx
  obtain ⟨uy, rfl, ry⟩ := vals1 rs
  obtain ⟨its, rv, pl, hlen⟩ := I.tuple hq
  obtain ⟨⟨cls, dd, dt, sl⟩, ho, hc, n, hd⟩ := pl
  simp only at hc hd
  subst hc
  subst hd
  obtain ⟨u, hu, ru⟩ := rv.get hz
  obtain ⟨hjl, hje⟩ := List.getElem?_eq_some_iff.mp hu
  have hvl := rv.length
  have hj : j < its.toArray.size := by simpa using hjl
  refine call_meets PySem.F.slot_tuple_index ⟨_, ho, rfl⟩ PySem.F.entry_tuple_index (PySem.F.args_tuple_index_2 _ _) (TI.tuple_indexAt p its.toArray n dd sl uy (eqU y) j hj ?_ ?_)
    ⟨ho, fun u' hu' => mem_eqAt ry fy rv fys u' (by simpa using hu'), ⟨.int (j : Nat), H, I.tok _, ⟨_, rfl⟩, q⟩⟩
  · have e1 : its.toArray[j] = u := by simpa using hje
    rw [e1, eqU_of ru (flat_at fys hz)]
    exact hzj
  · intro m hm hmj
    have hml : m < its.length := by simpa using hm
    have hmy : m < ys.length := by omega
    have hy' : ys[m]? = some ys[m] := List.getElem?_eq_getElem hmy
    obtain ⟨u2, hu2, ru2⟩ := rv.get hy'
    obtain ⟨_, hme⟩ := List.getElem?_eq_some_iff.mp hu2
    have e1 : its.toArray[m] = u2 := by simpa using hme
    rw [e1, eqU_of ru2 (flat_at fys hy')]
    exact hno m _ hmj hy'
/-! ### tuples of which it is known that they have no dict -/
def TF (H : Hp) (a : Addr) (xs : List V) : Prop := ∃ o, H a = some (.frz o (.tup xs)) ∧ o.dict = none
theorem TF.sq {K : PySem.W.Frag} {H : Hp} {a : Addr} {xs : List V} (h : TF H a xs) : SqT K H a xs := by
  obtain ⟨o, h, _⟩ := h
  exact .inl (.inr ⟨o, h⟩)
def tTupF (t : TA) : TE := fun σ H Q => t σ H fun xs H1 => xs.length ≤ sizeLine ∧ ∀ p o, H1 p = none → o.dict = none → Q (.ref p) (upd H1 p (.frz o (.tup xs)))
theorem pe_tupF {es : List Expr} {x1} {t : TA} {pos : Pos} (h : PA X es t) : PE X (.Tuple es x1 pos) (tTupF t) := by
  refine ⟨fun pins s σ H Q I hq => ?_⟩
  refine wpAny_Tuple_spliced (thn (h.run pos pins s σ H _ I hq) fun us s1 ⟨xs, H1, I1, r, z, q⟩ => ⟨by rw [← r.length]; exact z, ?_⟩)
  have hf : H1 s1.heap.objs.size = none := I1.hok.fresh (Nat.le_refl _)
  refine ⟨.ref s1.heap.objs.size, upd H1 s1.heap.objs.size (.frz { cls := .type "tuple", data := .seq us.toArray } (.tup xs)), I1.laid (t' := s1.toks) (fun b u e => Heap.get?_push_of_some _ e) (Nat.le_refl _) ?_, rfl, q _ _ hf rfl⟩
  exact ⟨Heap.get?_push_size _ rfl, z, us, r, ⟨_, Heap.get?_push_size _ rfl, rfl, _, rfl⟩⟩
def rCatF (K : PySem.W.Frag) : R2 := fun x y H Q => ∃ a b xs ys, x = .ref a ∧ y = .ref b ∧ SqT K H a xs ∧ SqT K H b ys ∧ xs.length + ys.length ≤ sizeLine ∧
  (xs = [] → Q (.ref b) H) ∧ (xs ≠ [] → ys = [] → Q (.ref a) H) ∧ (xs ≠ [] → ys ≠ [] → ∀ p o, H p = none → o.dict = none → Q (.ref p) (upd H p (.frz o (.tup (xs ++ ys)))))
theorem op_catF : OpR X (binaryOp .Add) (rCatF X.K) := by
  intro pins s σ H x y v u Q I rx ry h
  obtain ⟨a, b, xs, ys, rfl, rfl, ha, hb, hz, q0, q1, q2⟩ := h
  cases rx
  cases ry
  obtain ⟨its, r1, p1, _⟩ := I.tuple ha
  obtain ⟨its2, r2, p2, _⟩ := I.tuple hb
  by_cases hx : xs = []
  · subst hx
    cases r1
    exact cat_tup0 p1 p2 ⟨.ref b, H, I, rfl, q0 rfl⟩
  · refine HT.cat_tup p1 p2 (fun z => hx (r1.nil_iff.mp z)) (fun z => ⟨.ref a, H, I, rfl, q1 hx (r2.nil_iff.mp z)⟩) (fun z => ?_) (by rw [← r1.length, ← r2.length]; exact hz)
    refine ⟨.ref s.heap.objs.size, _, I.laid (t' := s.toks) (o := .frz { cls := .type "tuple", data := .seq (its ++ its2).toArray } (.tup (xs ++ ys))) (fun b ob q => Heap.get?_push_of_some _ q) (Nat.le_refl _) ?_, rfl, q2 hx (fun w => z (r2.nil_iff.mpr w)) _ _ (I.hok.fresh (Nat.le_refl _)) rfl⟩
    exact ⟨Heap.get?_push_size _ rfl, by rw [List.length_append]; exact hz, _, r1.append r2, IsTup.new _ _⟩
def rRepF (K : PySem.W.Frag) : R2 := fun x y H Q => ∃ l k xs, x = .ref l ∧ y = .int k ∧ SqT K H l xs ∧ xs ≠ [] ∧ 1 ≤ k ∧ k ≤ 1000 ∧ xs.length ≤ 1000 ∧ (k = 1 → Q (.ref l) H) ∧ (2 ≤ k → ∀ p o, H p = none → o.dict = none → Q (.ref p) (upd H p (.frz o (.tup (List.replicate k.toNat xs).flatten))))
theorem op_repF : OpR X (binaryOp .Mult) (rRepF X.K) := by
  intro pins s σ H x y v u Q I rx ry h
  obtain ⟨l, k, xs, rfl, rfl, hT, hne, h1, h2, hz, q1, q2⟩ := h
  by_cases hk : k = 1
  · subst hk
    exact op_repU pins s σ H _ _ v u Q I rx ry ⟨l, 1, xs, rfl, rfl, hT, hne, h1, h2, hz, q1, fun z => absurd z (by decide)⟩
  · cases rx
    obtain ⟨t, rfl⟩ := ry
    obtain ⟨its, r, ⟨⟨cls, dd, data, sl⟩, ho, hc, n, hd⟩, hs⟩ := I.tuple hT
    simp only at hc hd
    subst hc hd
    have hle : its.length = xs.length := r.length.symm
    have hn : its ≠ [] := fun e => hne (by
      rw [e] at hle
      exact List.eq_nil_of_length_eq_zero hle.symm)
    have hi : its.toArray.isEmpty = false := by
      cases its with
      | nil => exact absurd rfl hn
      | cons a b => rfl
    have hsz0 : its.toArray.size = xs.length := by rw [List.size_toArray, hle]
    have hm : ((its.toArray.size : Nat) : Int) * k ≤ 1000000 := by
      rw [hsz0]
      have a1 : ((xs.length : Nat) : Int) * k ≤ 1000 * k := Int.mul_le_mul_of_nonneg_right (by omega) (by omega)
      omega
    have flen : (List.replicate k.toNat its).flatten.length ≤ sizeLine := by
      rw [PyProof.Rows.lm_len_rep_flat, hle, sizeLine_eq]
      have a1 : k.toNat * xs.length ≤ 1000 * 1000 := Nat.mul_le_mul (by omega) hz
      omega
    have c0 : (decide (k < -(2 ^ 63)) || decide (k ≥ 2 ^ 63)) = false := by
      rw [decide_eq_false (by omega), decide_eq_false (by omega)] <;> rfl
    have c1 : (its.toArray.isEmpty || k == 1) = false := by
      rw [hi, Bool.false_or]
      exact beq_eq_false_iff_ne.mpr (by omega)
    have c2 : (decide (k ≤ 0) || its.toArray.isEmpty) = false := by
      rw [hi, Bool.or_false]
      exact decide_eq_false (by omega)
    have c4 : Builtin.Tuple.tupleTooMany (((its.toArray.size : Nat) : Int) * k) = false := by
      unfold Builtin.Tuple.tupleTooMany
      rw [sizeLine_eq]
      exact decide_eq_false (by omega)
    refine wpAny_binaryOp_repeat_ref (T := "tuple") (U := "int") (by decide) ⟨_, ho, rfl⟩ (fun s' => typeIs_int s' k t) noFill_tuple_mul F.fills_int_mul F.slot_int_rmul repeat_tuple F.slot_int_index.lookup
      (call_meets F.slot_int_rmul (typeIs_int s k t) F.entry_int_rmul (F.args_int_rmul_2 _ _) (int_rmul_tuple k t l its.toArray n dd sl)
        ⟨ho, rfl, ⟨_, ho, rfl⟩, call_meets F.slot_tuple_mul ⟨_, ho, rfl⟩ F.entry_tuple_mul (F.args_tuple_mul_2 _ _) (tuple_mulW l its.toArray n dd sl k t c0 c1 c2 (by omega) c4 (by rw [size_rep, List.size_toArray]; exact flen)) ⟨ho, ?_⟩⟩)
    rw [size_rep]
    refine ⟨.ref s.heap.objs.size, _, I.laid (t' := s.toks) (o := .frz { cls := .type "tuple", data := .seq (List.replicate k.toNat its).flatten.toArray } (.tup (List.replicate k.toNat xs).flatten)) (fun b ob q => Heap.get?_push_of_some _ q) (Nat.le_refl _) ?_, rfl, q2 (by omega) _ _ (I.hok.fresh (Nat.le_refl _)) rfl⟩
    exact ⟨Heap.get?_push_size _ rfl, by rw [PyProof.Rows.lm_len_rep_flat, sizeLine_eq]; have a1 : k.toNat * xs.length ≤ 1000 * 1000 := Nat.mul_le_mul (by omega) hz; omega, _, r.rep k.toNat, IsTup.new _ _⟩
/-- t.index(x) -/
def tTIdx (K : PySem.W.Frag) (to te : TE) : TE := fun σ H Q => to σ H fun x H1 => (∃ p ys, x = .ref p ∧ TF H1 p ys) ∧ te σ H1 fun y H2 => ∃ (p : Addr) (ys : List V) (j : Nat) (z : V), x = .ref p ∧ SqT K H2 p ys ∧ flatV y = true ∧ ys.all flatV = true ∧ ys[j]? = some z ∧ eqV z y = true ∧
    (∀ (m : Nat) (z' : V), m < j → ys[m]? = some z' → eqV z' y = false) ∧ Q (.int (j : Nat)) H2
theorem pe_tindex {o e : Expr} {to te : TE} {apos cpos : Pos} (ho : PE X o to) (he : PE X e te)
    (hbase : attributeBase o "index" X.env (eval o X.env) = eval o X.env := by rfl)
    (hfew : ((backTo cpos (starEach [e] X.env)).all (fun x => !x.1) && (backToKw cpos (keywordEach [] X.env)).all (fun x => x.1.isSome)
      && decide ([e].length + ([] : List Keyword).length + (if ([] : List Keyword).isEmpty then 0 else 1) < 30)) = true := by rfl)
    (hline : (apos.endLine == cpos.line) = true := by rfl) (hs : starEach [e] X.env = (false, eval e X.env) :: starEach [] X.env := by rfl) (hplain : (backTo cpos (starEach [] X.env)).any (·.1) = false := by rfl) :
    PE X (.Call (.Attribute o "index" apos) [e] [] cpos) (tTIdx X.K to te) := by
  refine ⟨fun pins s σ H Q I h => ?_⟩
  refine wpAny_Call_method_late hbase hfew hline rfl (thn (ho.run pins s σ H _ I h) fun v s1 ⟨x, H1, I1, r1, ⟨p, ys, ex, ⟨ob, hob, hdd⟩⟩, q1⟩ => ?_)
  subst ex
  cases r1
  have e1 := (I1.hok p _ hob).1
  obtain ⟨its, rv, pl, hz⟩ := I1.tuple (.inl (.inr ⟨ob, hob⟩))
  refine ⟨"tuple", "tuple.index", PySem.F.plainAttrs_tuple, PySem.F.slot_tuple_index, PySem.F.type_tuple_index, pl.typeIs, fun a ea => by cases ea; exact ⟨ob, e1, hdd⟩, ?_⟩
  have hA := (pa_cons he pa_nil hs).run cpos pins s1 σ H1 (fun vs H2 => match vs with
    | [y] => ∃ (p' : Addr) (ys : List V) (j : Nat) (z : V), V.ref p = .ref p' ∧ SqT X.K H2 p' ys ∧ flatV y = true ∧ ys.all flatV = true ∧ ys[j]? = some z ∧ eqV z y = true ∧
      (∀ (m : Nat) (z' : V), m < j → ys[m]? = some z' → eqV z' y = false) ∧ Q (.int (j : Nat)) H2
    | _ => False) I1 q1
  rw [hs] at hA ⊢
  refine Calls.callWith_builtin (by show (false || (backTo cpos (starEach [] X.env)).any (·.1)) = false; rw [hplain] <;> rfl) (Calls.evalArgs_plain ?_)
  refine thn hA fun us s2 ⟨vs, H2, I2, r2, hh⟩ => ?_
  match vs, r2, hh with
  | [y], r2, ⟨p', ys', j, z, ep, a1, a2, a3, a4, a5, a6, q⟩ =>
    cases ep
    exact mt_tindex pins s2 σ H2 (.ref p) [y] (.ref p) us Q I2 rfl r2 ⟨p, ys', y, j, z, rfl, rfl, a1, a2, a3, a4, a5, a6, q⟩
end
end L2
/-! Small data: what can be shown and compared; values that are brought -/
namespace Fp
open PySem PySem.Spec PyProof.Rows L2
theorem ite_no {c : Bool} {A B : Prop} (hc : c = false) (h : B) : if c = true then A else B := by
  rw [hc]; exact iteF h
theorem ite_yes {c : Bool} {A B : Prop} (hc : c = true) (h : A) : if c = true then A else B := by
  rw [hc]; exact iteT h
theorem get_lt {α : Type} {l : List α} {i : Nat} {x : α} (h : l[i]? = some x) : i < l.length := (List.getElem?_eq_some_iff.mp h).1
theorem u66 {k : Nat} {A : Around} (r : Room k A) : A.units + 66 < cLine := by have := r.un; omega
theorem szl {n : Nat} (h : n ≤ 10000000) : n ≤ sizeLine := by rw [sizeLine_eq]; omega
theorem szt {n : Nat} (h : n < 10000000) : n < sizeLine := by rw [sizeLine_eq]; omega
/-- data that can be shown and compared: at most so deep, at most so much -/
structure Sm (k n : Nat) (d : PyData) : Prop where
  sh : d.showable = true
  lay : d.canLay0 = true
  lv : d.leavesShort 13 = true
  blk : d.bulk ≤ n
  dep : d.depth ≤ k
theorem Sm.mono {k n k' n' : Nat} {d : PyData} (h : Sm k n d) (hk : k ≤ k') (hn : n ≤ n') : Sm k' n' d := ⟨h.sh, h.lay, h.lv, Nat.le_trans h.blk hn, Nat.le_trans h.dep hk⟩
structure Sms (k n : Nat) (ds : List PyData) : Prop where
  sh : PyData.showableAll ds = true
  lay : PyData.canLayAll0 ds = true
  lv : PyData.leavesShortAll 13 ds = true
  blk : PyData.bulkAll ds ≤ n
  dep : PyData.depthAll ds ≤ k
theorem Sms.nil {k n : Nat} : Sms k n [] := ⟨by simp [PyData.showableAll], by simp [PyData.canLayAll0], by simp [PyData.leavesShortAll], by simp [PyData.bulkAll], by simp [PyData.depthAll]⟩
theorem Sms.cons {k a b : Nat} {d : PyData} {ds : List PyData} (h : Sm k a d) (t : Sms k b ds) : Sms k (a + 1 + b) (d :: ds) :=
  ⟨by simp [PyData.showableAll, h.sh, t.sh], by simp [PyData.canLayAll0, h.lay, t.lay], by simp [PyData.leavesShortAll, h.lv, t.lv], by have := h.blk; have := t.blk; simp only [PyData.bulkAll]; omega, by have := h.dep; have := t.dep; simp only [PyData.depthAll]; omega⟩
theorem Sms.mono {k n k' n' : Nat} {d : List PyData} (h : Sms k n d) (hk : k ≤ k') (hn : n ≤ n') : Sms k' n' d := ⟨h.sh, h.lay, h.lv, Nat.le_trans h.blk hn, Nat.le_trans h.dep hk⟩
theorem Sms.all {k n : Nat} : ∀ {ds : List PyData}, (∀ d ∈ ds, Sm k n d) → Sms k ((n + 1) * ds.length) ds
  | [], _ => Sms.nil
  | d :: ds, h => (Sms.cons (h d (by simp)) (Sms.all fun e he => h e (List.mem_cons_of_mem _ he))).mono (Nat.le_refl _) (by
    rw [List.length_cons, Nat.mul_succ]; omega)
theorem Sms.tup {k n : Nat} {ds : List PyData} (h : Sms k n ds) : Sm (k + 1) n (.tuple ds) :=
  ⟨by simpa [PyData.showable] using h.sh, by simpa [PyData.canLay0] using h.lay, by simpa [PyData.leavesShort] using h.lv, by have := h.blk; simpa only [PyData.bulk] using this, by have := h.dep; simp only [PyData.depth]; omega⟩
theorem Sms.lst {k n : Nat} {ds : List PyData} (h : Sms k n ds) : Sm (k + 1) n (.list ds) :=
  ⟨by simpa [PyData.showable] using h.sh, by simpa [PyData.canLay0] using h.lay, by simpa [PyData.leavesShort] using h.lv, by have := h.blk; simpa only [PyData.bulk] using this, by have := h.dep; simp only [PyData.depth]; omega⟩
theorem Sm.non : Sm 1 0 .none := ⟨by simp [PyData.showable], by simp [PyData.canLay0], by simp [PyData.leavesShort], by simp [PyData.bulk], by simp [PyData.depth]⟩
theorem Sm.str {z : Str} {n : Nat} (hz : z.cps.size ≤ n) (hc : (z.cps.toList.all fun c => decide (c < 16 ^ 8)) = true) (ho : PyData.strOk z = true) : Sm 1 n (.str z) :=
  ⟨by simp [PyData.showable], by simp [PyData.canLay0, ho], by simpa only [PyData.leavesShort] using hc, by simpa only [PyData.bulk] using hz, by simp [PyData.depth]⟩
theorem log2_lt {i : Int} (h0 : -99999 ≤ i) (h1 : i ≤ 99999) : i.natAbs.log2 < 1920 := by
  by_cases h : i.natAbs = 0
  · rw [h]; decide
  · have : i.natAbs.log2 < 17 := (Nat.log2_lt h).mpr (show i.natAbs < 2 ^ 17 by omega)
    omega
theorem Sm.int {i : Int} (h0 : -9999 ≤ i) (h1 : i ≤ 9999) : Sm 1 0 (.int i) := by
  refine ⟨?_, by simp [PyData.canLay0], ?_, by simp [PyData.bulk], by simp [PyData.depth]⟩
  · simp only [PyData.showable, decide_eq_true_eq]
    exact log2_lt (by omega) (by omega)
  · simp only [PyData.leavesShort, decide_eq_true_eq]
    exact PyData.shown_int_le (by omega)
theorem Sm.fits {k n : Nat} {d : PyData} (h : Sm k n d) (hn : n ≤ 1000000) : d.shown.length ≤ sizeLine := PyData.shown_fits_bulk (B := 13) (by decide) (by decide) h.lv (Nat.le_trans h.blk (Nat.le_trans hn (by decide)))
theorem Sm.shaped {k n : Nat} {d : PyData} (h : Sm k n d) (hk : k ≤ 64) : SeqAt.shaped d = true := by
  unfold SeqAt.shaped
  rw [h.lay, Bool.true_and]
  exact decide_eq_true (Nat.le_trans h.dep hk)
/-! ### repr of any data -/
section
variable {X : Cx}
theorem wpAny_repr {prog : Program} {w : World} {A : Around} {E : Value → Shared → Prop} {s : Shared} {Q : Value → Shared → Prop} {v : Value} {d : PyData} {as : List Addr} (r : Reads s.heap v d as) (hs : d.showable = true) (hd : d.hasDict = false) (hz : d.shown.length ≤ sizeLine)
    (hg : A.guards = some []) (hu : A.units + (d.depth + 1) < cLine) (hQ : ∀ h' u tk, (∀ b o, s.heap.get? b = some o → h'.get? b = some o) → Q (.str d.shown u) { s with heap := h', toks := tk }) : wpAny (model prog w) A (call (.builtin "repr") [v]) Q E s := by
  cases r with
  | none => exact PySem.P.repr_of_none (hQ _ _ _ fun _ _ e => e)
  | bool b => exact PySem.P.repr_of_bool (hQ _ _ _ fun _ _ e => e)
  | int i t => exact PySem.P.repr_of_int (by simpa only [PyData.showable, decide_eq_true_eq] using hs) (by simpa only [PyData.shown] using hQ _ _ _ fun _ _ e => e)
  | str x t => exact PySem.P.repr_of_str (by simpa only [PyData.shown] using hQ _ _ _ fun _ _ e => e) (by simpa only [PyData.shown] using hz)
  | list a b c e => exact repr_of_reads' (.list a b c e) hs (fun z => by rw [hd] at z; cases z) hg hu (fun _ _ z => z) hQ hz
  | tuple a b c e => exact repr_of_reads' (.tuple a b c e) hs (fun z => by rw [hd] at z; cases z) hg hu (fun _ _ z => z) hQ hz
  | dict a b c e f => simp [PyData.hasDict] at hd
/-- repr(x), x any data -/
theorem call_reprA (hgu : X.A.guards = some []) (hu : X.A.units + 66 < cLine) : CallR X (.builtin "repr") (fun xs H Q => ∃ (x : V) (d : PyData) (k n : Nat), xs = [x] ∧ Dp X.K H x d ∧ Sm k n d ∧ k ≤ 64 ∧ n ≤ 1000000 ∧ Q (.str d.shown) H) := by
  intro pins s σ H xs us Q I r h
  obtain ⟨x, d, k, n, rfl, hd, sm, hk, hn, q⟩ := h
  obtain ⟨u, rfl, rx⟩ := vals1 r
  obtain ⟨as, rd⟩ := Dp.reads I d _ u hd rx
  have hdp := sm.dep
  exact wpAny_repr rd sm.sh (PyData.hasDict_of_canLay _ sm.lay) (sm.fits hn) hgu (by omega) (fun h' u tk k => ⟨.str d.shown, H, I.kept (t' := tk) k, ⟨_, rfl⟩, q⟩)
end
/-! ### values that are brought: None, integers, tuples of at most three such, at most so deep -/
inductive VOk : Nat → PyData → Prop where
  | non {n} : VOk n .none
  | int {n i} : -9999 ≤ i → i ≤ 9999 → VOk n (.int i)
  | tup {n ds} : (∀ d ∈ ds, VOk n d) → ds.length ≤ 3 → VOk (n + 1) (.tuple ds)
mutual
inductive VAt (H : Hp) : V → PyData → Prop where
  | non : VAt H .non .none
  | int (i : Int) : VAt H (.int i) (.int i)
  | tup {a : Addr} {xs : List V} {ds : List PyData} : H a = some (.tup xs) → VsAt H xs ds → VAt H (.ref a) (.tuple ds)
inductive VsAt (H : Hp) : List V → List PyData → Prop where
  | nil : VsAt H [] []
  | cons {v vs d ds} : VAt H v d → VsAt H vs ds → VsAt H (v :: vs) (d :: ds)
end
/-- tuples stay -/
def IsT : Option HO → Prop
  | some (.tup _) => True
  | some (.frz _ (.tup _)) => True
  | _ => False
def TK (H H' : Hp) : Prop := ∀ a, IsT (H a) → H' a = H a
theorem TK.refl (H : Hp) : TK H H := fun _ _ => rfl
theorem TK.trans {H H1 H2 : Hp} (a : TK H H1) (b : TK H1 H2) : TK H H2 := fun x h => (b x (by rw [a x h]; exact h)).trans (a x h)
theorem TK.of {H H' : Hp} (g : Same H H') : TK H H' := fun a h => by
  cases e : H a with
  | none => rw [e] at h; exact h.elim
  | some o => exact g a _ e
theorem TK.but {S : List Addr} {H H' : Hp} (g : But S H H') (h : ∀ a ∈ S, ¬ IsT (H a)) : TK H H' := fun a n => by
  cases e : H a with
  | none => rw [e] at n; exact n.elim
  | some o => exact g a _ (fun m => h a m n) e
theorem TK.put {H : Hp} {p : Addr} {o u : HO} (h : H p = some o) (n : ¬ IsT (some o)) : TK H (upd H p u) := fun a e => by
  rw [upd_ne (fun z => n (by rw [← h, ← z]; exact e))]
theorem TK.t {H H' : Hp} (g : TK H H') {a : Addr} {xs : List V} (h : H a = some (.tup xs)) : H' a = some (.tup xs) := by
  rw [g a (by rw [h]; trivial), h]
theorem TK.f {H H' : Hp} (g : TK H H') {a : Addr} {xs : List V} (h : TF H a xs) : TF H' a xs := by
  obtain ⟨o, h, d⟩ := h
  exact ⟨o, by rw [g a (by rw [h]; trivial), h], d⟩
mutual
theorem VAt.mono {H H' : Hp} (g : TK H H') : ∀ {v : V} {d : PyData}, VAt H v d → VAt H' v d
  | _, _, .non => .non
  | _, _, .int i => .int i
  | _, _, .tup a b => .tup (g.t a) (VsAt.mono g b)
theorem VsAt.mono {H H' : Hp} (g : TK H H') : ∀ {v : List V} {d : List PyData}, VsAt H v d → VsAt H' v d
  | _, _, .nil => .nil
  | _, _, .cons a b => .cons (VAt.mono g a) (VsAt.mono g b)
end
mutual
theorem VAt.dp {K : PySem.W.Frag} {H : Hp} : ∀ {v : V} {d : PyData}, VAt H v d → Dp K H v d
  | _, _, .non => .non
  | _, _, .int i => .int i
  | _, _, .tup a b => .tup (.of a) (VsAt.dp b)
theorem VsAt.dp {K : PySem.W.Frag} {H : Hp} : ∀ {v : List V} {d : List PyData}, VsAt H v d → DpAll K H v d
  | _, _, .nil => .nil
  | _, _, .cons a b => .cons (VAt.dp a) (VsAt.dp b)
end
theorem VOk.up {n : Nat} {d : PyData} (h : VOk n d) : VOk (n + 1) d := by
  induction h with
  | non => exact .non
  | int a b => exact .int a b
  | tup a b ih => exact .tup (fun d hd => ih d hd) b
def vb : Nat → Nat
  | 0 => 0
  | n + 1 => (vb n + 1) * 3
theorem VOk.sm : ∀ {n : Nat} {d : PyData}, VOk n d → Sm (n + 1) (vb n) d := by
  intro n d h
  induction h with
  | non => exact Sm.non.mono (by omega) (by omega)
  | int a b => exact (Sm.int a b).mono (by omega) (by omega)
  | tup a b ih => exact (Sms.all ih).tup.mono (Nat.le_refl _) (Nat.mul_le_mul_left _ b)
theorem VsAt.snoc {H : Hp} {v : V} {d : PyData} (h : VAt H v d) : ∀ {vs : List V} {ds : List PyData}, VsAt H vs ds → VsAt H (vs ++ [v]) (ds ++ [d])
  | _, _, .nil => .cons h .nil
  | _, _, .cons a b => .cons a (VsAt.snoc h b)
theorem VsAt.len {H : Hp} : ∀ {vs : List V} {ds : List PyData}, VsAt H vs ds → vs.length = ds.length
  | _, _, .nil => rfl
  | _, _, .cons _ b => congrArg (· + 1) b.len
theorem VsAt.get {H : Hp} : ∀ {xs : List V} {b : List PyData} {i : Nat} {x : V}, VsAt H xs b → xs[i]? = some x → ∃ it, b[i]? = some it ∧ VAt H x it
  | _, _, 0, _, .cons h _, e => by cases e; exact ⟨_, rfl, h⟩
  | _, _, i + 1, x, .cons _ r, e => VsAt.get (i := i) r e
  | _, _, _, _, .nil, e => by cases e
end Fp
/-! A door, as a plain thing -/
namespace Fp
open PySem PySem.Spec PyProof.Rows L2
abbrev Lv := Option Int
def lvV : Lv → V
  | none => .non
  | some i => .int i
structure Deed where
  stp : Bool
  p : Nat
  x : V
structure DS where
  came : List (Option V)
  lev : List Lv
  heard : List (Option V)
  seen : List (Option (List Lv))
  deeds : List Deed
inductive Told where
  | level (i : Int) | look (l : List Lv) | wait | word (v : V)
theorem getD_set {α : Type} (l : List (Option α)) (p q : Nat) (x : Option α) : (l.set p x).getD q none = if p = q ∧ p < l.length then x else l.getD q none := by
  simp only [List.getD_eq_getElem?_getD, List.getElem?_set]
  by_cases h : p = q
  · subst h
    by_cases h2 : p < l.length
    · simp [h2]
    · have e : l[p]? = none := List.getElem?_eq_none (by omega)
      simp [h2, e]
  · simp [h]
theorem getD_none_of {α : Type} {l : List (Option α)} {q : Nat} {x : α} (h : l.getD q none = some x) : q < l.length ∧ l[q]? = some (some x) := by
  rw [List.getD_eq_getElem?_getD] at h
  cases e : l[q]? with
  | none => rw [e] at h; cases h
  | some y =>
    rw [e] at h
    have h' : y = some x := h
    exact ⟨(List.getElem?_eq_some_iff.mp e).1, by rw [h']⟩
theorem getD_of {α : Type} {l : List (Option α)} {q : Nat} {y : Option α} (h : l[q]? = some y) : l.getD q none = y := by
  rw [List.getD_eq_getElem?_getD, h]; rfl
theorem mem_getD {α : Type} {l : List (Option α)} {x : α} : some x ∈ l ↔ ∃ q, l.getD q none = some x := by
  constructor
  · intro h
    obtain ⟨q, hq⟩ := List.getElem?_of_mem h
    exact ⟨q, getD_of hq⟩
  · rintro ⟨q, hq⟩
    exact List.mem_of_getElem? (getD_none_of hq).2
namespace DS
def new (n : Nat) : DS := ⟨List.replicate n none, List.replicate n none, List.replicate n none, List.replicate n none, []⟩
def cm (s : DS) (p : Nat) : Option V := s.came.getD p none
def lv (s : DS) (p : Nat) : Lv := s.lev.getD p none
def sn (s : DS) (p : Nat) : Option (List Lv) := s.seen.getD p none
def stgOf (a : Lv) (b : Option (List Lv)) : Nat := match a with
  | none => 0
  | some i => if i = 1 then (if b.isSome then 2 else 1) else 3
def stg (s : DS) (p : Nat) : Nat := stgOf (s.lv p) (s.sn p)
def kindOf : Nat → Str
  | 1 => "look" | 3 => "ask" | _ => "level"
def next (s : DS) (p : Nat) : Option Str := if (s.cm p).isSome then some (kindOf (s.stg p)) else none
def isTwo (a : Lv) : Bool := decide (a = some 2)
def two (s : DS) : Nat := s.lev.findIdx isTwo
def saw (s : DS) (p : Nat) : Bool := decide (some 2 ∈ (s.sn p).getD [])
def wr (s : DS) (p : Nat) : Int := if s.saw p then 0 else 2
def come (s : DS) (p : Nat) (v : V) : DS := { s with came := s.came.set p (some v), deeds := s.deeds ++ [⟨false, p, v⟩] }
def told (s : DS) (p : Nat) : Told := match s.stg p with
  | 0 => .level 1
  | 1 => .look s.lev
  | 2 => .level (s.wr p)
  | _ => if some 1 ∈ s.lev then .wait else .word ((s.cm s.two).getD .non)
def step (s : DS) (p : Nat) : DS := match s.stg p with
  | 0 => { s with deeds := s.deeds ++ [⟨true, p, .str "level"⟩], lev := s.lev.set p (some 1) }
  | 1 => { s with deeds := s.deeds ++ [⟨true, p, .str "look"⟩], seen := s.seen.set p (some s.lev) }
  | 2 => { s with deeds := s.deeds ++ [⟨true, p, .str "level"⟩], lev := s.lev.set p (some (s.wr p)) }
  | _ => if some 1 ∈ s.lev then { s with deeds := s.deeds ++ [⟨true, p, .str "ask"⟩] } else { s with deeds := s.deeds ++ [⟨true, p, .str "ask"⟩], heard := s.heard.set p (s.cm s.two) }
structure WF (s : DS) : Prop where
  n1 : 1 ≤ s.lev.length
  n5 : s.lev.length ≤ 5
  lc : s.came.length = s.lev.length
  lh : s.heard.length = s.lev.length
  ls : s.seen.length = s.lev.length
  vals : ∀ p x, s.lv p = some x → x = 0 ∨ x = 1 ∨ x = 2
  cmv : ∀ p, s.lv p ≠ none → s.cm p ≠ none
  snv : ∀ p, s.sn p ≠ none → s.lv p ≠ none
  lok : ∀ p x, s.lv p = some x → x ≠ 1 → s.sn p ≠ none
  z2 : ∀ p, s.lv p = some 0 → ∃ q, s.lv q = some 2
  s2 : ∀ p l, s.sn p = some l → some 2 ∈ l → ∃ q, s.lv q = some 2
theorem rep_none {α : Type} (n p : Nat) : (List.replicate n (none : Option α)).getD p none = none := by
  rw [List.getD_eq_getElem?_getD, List.getElem?_replicate]; split <;> rfl
theorem lv_new (n p : Nat) : (new n).lv p = none := rep_none n p
theorem sn_new (n p : Nat) : (new n).sn p = none := rep_none n p
theorem cm_new (n p : Nat) : (new n).cm p = none := rep_none n p
theorem WF.new {n : Nat} (h1 : 1 ≤ n) (h5 : n ≤ 5) : (new n).WF := by
  refine ⟨by simpa [DS.new] using h1, by simpa [DS.new] using h5, by simp [DS.new], by simp [DS.new], by simp [DS.new], ?_, ?_, ?_, ?_, ?_, ?_⟩ <;> intro p <;> simp only [lv_new, sn_new, cm_new] <;> simp
section
variable {s : DS} {p : Nat} {v : V}
theorem lv_come (q : Nat) : (s.come p v).lv q = s.lv q := rfl
theorem sn_come (q : Nat) : (s.come p v).sn q = s.sn q := rfl
theorem cm_come (q : Nat) : (s.come p v).cm q = if p = q ∧ p < s.came.length then some v else s.cm q := getD_set _ _ _ _
theorem WF.come (h : s.WF) : (s.come p v).WF := by
  refine ⟨h.n1, h.n5, by simp [DS.come, h.lc], h.lh, h.ls, h.vals, fun q hq => ?_, h.snv, h.lok, h.z2, h.s2⟩
  rw [cm_come]
  split
  · simp
  · exact h.cmv q hq
theorem stg_lt (s : DS) (p : Nat) : s.stg p ≤ 3 := by
  unfold stg stgOf
  split
  · omega
  · split
    · split <;> omega
    · omega
theorem stg0 : s.stg p = 0 ↔ s.lv p = none := by
  unfold stg stgOf
  cases s.lv p with
  | none => simp
  | some i => simp only; split <;> (try split) <;> simp
theorem stg1 : s.stg p = 1 ↔ s.lv p = some 1 ∧ s.sn p = none := by
  unfold stg stgOf
  cases s.lv p with
  | none => simp
  | some i =>
    simp only
    cases s.sn p <;> by_cases hi : i = 1 <;> simp [hi]
theorem stg2 : s.stg p = 2 ↔ s.lv p = some 1 ∧ s.sn p ≠ none := by
  unfold stg stgOf
  cases s.lv p with
  | none => simp
  | some i =>
    simp only
    cases s.sn p <;> by_cases hi : i = 1 <;> simp [hi]
theorem stg3 : s.stg p = 3 ↔ ∃ x, s.lv p = some x ∧ x ≠ 1 := by
  unfold stg stgOf
  cases s.lv p with
  | none => simp
  | some i =>
    simp only
    cases s.sn p <;> by_cases hi : i = 1 <;> simp [hi]
/-- the step by its stage -/
theorem step0 (h : s.stg p = 0) : s.step p = { s with deeds := s.deeds ++ [⟨true, p, .str "level"⟩], lev := s.lev.set p (some 1) } := by simp only [step, h]
theorem step1 (h : s.stg p = 1) : s.step p = { s with deeds := s.deeds ++ [⟨true, p, .str "look"⟩], seen := s.seen.set p (some s.lev) } := by simp only [step, h]
theorem step2 (h : s.stg p = 2) : s.step p = { s with deeds := s.deeds ++ [⟨true, p, .str "level"⟩], lev := s.lev.set p (some (s.wr p)) } := by simp only [step, h]
theorem step3 (h : s.stg p = 3) : s.step p = if some 1 ∈ s.lev then { s with deeds := s.deeds ++ [⟨true, p, .str "ask"⟩] } else { s with deeds := s.deeds ++ [⟨true, p, .str "ask"⟩], heard := s.heard.set p (s.cm s.two) } := by simp only [step, h]
theorem told0 (h : s.stg p = 0) : s.told p = .level 1 := by simp only [told, h]
theorem told1 (h : s.stg p = 1) : s.told p = .look s.lev := by simp only [told, h]
theorem told2 (h : s.stg p = 2) : s.told p = .level (s.wr p) := by simp only [told, h]
theorem told3 (h : s.stg p = 3) : s.told p = if some 1 ∈ s.lev then .wait else .word ((s.cm s.two).getD .non) := by simp only [told, h]
theorem cm_step (q : Nat) : (s.step p).cm q = s.cm q := by
  unfold step
  split <;> (try split) <;> rfl
theorem came_step : (s.step p).came = s.came := by
  unfold step
  split <;> (try split) <;> rfl
theorem len_step : (s.step p).lev.length = s.lev.length := by
  unfold step
  split <;> (try split) <;> simp
theorem two_lev (h : ∃ q, s.lv q = some 2) : s.two < s.lev.length ∧ s.lv s.two = some 2 ∧ ∀ m, m < s.two → s.lv m ≠ some 2 := by
  obtain ⟨q, hq⟩ := h
  obtain ⟨hl, he⟩ := getD_none_of hq
  have hm : ∃ x ∈ s.lev, isTwo x = true := ⟨some 2, List.mem_of_getElem? he, by simp [isTwo]⟩
  have h1 : s.two < s.lev.length := List.findIdx_lt_length_of_exists hm
  refine ⟨h1, ?_, fun m hlt => ?_⟩
  · have e : isTwo s.lev[s.two] = true := List.findIdx_getElem (p := isTwo) (xs := s.lev) (w := h1)
    have e' : s.lev[s.two] = some 2 := by simpa [isTwo] using e
    exact getD_of (by rw [List.getElem?_eq_getElem h1, e'])
  · intro z
    have hml : m < s.lev.length := by omega
    have e : isTwo s.lev[m] = false := by simpa using List.not_of_lt_findIdx (p := isTwo) (xs := s.lev) hlt
    have z' : s.lev[m] = some 2 := by
      obtain ⟨_, z2⟩ := getD_none_of z
      rw [List.getElem?_eq_getElem hml] at z2
      exact Option.some.inj z2
    rw [z'] at e
    simp [isTwo] at e
theorem findIdx_ext {α : Type} {f g : α → Bool} : ∀ {l m : List α}, l.length = m.length → (∀ (i : Nat) x y, l[i]? = some x → m[i]? = some y → f x = g y) → l.findIdx f = m.findIdx g
  | [], [], _, _ => rfl
  | [], _ :: _, h, _ => by simp at h
  | _ :: _, [], h, _ => by simp at h
  | a :: l, b :: m, h, hp => by
    have e := hp 0 a b rfl rfl
    rw [List.findIdx_cons, List.findIdx_cons, e, findIdx_ext (l := l) (m := m) (by simpa using h) fun i x y hx hy => hp (i + 1) x y (by simpa using hx) (by simpa using hy)]
theorem two_same {s t : DS} (hl : t.lev.length = s.lev.length) (h : ∀ q, t.lv q = some 2 ↔ s.lv q = some 2) : t.two = s.two := by
  refine findIdx_ext hl fun i x y hx hy => ?_
  have h1 := h i
  rw [show t.lv i = x from getD_of hx, show s.lv i = y from getD_of hy] at h1
  unfold isTwo
  exact decide_eq_decide.mpr h1
theorem lv_step0 (h : s.stg p = 0) (hp : p < s.lev.length) (q : Nat) : (s.step p).lv q = if p = q then some 1 else s.lv q := by
  rw [step0 h]
  show (s.lev.set p (some 1)).getD q none = _
  rw [getD_set]
  by_cases e : p = q <;> simp [e, hp, lv] <;> omega
theorem lv_step1 (h : s.stg p = 1) (q : Nat) : (s.step p).lv q = s.lv q := by rw [step1 h]; rfl
theorem lv_step2 (h : s.stg p = 2) (hp : p < s.lev.length) (q : Nat) : (s.step p).lv q = if p = q then some (s.wr p) else s.lv q := by
  rw [step2 h]
  show (s.lev.set p (some (s.wr p))).getD q none = _
  rw [getD_set]
  by_cases e : p = q
  · subst e; simp [hp]
  · simp [e, lv]
theorem lv_step3 (h : s.stg p = 3) (q : Nat) : (s.step p).lv q = s.lv q := by rw [step3 h]; split <;> rfl
theorem sn_step1 (h : s.stg p = 1) (hp : p < s.seen.length) (q : Nat) : (s.step p).sn q = if p = q then some s.lev else s.sn q := by
  rw [step1 h]
  show (s.seen.set p (some s.lev)).getD q none = _
  rw [getD_set]
  by_cases e : p = q
  · subst e; simp [hp]
  · simp [e, sn]
theorem sn_stepN (h : s.stg p ≠ 1) (q : Nat) : (s.step p).sn q = s.sn q := by
  unfold step
  split <;> (try split) <;> first | rfl | (rename_i e; exact absurd e h)
theorem wr02 (s : DS) (p : Nat) : s.wr p = 0 ∧ s.saw p = true ∨ s.wr p = 2 ∧ s.saw p = false := by
  unfold wr
  cases s.saw p <;> simp
theorem saw_iff : s.saw p = true ↔ ∃ l, s.sn p = some l ∧ some 2 ∈ l := by
  unfold saw
  rw [decide_eq_true_iff]
  cases s.sn p with
  | none => simp
  | some l => simp
theorem lt_of_cm (h : s.WF) (hc : s.cm p ≠ none) : p < s.lev.length := by
  cases e : s.cm p with
  | none => exact absurd e hc
  | some v => rw [← h.lc]; exact (getD_none_of e).1
theorem has2_step (h : s.WF) (hc : s.cm p ≠ none) (h2 : ∃ q, s.lv q = some 2) : ∃ q, (s.step p).lv q = some 2 := by
  obtain ⟨q, hq⟩ := h2
  refine ⟨q, ?_⟩
  have hp := lt_of_cm h hc
  have := stg_lt s p
  rcases (show s.stg p = 0 ∨ s.stg p = 1 ∨ s.stg p = 2 ∨ s.stg p = 3 by omega) with e | e | e | e
  · rw [lv_step0 e hp, if_neg]; exact hq
    intro z; subst z; rw [stg0.mp e] at hq; cases hq
  · rw [lv_step1 e]; exact hq
  · rw [lv_step2 e hp, if_neg]; exact hq
    intro z; subst z; rw [(stg2.mp e).1] at hq; cases hq
  · rw [lv_step3 e]; exact hq
theorem WF.step (h : s.WF) (hc : s.cm p ≠ none) : (s.step p).WF := by
  have hp := lt_of_cm h hc
  have hps : p < s.seen.length := by rw [h.ls]; exact hp
  have h4 := stg_lt s p
  have hlen := len_step (s := s) (p := p)
  have k2 := has2_step h hc
  have lens : (s.step p).came.length = (s.step p).lev.length ∧ (s.step p).heard.length = (s.step p).lev.length ∧ (s.step p).seen.length = (s.step p).lev.length := by
    rw [hlen, came_step]
    refine ⟨h.lc, ?_, ?_⟩
    · unfold DS.step; split <;> (try split) <;> simp [h.lh]
    · unfold DS.step; split <;> (try split) <;> simp [h.ls]
  rcases (show s.stg p = 0 ∨ s.stg p = 1 ∨ s.stg p = 2 ∨ s.stg p = 3 by omega) with e | e | e | e
  · have L := lv_step0 e hp
    have S : ∀ q, (s.step p).sn q = s.sn q := sn_stepN (by omega)
    refine ⟨by rw [hlen]; exact h.n1, by rw [hlen]; exact h.n5, lens.1, lens.2.1, lens.2.2, fun q x hq => ?_, fun q hq => ?_, fun q hq => ?_, fun q x hq hx => ?_, fun q hq => ?_, fun q l hq hl => ?_⟩
    · rw [L] at hq; split at hq
      · cases hq; omega
      · exact h.vals q x hq
    · rw [cm_step]; rw [L] at hq; split at hq
      · rename_i z; subst z; exact hc
      · exact h.cmv q hq
    · rw [S] at hq; rw [L]; split
      · simp
      · exact h.snv q hq
    · rw [S]; rw [L] at hq; split at hq
      · cases hq; exact absurd rfl hx
      · exact h.lok q x hq hx
    · rw [L] at hq; split at hq
      · cases hq
      · exact k2 (h.z2 q hq)
    · rw [S] at hq; exact k2 (h.s2 q l hq hl)
  · have L := lv_step1 e
    have S := sn_step1 e hps
    obtain ⟨e1, e2⟩ := stg1.mp e
    refine ⟨by rw [hlen]; exact h.n1, by rw [hlen]; exact h.n5, lens.1, lens.2.1, lens.2.2, fun q x hq => h.vals q x (by rw [← L]; exact hq), fun q hq => ?_, fun q hq => ?_, fun q x hq hx => ?_, fun q hq => ?_, fun q l hq hl => ?_⟩
    · rw [cm_step]; exact h.cmv q (by rw [← L]; exact hq)
    · rw [L]; rw [S] at hq; split at hq
      · rename_i z; subst z; rw [e1]; simp
      · exact h.snv q hq
    · rw [S]; split
      · simp
      · exact h.lok q x (by rw [← L]; exact hq) hx
    · exact k2 (h.z2 q (by rw [← L]; exact hq))
    · rw [S] at hq; split at hq
      · cases hq; exact k2 (mem_getD.mp hl)
      · exact k2 (h.s2 q l hq hl)
  · have L := lv_step2 e hp
    have S : ∀ q, (s.step p).sn q = s.sn q := sn_stepN (by omega)
    obtain ⟨e1, e2⟩ := stg2.mp e
    have w2 := wr02 s p
    refine ⟨by rw [hlen]; exact h.n1, by rw [hlen]; exact h.n5, lens.1, lens.2.1, lens.2.2, fun q x hq => ?_, fun q hq => ?_, fun q hq => ?_, fun q x hq hx => ?_, fun q hq => ?_, fun q l hq hl => ?_⟩
    · rw [L] at hq; split at hq
      · cases hq; omega
      · exact h.vals q x hq
    · rw [cm_step]; rw [L] at hq; split at hq
      · rename_i z; subst z; exact hc
      · exact h.cmv q hq
    · rw [S] at hq; rw [L]; split
      · simp
      · exact h.snv q hq
    · rw [S]; rw [L] at hq; split at hq
      · rename_i z; subst z; exact e2
      · exact h.lok q x hq hx
    · rw [L] at hq; split at hq
      · rename_i z; subst z
        rcases w2 with ⟨_, w⟩ | ⟨w, _⟩
        · obtain ⟨l, hl, hl2⟩ := saw_iff.mp w
          exact k2 (h.s2 _ l hl hl2)
        · rw [w] at hq; cases hq
      · exact k2 (h.z2 q hq)
    · rw [S] at hq; exact k2 (h.s2 q l hq hl)
  · have L := lv_step3 e
    have S : ∀ q, (s.step p).sn q = s.sn q := sn_stepN (by omega)
    exact ⟨by rw [hlen]; exact h.n1, by rw [hlen]; exact h.n5, lens.1, lens.2.1, lens.2.2, fun q x hq => h.vals q x (by rw [← L]; exact hq), fun q hq => by rw [cm_step]; exact h.cmv q (by rw [← L]; exact hq), fun q hq => by rw [L]; exact h.snv q (by rw [← S]; exact hq),
      fun q x hq hx => by rw [S]; exact h.lok q x (by rw [← L]; exact hq) hx, fun q hq => k2 (h.z2 q (by rw [← L]; exact hq)), fun q l hq hl => k2 (h.s2 q l (by rw [← S]; exact hq) hl)⟩
/-- who asks while nobody stands at 1 finds somebody at 2, who came -/
theorem ask_two (h : s.WF) (e : s.stg p = 3) : ∃ q, s.lv q = some 2 := by
  obtain ⟨x, hx, h1⟩ := stg3.mp e
  rcases h.vals p x hx with rfl | rfl | rfl
  · exact h.z2 p hx
  · exact absurd rfl h1
  · exact ⟨p, hx⟩
theorem two_came (h : s.WF) (e : ∃ q, s.lv q = some 2) : ∃ v, s.cm s.two = some v := by
  obtain ⟨_, h2, _⟩ := two_lev e
  cases c : s.cm s.two with
  | none => exact absurd c (h.cmv _ (by rw [h2]; simp))
  | some v => exact ⟨v, rfl⟩
/-! ### going on -/
theorem stg_step (h : s.WF) (hc : s.cm p ≠ none) (q : Nat) : (s.step p).stg q = if p = q then min 3 (s.stg p + 1) else s.stg q := by
  have hp := lt_of_cm h hc
  have hps : p < s.seen.length := by rw [h.ls]; exact hp
  have h4 := stg_lt s p
  rcases (show s.stg p = 0 ∨ s.stg p = 1 ∨ s.stg p = 2 ∨ s.stg p = 3 by omega) with e | e | e | e
  · by_cases z : p = q
    · subst z
      have hsn : s.sn p = none := by
        cases c : s.sn p with
        | none => rfl
        | some l => exact absurd (stg0.mp e) (h.snv p (by rw [c]; simp))
      rw [if_pos rfl, e]
      exact stg1.mpr ⟨by rw [lv_step0 e hp, if_pos rfl], by rw [sn_stepN (by omega)]; exact hsn⟩
    · rw [if_neg z]; unfold stg; rw [lv_step0 e hp, if_neg z, sn_stepN (by omega)]
  · by_cases z : p = q
    · subst z
      rw [if_pos rfl, e]
      exact stg2.mpr ⟨by rw [lv_step1 e]; exact (stg1.mp e).1, by rw [sn_step1 e hps, if_pos rfl]; simp⟩
    · rw [if_neg z]; unfold stg; rw [lv_step1 e, sn_step1 e hps, if_neg z]
  · by_cases z : p = q
    · subst z
      rw [if_pos rfl, e]
      refine stg3.mpr ⟨s.wr p, by rw [lv_step2 e hp, if_pos rfl], ?_⟩
      rcases wr02 s p with ⟨w, _⟩ | ⟨w, _⟩ <;> rw [w] <;> decide
    · rw [if_neg z]; unfold stg; rw [lv_step2 e hp, if_neg z, sn_stepN (by omega)]
  · have : (s.step p).stg q = s.stg q := by unfold stg; rw [lv_step3 e, sn_stepN (by omega)]
    rw [this]
    by_cases z : p = q
    · subst z; rw [if_pos rfl, e]; rfl
    · rw [if_neg z]
theorem stg_come (q : Nat) : (s.come p v).stg q = s.stg q := rfl
theorem no_one (h : ∀ q, s.stg q = 0 ∨ s.stg q = 3) : some 1 ∉ s.lev := fun m => by
  obtain ⟨q, hq⟩ := mem_getD.mp m
  have hq : s.lv q = some 1 := hq
  rcases h q with e | e
  · rw [stg0.mp e] at hq; cases hq
  · obtain ⟨x, hx, hx1⟩ := stg3.mp e
    rw [hq] at hx
    cases hx
    exact hx1 rfl
end
end DS
end Fp
/-! A door in the heap; promises of the program's defs -/
namespace Fp
open PySem PySem.Spec PyProof.Rows L2
def dfl (n : Int) (a b c e f : Addr) : List (Str × V) := [("many", .int n), ("came", .ref a), ("levels", .ref b), ("heard", .ref c), ("seen", .ref e), ("deeds", .ref f)]
structure DC (K : PySem.W.Frag) (C : Addr) : Prop where
  cl : Cls K C
  nM : NoAttr K C "many"
  nC : NoAttr K C "came"
  nL : NoAttr K C "levels"
  nH : NoAttr K C "heard"
  nS : NoAttr K C "seen"
  nD : NoAttr K C "deeds"
section
variable {n n' : Int} {a b c e f a' b' c' e' f' : Addr}
theorem d_many : (dfl n a b c e f).lookup ("many" : Str) = some (.int n) := by kernel_rfl
theorem d_came : (dfl n a b c e f).lookup ("came" : Str) = some (.ref a) := by kernel_rfl
theorem d_lev : (dfl n a b c e f).lookup ("levels" : Str) = some (.ref b) := by kernel_rfl
theorem d_heard : (dfl n a b c e f).lookup ("heard" : Str) = some (.ref c) := by kernel_rfl
theorem d_seen : (dfl n a b c e f).lookup ("seen" : Str) = some (.ref e) := by kernel_rfl
theorem d_deeds : (dfl n a b c e f).lookup ("deeds" : Str) = some (.ref f) := by kernel_rfl
theorem dp_came : putF "came" (.ref a') (dfl n a b c e f) = dfl n a' b c e f := by kernel_rfl
theorem dp_lev : putF "levels" (.ref b') (dfl n a b c e f) = dfl n a b' c e f := by kernel_rfl
theorem dp_heard : putF "heard" (.ref c') (dfl n a b c e f) = dfl n a b c' e f := by kernel_rfl
theorem dp_seen : putF "seen" (.ref e') (dfl n a b c e f) = dfl n a b c e' f := by kernel_rfl
theorem dp_deeds : putF "deeds" (.ref f') (dfl n a b c e f) = dfl n a b c e f' := by kernel_rfl
theorem d_all : putF "deeds" (.ref f) (putF "seen" (.ref e) (putF "heard" (.ref c) (putF "levels" (.ref b) (putF "came" (.ref a) (putF "many" (.int n) []))))) = dfl n a b c e f := by kernel_rfl
theorem no_check : (dfl n a b c e f).lookup ("check_player" : Str) = none := by kernel_rfl
theorem no_next : (dfl n a b c e f).lookup ("next" : Str) = none := by kernel_rfl
theorem no_shows : (dfl n a b c e f).lookup ("shows_level" : Str) = none := by kernel_rfl
theorem no_asks : (dfl n a b c e f).lookup ("asks" : Str) = none := by kernel_rfl
theorem no_step : (dfl n a b c e f).lookup ("step" : Str) = none := by kernel_rfl
theorem no_come : (dfl n a b c e f).lookup ("come" : Str) = none := by kernel_rfl
theorem no_copy : (dfl n a b c e f).lookup ("copy" : Str) = none := by kernel_rfl
end
/-- (VALUE,), or None -/
def One (H : Hp) (x : V) : Option V → Prop
  | none => x = .non
  | some v => ∃ p, x = .ref p ∧ H p = some (.tup [v])
def SeenAt (H : Hp) (x : V) : Option (List Lv) → Prop
  | none => x = .non
  | some l => ∃ p, x = .ref p ∧ TF H p (l.map lvV)
def DeedAt (H : Hp) (x : V) (d : Deed) : Prop := ∃ p, x = .ref p ∧ H p = some (.tup [.str (if d.stp then "step" else "come"), .int (d.p : Nat), d.x])
theorem One.mono {H H' : Hp} (g : TK H H') {x : V} {o : Option V} (h : One H x o) : One H' x o := by
  cases o with
  | none => exact h
  | some v => obtain ⟨p, e, q⟩ := h; exact ⟨p, e, g.t q⟩
theorem SeenAt.mono {H H' : Hp} (g : TK H H') {x : V} {o : Option (List Lv)} (h : SeenAt H x o) : SeenAt H' x o := by
  cases o with
  | none => exact h
  | some v => obtain ⟨p, e, q⟩ := h; exact ⟨p, e, g.f q⟩
theorem DeedAt.mono {H H' : Hp} (g : TK H H') {x : V} {o : Deed} (h : DeedAt H x o) : DeedAt H' x o := by
  obtain ⟨p, e, q⟩ := h; exact ⟨p, e, g.t q⟩
theorem pr_imp {α β : Type} {F G : α → β → Prop} (f : ∀ a b, F a b → G a b) : ∀ {l : List α} {m : List β}, Paired F l m → Paired G l m
  | _, _, .nil => .nil
  | _, _, .cons a b => .cons (f _ _ a) (pr_imp f b)
theorem pr_len {α β : Type} {F : α → β → Prop} : ∀ {l : List α} {m : List β}, Paired F l m → l.length = m.length
  | _, _, .nil => rfl
  | _, _, .cons _ b => congrArg (· + 1) (pr_len b)
theorem pr_at {α β : Type} {F : α → β → Prop} : ∀ {l : List α} {m : List β} {i : Nat} {y : β}, Paired F l m → m[i]? = some y → ∃ x, l[i]? = some x ∧ F x y
  | _, _, 0, _, .cons h _, e => by cases e; exact ⟨_, rfl, h⟩
  | _, _, i + 1, x, .cons _ r, e => pr_at (i := i) r e
  | _, _, _, _, .nil, e => by cases e
theorem pr_set {α β : Type} {F : α → β → Prop} {x : α} {y : β} (h : F x y) : ∀ {l : List α} {m : List β} (i : Nat), Paired F l m → Paired F (l.set i x) (m.set i y)
  | _, _, _, .nil => .nil
  | _, _, 0, .cons _ r => .cons h r
  | _, _, i + 1, .cons a r => .cons a (pr_set h i r)
theorem pr_snoc {α β : Type} {F : α → β → Prop} {a : α} {b : β} (h : F a b) : ∀ {l : List α} {m : List β}, Paired F l m → Paired F (l ++ [a]) (m ++ [b])
  | _, _, .nil => .cons h .nil
  | _, _, .cons k r => .cons k (pr_snoc h r)
theorem pr_rep {α β : Type} {F : α → β → Prop} {x : α} {y : β} (h : F x y) : ∀ n : Nat, Paired F (List.replicate n x) (List.replicate n y)
  | 0 => .nil
  | n + 1 => .cons h (pr_rep h n)
/-- values that may be brought -/
def Good (H : Hp) (v : V) : Prop := ∃ d, VAt H v d ∧ VOk 3 d
theorem Good.mono {H H' : Hp} (g : TK H H') {v : V} (h : Good H v) : Good H' v := by obtain ⟨d, a, b⟩ := h; exact ⟨d, a.mono g, b⟩
structure DoorIn (C : Addr) (H : Hp) (d : Addr) (s : DS) (dx a b c e f : Addr) (cv hv sv dv : List V) : Prop where
  obj : H d = some (.ins C dx (dfl (s.lev.length : Nat) a b c e f))
  own : H dx = some (.own d)
  came : TF H a cv
  cameP : Paired (One H) cv s.came
  lev : TF H b (s.lev.map lvV)
  heard : TF H c hv
  heardP : Paired (One H) hv s.heard
  seen : TF H e sv
  seenP : Paired (SeenAt H) sv s.seen
  deeds : H f = some (.tup dv)
  deedsP : Paired (DeedAt H) dv s.deeds
  good : ∀ p v, s.cm p = some v → Good H v
  wf : s.WF
def DoorAt (C : Addr) (H : Hp) (d : Addr) (s : DS) : Prop := ∃ dx a b c e f cv hv sv dv, DoorIn C H d s dx a b c e f cv hv sv dv
theorem DoorIn.mono {C : Addr} {H H' : Hp} {d : Addr} {s : DS} {dx a b c e f : Addr} {cv hv sv dv : List V} (h : DoorIn C H d s dx a b c e f cv hv sv dv) (g : TK H H') (g1 : ∀ o, H d = some o → H' d = some o) (g2 : H' dx = H dx) : DoorIn C H' d s dx a b c e f cv hv sv dv :=
  ⟨g1 _ h.obj, by rw [g2]; exact h.own, g.f h.came, pr_imp (fun _ _ => One.mono g) h.cameP, g.f h.lev, g.f h.heard, pr_imp (fun _ _ => One.mono g) h.heardP, g.f h.seen, pr_imp (fun _ _ => SeenAt.mono g) h.seenP, g.t h.deeds, pr_imp (fun _ _ => DeedAt.mono g) h.deedsP, fun p v hv => (h.good p v hv).mono g, h.wf⟩
theorem DoorAt.same {C : Addr} {H H' : Hp} {d : Addr} {s : DS} (h : DoorAt C H d s) (g : Same H H') : DoorAt C H' d s := by
  obtain ⟨dx, a, b, c, e, f, cv, hv, sv, dv, h⟩ := h
  exact ⟨dx, a, b, c, e, f, cv, hv, sv, dv, h.mono (.of g) (fun o q => g _ _ q) (by rw [g _ _ h.own]; exact h.own.symm)⟩
/-- what is not an instance, an own dict or a tuple may change -/
theorem DoorAt.but {C : Addr} {H H' : Hp} {d : Addr} {s : DS} {S : List Addr} (h : DoorAt C H d s) (g : But S H H') (n : ∀ x ∈ S, (∃ xs, H x = some (.lst xs)) ∨ ∃ kvs, H x = some (.dK kvs)) : DoorAt C H' d s := by
  obtain ⟨dx, a, b, c, e, f, cv, hv, sv, dv, h⟩ := h
  have nd : d ∉ S := fun m => by
    rcases n d m with ⟨xs, z⟩ | ⟨xs, z⟩ <;> rw [h.obj] at z <;> cases z
  have nx : dx ∉ S := fun m => by
    rcases n dx m with ⟨xs, z⟩ | ⟨xs, z⟩ <;> rw [h.own] at z <;> cases z
  refine ⟨dx, a, b, c, e, f, cv, hv, sv, dv, h.mono (TK.but g fun x m z => ?_) (fun o q => g _ _ nd q) (by rw [g _ _ nx h.own]; exact h.own.symm)⟩
  rcases n x m with ⟨ys, z'⟩ | ⟨ys, z'⟩ <;> rw [z'] at z <;> exact z
theorem DoorAt.wf {C : Addr} {H : Hp} {d : Addr} {s : DS} (h : DoorAt C H d s) : s.WF := by
  obtain ⟨dx, a, b, c, e, f, cv, hv, sv, dv, h⟩ := h
  exact h.wf
theorem getD_at {α : Type} {l : List (Option α)} {p : Nat} (h : p < l.length) : l[p]? = some (l.getD p none) := by
  rw [List.getElem?_eq_getElem h]; exact congrArg some (getD_of (List.getElem?_eq_getElem h)).symm
theorem DS.WF.acm {s : DS} (W : s.WF) {p : Nat} (h : p < s.lev.length) : s.came[p]? = some (s.cm p) := getD_at (by rw [W.lc]; exact h)
theorem DS.WF.asn {s : DS} (W : s.WF) {p : Nat} (h : p < s.lev.length) : s.seen[p]? = some (s.sn p) := getD_at (by rw [W.ls]; exact h)
theorem alv {s : DS} {p : Nat} (h : p < s.lev.length) : s.lev[p]? = some (s.lv p) := getD_at h
theorem alvV {s : DS} {p : Nat} (h : p < s.lev.length) : (s.lev.map lvV)[p]? = some (lvV (s.lv p)) := by rw [List.getElem?_map, alv h]; rfl
theorem One.is {H : Hp} {x : V} {o : Option V} (h : One H x o) : decide (x = .non) = o.isNone := by
  cases o with
  | none => rw [show x = .non from h]; rfl
  | some v => obtain ⟨p, e, _⟩ := h; rw [e]; rfl
theorem SeenAt.is {H : Hp} {x : V} {o : Option (List Lv)} (h : SeenAt H x o) : decide (x = .non) = o.isNone := by
  cases o with
  | none => rw [show x = .non from h]; rfl
  | some v => obtain ⟨p, e, _⟩ := h; rw [e]; rfl
theorem lv_flat : ∀ l : List Lv, (l.map lvV).all flatV = true
  | [] => rfl
  | none :: l => by rw [List.map_cons, List.all_cons, lv_flat l]; rfl
  | some i :: l => by rw [List.map_cons, List.all_cons, lv_flat l]; rfl
theorem eqV_lv (i : Int) (a : Lv) : eqV (lvV a) (.int i) = decide (a = some i) := by
  cases a with
  | none => rfl
  | some j =>
    show (j == i) = _
    rw [Bool.eq_iff_iff]; simp
theorem inV_lv (i : Int) (l : List Lv) : inV (.int i) (l.map lvV) = decide (some i ∈ l) := by
  unfold inV
  rw [List.any_map, Bool.eq_iff_iff, List.any_eq_true, decide_eq_true_iff]
  constructor
  · rintro ⟨x, hx, e⟩
    have e' : eqV (lvV x) (.int i) = true := e
    rw [eqV_lv, decide_eq_true_iff] at e'
    exact e' ▸ hx
  · intro h
    exact ⟨some i, h, by show eqV (lvV (some i)) (.int i) = true; rw [eqV_lv]; simp⟩
def DS.log (s : DS) (p : Nat) : DS := { s with deeds := s.deeds ++ [⟨true, p, .str (DS.kindOf (s.stg p))⟩] }
theorem DS.log_step (s : DS) (p : Nat) : { (s.log p).step p with deeds := (s.log p).deeds } = s.step p := by
  have h4 := DS.stg_lt s p
  have e0 : (s.log p).stg p = s.stg p := rfl
  rcases (show s.stg p = 0 ∨ s.stg p = 1 ∨ s.stg p = 2 ∨ s.stg p = 3 by omega) with e | e | e | e
  · rw [DS.step0 e, DS.step0 (e0.trans e)]; unfold DS.log; rw [e]; rfl
  · rw [DS.step1 e, DS.step1 (e0.trans e)]; unfold DS.log; rw [e]; rfl
  · rw [DS.step2 e, DS.step2 (e0.trans e)]; unfold DS.log; rw [e]; rfl
  · rw [DS.step3 e, DS.step3 (e0.trans e)]; unfold DS.log; rw [e]; split <;> rfl
theorem DS.WF.log {s : DS} {p : Nat} (W : s.WF) : (s.log p).WF := ⟨W.n1, W.n5, W.lc, W.lh, W.ls, W.vals, W.cmv, W.snv, W.lok, W.z2, W.s2⟩
/-- a tuple, of either kind -/
def TT (H : Hp) (a : Addr) (xs : List V) : Prop := H a = some (.tup xs) ∨ TF H a xs
theorem TT.sq {K : PySem.W.Frag} {H : Hp} {a : Addr} {xs : List V} (h : TT H a xs) : SqT K H a xs := h.elim (fun h => .of h) fun h => h.sq
theorem TK.tt {H H' : Hp} (g : TK H H') {a : Addr} {xs : List V} (h : TT H a xs) : TT H' a xs := h.imp (fun h => g.t h) fun h => g.f h
/-- what a step tells -/
def ToldAt (H : Hp) (t : Addr) : Told → Prop
  | .level i => H t = some (.tup [.str "level", .int i])
  | .look l => ∃ q, H t = some (.tup [.str "look", .ref q]) ∧ TT H q (l.map lvV)
  | .wait => H t = some (.tup [.str "wait"])
  | .word v => H t = some (.tup [.str "word", v])
theorem ToldAt.mono {H H' : Hp} (g : TK H H') {t : Addr} {x : Told} (h : ToldAt H t x) : ToldAt H' t x := by
  cases x with
  | level i => exact g.t h
  | look l => obtain ⟨q, a, b⟩ := h; exact ⟨q, g.t a, g.tt b⟩
  | wait => exact g.t h
  | word v => exact g.t h
/-! ### the law's own door -/
def odict (l1 l2 l3 l4 l5 : Addr) (k : Int) : List (Key × V) := [(.inr "came", .ref l1), (.inr "levels", .ref l2), (.inr "stages", .ref l3), (.inr "won", .ref l4), (.inr "heard", .ref l5), (.inr "steps", .int k)]
section
variable {l1 l2 l3 l4 l5 : Addr} {k k' : Int}
theorem o_came : valV (odict l1 l2 l3 l4 l5 k) (.inr "came") = some (.ref l1) := by kernel_rfl
theorem o_lev : valV (odict l1 l2 l3 l4 l5 k) (.inr "levels") = some (.ref l2) := by kernel_rfl
theorem o_stg : valV (odict l1 l2 l3 l4 l5 k) (.inr "stages") = some (.ref l3) := by kernel_rfl
theorem o_won : valV (odict l1 l2 l3 l4 l5 k) (.inr "won") = some (.ref l4) := by kernel_rfl
theorem o_heard : valV (odict l1 l2 l3 l4 l5 k) (.inr "heard") = some (.ref l5) := by kernel_rfl
theorem o_steps : valV (odict l1 l2 l3 l4 l5 k) (.inr "steps") = some (.int k) := by kernel_rfl
theorem op_steps : putK (odict l1 l2 l3 l4 l5 k) (.inr "steps") (.int k') = odict l1 l2 l3 l4 l5 k' := by kernel_rfl
theorem o_merge : mergeK [] (odict l1 l2 l3 l4 l5 k) = odict l1 l2 l3 l4 l5 k := by kernel_rfl
theorem og_came {H : Hp} {o : Addr} (h : H o = some (.dK (odict l1 l2 l3 l4 l5 k))) : DGet H o (.str "came") (some (.ref l1)) := by
  have := DGet.k (k := .inr "came") h; rw [o_came] at this; exact this
theorem og_lev {H : Hp} {o : Addr} (h : H o = some (.dK (odict l1 l2 l3 l4 l5 k))) : DGet H o (.str "levels") (some (.ref l2)) := by
  have := DGet.k (k := .inr "levels") h; rw [o_lev] at this; exact this
theorem og_stg {H : Hp} {o : Addr} (h : H o = some (.dK (odict l1 l2 l3 l4 l5 k))) : DGet H o (.str "stages") (some (.ref l3)) := by
  have := DGet.k (k := .inr "stages") h; rw [o_stg] at this; exact this
theorem og_won {H : Hp} {o : Addr} (h : H o = some (.dK (odict l1 l2 l3 l4 l5 k))) : DGet H o (.str "won") (some (.ref l4)) := by
  have := DGet.k (k := .inr "won") h; rw [o_won] at this; exact this
theorem og_heard {H : Hp} {o : Addr} (h : H o = some (.dK (odict l1 l2 l3 l4 l5 k))) : DGet H o (.str "heard") (some (.ref l5)) := by
  have := DGet.k (k := .inr "heard") h; rw [o_heard] at this; exact this
theorem og_steps {H : Hp} {o : Addr} (h : H o = some (.dK (odict l1 l2 l3 l4 l5 k))) : DGet H o (.str "steps") (some (.int k)) := by
  have := DGet.k (k := .inr "steps") h; rw [o_steps] at this; exact this
theorem oput_steps {H : Hp} {o : Addr} (h : H o = some (.dK (odict l1 l2 l3 l4 l5 k))) : DPut H o (.str "steps") (.int k') (upd H o (.dK (odict l1 l2 l3 l4 l5 k'))) := by
  have := DPut.k (k := .inr "steps") (v := .int k') h (szt (by show 6 < _; decide)); rw [op_steps] at this; exact this
end
theorem ixn {n j : Nat} (h : j < n) : ixN n (j : Int) = some j := by
  unfold ixN
  rw [if_pos (by omega), if_pos (by omega)] <;> simp
def DS.won (s : DS) (p : Nat) : Bool := match s.sn p with
  | none => false
  | some l => !decide (some 2 ∈ l)
structure OwnIn (H : Hp) (o l1 l2 l3 l4 l5 : Addr) (s : DS) (cv hv : List V) (k : Int) : Prop where
  dict : H o = some (.dK (odict l1 l2 l3 l4 l5 k))
  came : H l1 = some (.lst cv)
  cameP : Paired (One H) cv s.came
  lev : H l2 = some (.lst (s.lev.map lvV))
  stg : H l3 = some (.lst ((List.range s.lev.length).map fun p => V.int (s.stg p : Nat)))
  won : H l4 = some (.lst ((List.range s.lev.length).map fun p => V.bl (s.won p)))
  heard : H l5 = some (.lst hv)
  heardP : Paired (One H) hv s.heard
  nd : [o, l1, l2, l3, l4, l5].Nodup
def OwnAt (H : Hp) (o : Addr) (L : List Addr) (s : DS) (k : Int) : Prop := ∃ l1 l2 l3 l4 l5 cv hv, L = [o, l1, l2, l3, l4, l5] ∧ OwnIn H o l1 l2 l3 l4 l5 s cv hv k
theorem OwnAt.but {H H' : Hp} {o : Addr} {L S : List Addr} {s : DS} {k : Int} (h : OwnAt H o L s k) (g : But S H H') (n : ∀ x ∈ S, x ∉ L) (tk : TK H H') : OwnAt H' o L s k := by
  obtain ⟨l1, l2, l3, l4, l5, cv, hv, rfl, h⟩ := h
  have w : ∀ x ∈ [o, l1, l2, l3, l4, l5], x ∉ S := fun x hx m => n x m hx
  exact ⟨l1, l2, l3, l4, l5, cv, hv, rfl, g _ _ (w o (by simp)) h.dict, g _ _ (w l1 (by simp)) h.came, pr_imp (fun _ _ => One.mono tk) h.cameP, g _ _ (w l2 (by simp)) h.lev, g _ _ (w l3 (by simp)) h.stg, g _ _ (w l4 (by simp)) h.won, g _ _ (w l5 (by simp)) h.heard, pr_imp (fun _ _ => One.mono tk) h.heardP, h.nd⟩
theorem OwnAt.same {H H' : Hp} {o : Addr} {L : List Addr} {s : DS} {k : Int} (h : OwnAt H o L s k) (g : Same H H') : OwnAt H' o L s k := h.but (S := []) (.of g) (fun _ m => by cases m) (.of g)
/-- what stands at its places -/
theorem OwnAt.kind {H : Hp} {o : Addr} {L : List Addr} {s : DS} {k : Int} (h : OwnAt H o L s k) : ∀ x ∈ L, (∃ xs, H x = some (.lst xs)) ∨ ∃ kvs, H x = some (.dK kvs) := by
  obtain ⟨l1, l2, l3, l4, l5, cv, hv, rfl, h⟩ := h
  intro x hx
  simp only [List.mem_cons, List.not_mem_nil, or_false] at hx
  rcases hx with rfl | rfl | rfl | rfl | rfl | rfl
  · exact .inr ⟨_, h.dict⟩
  · exact .inl ⟨_, h.came⟩
  · exact .inl ⟨_, h.lev⟩
  · exact .inl ⟨_, h.stg⟩
  · exact .inl ⟨_, h.won⟩
  · exact .inl ⟨_, h.heard⟩
theorem none0 {P : Program} {w : World} {K : PySem.W.Frag} {mg : Str → Option Value} {base : Heap} {f : Addr} {fd : FuncData} {sp : Sp} {ps : List Str} (h : ∀ vs H Q E, ¬ sp vs H Q E) : FnOk P w K mg base CX0 0 f fd ps sp :=
  ⟨fun vs H Q E q => absurd q (h vs H Q E), fun A outer s H args us vs Q E _ _ _ _ q => absurd q (h vs H Q E)⟩
/-! ### promises -/
def vc : Nat → Nat
  | 0 => 2
  | n + 1 => 2 + 3 * vc n
def spVal (n : Nat) : Sp := fun vs H Q _ => ∃ (p : Addr) (deep m : Nat), vs = [.ref p, .int deep] ∧ deep < n ∧ deep ≤ 2 ∧ m + vc deep ≤ 900000 ∧ PotAt H p m ∧ ∀ v d H', But [p] H H' → VAt H' v d → VOk deep d → PotAt H' p (m + vc deep) → Q v H'
def spODoor : Sp := fun vs H Q _ => ∃ n : Nat, vs = [.int n] ∧ n ≤ 5 ∧ ∀ o L H', Same H H' → (∀ x ∈ L, H x = none) → OwnAt H' o L (DS.new n) 0 → Q (.ref o) H'
def spOCome : Sp := fun vs H Q _ => ∃ (o : Addr) (L : List Addr) (p : Nat) (v : V) (s : DS) (k : Int), vs = [.ref o, .int p, v] ∧ OwnAt H o L s k ∧ p < s.lev.length ∧ s.WF ∧ ∀ H', But L H H' → OwnAt H' o L (s.come p v) k → Q .non H'
def spOStep : Sp := fun vs H Q _ => ∃ (o : Addr) (L : List Addr) (p : Nat) (s : DS) (k : Int), vs = [.ref o, .int p] ∧ OwnAt H o L s k ∧ s.cm p ≠ none ∧ s.WF ∧ ∀ t H', But L H H' → ToldAt H' t (s.told p) → OwnAt H' o L (s.step p) (k + 1) → Q (.ref t) H'
/-- a drawn deed: a coming (None as long as the player is here), or a step -/
def spDeed : Sp := fun vs H Q _ => ∃ (pt o : Addr) (L : List Addr) (s : DS) (k : Int) (m : Nat), vs = [.ref pt, .ref o] ∧ OwnAt H o L s k ∧ s.WF ∧ pt ∉ L ∧ PotAt H pt m ∧ m < 800000 ∧
  ∀ (t : Addr) (p : Nat) (H' : Hp), But [pt] H H' → PotAt H' pt (m + 100) → p < s.lev.length →
    ((s.cm p = none ∧ ∃ q v, H' t = some (.tup [.int (p : Nat), .ref q]) ∧ H' q = some (.tup [v]) ∧ ∃ d, VAt H' v d ∧ VOk 2 d) ∨ (s.cm p ≠ none ∧ H' t = some (.tup [.int (p : Nat), .non]))) → Q (.ref t) H'
def spIsWhole : Sp := fun vs H Q _ => ∃ i : Int, vs = [.int i] ∧ Q (.bl true) H
def spBelow : Sp := fun vs H Q _ => ∃ i n : Int, vs = [.int i, .int n] ∧ Q (.bl (decide (0 ≤ i ∧ i < n))) H
def spExch (K : PySem.W.Frag) : Sp := fun vs H Q _ => ∃ (a : Addr) (xs : List V) (p : Nat) (v : V), vs = [.ref a, .int p, v] ∧ SqT K H a xs ∧ p < xs.length ∧ xs.length ≤ 1000 ∧ ∀ q H', Same H H' → TF H' q (xs.set p v) → Q (.ref q) H'
def spSmW (n : Nat) : Sp := fun vs H Q _ => ∃ (v : V) (d : PyData) (m : Nat) (deep : Int), vs = [v, .int deep] ∧ VAt H v d ∧ VOk m d ∧ m < n ∧ (m : Int) ≤ deep ∧ ∀ H', Same H H' → Q (.bl true) H'
def spSmall : Sp := fun vs H Q _ => ∃ v : V, vs = [v] ∧ Good H v ∧ ∀ H', Same H H' → Q (.bl true) H'
def spDInit (C : Addr) : Sp := fun vs H Q _ => ∃ (d dx : Addr) (n : Nat), vs = [.ref d, .int n] ∧ 1 ≤ n ∧ n ≤ 5 ∧ H d = some (.ins C dx []) ∧ H dx = some (.own d) ∧
  ∀ H', But [d] H H' → DoorAt C H' d (DS.new n) → Q .non H'
def spCheck (C : Addr) : Sp := fun vs H Q _ => ∃ (d : Addr) (p : Nat) (s : DS), vs = [.ref d, .int p] ∧ DoorAt C H d s ∧ p < s.lev.length ∧ Q .non H
def optS : Option Str → V
  | none => .non
  | some z => .str z
def spNext (C : Addr) : Sp := fun vs H Q _ => ∃ (d : Addr) (p : Nat) (s : DS), vs = [.ref d, .int p] ∧ DoorAt C H d s ∧ p < s.lev.length ∧ ∀ H', Same H H' → Q (optS (s.next p)) H'
def spShows (C : Addr) : Sp := fun vs H Q _ => ∃ (d : Addr) (p : Nat) (s : DS), vs = [.ref d, .int p] ∧ DoorAt C H d s ∧ p < s.lev.length ∧ (s.stg p = 0 ∨ s.stg p = 2) ∧ s.cm p ≠ none ∧
  ∀ t H', But [d] H H' → ToldAt H' t (s.told p) → DoorAt C H' d { s.step p with deeds := s.deeds } → Q (.ref t) H'
def spAsks (C : Addr) : Sp := fun vs H Q _ => ∃ (d : Addr) (p : Nat) (s : DS), vs = [.ref d, .int p] ∧ DoorAt C H d s ∧ p < s.lev.length ∧ s.stg p = 3 ∧ s.cm p ≠ none ∧
  ∀ t H', But [d] H H' → ToldAt H' t (s.told p) → DoorAt C H' d { s.step p with deeds := s.deeds } → Q (.ref t) H'
def spStep (C : Addr) : Sp := fun vs H Q _ => ∃ (d : Addr) (p : Nat) (s : DS), vs = [.ref d, .int p] ∧ DoorAt C H d s ∧ s.cm p ≠ none ∧ s.deeds.length < 100000 ∧
  ∀ t H', But [d] H H' → ToldAt H' t (s.told p) → DoorAt C H' d (s.step p) → Q (.ref t) H'
def spCome (C : Addr) : Sp := fun vs H Q _ => ∃ (d : Addr) (p : Nat) (v : V) (s : DS), vs = [.ref d, .int p, v] ∧ DoorAt C H d s ∧ p < s.lev.length ∧ s.cm p = none ∧ Good H v ∧ s.deeds.length < 100000 ∧
  ∀ H', But [d] H H' → DoorAt C H' d (s.come p v) → Q .non H'
def DS.held (s : DS) : List Nat := (List.range s.lev.length).filter fun p => decide (s.lv p = some 1)
def spHeld (C : Addr) : Sp := fun vs H Q _ => ∃ (d : Addr) (s : DS), vs = [.ref d] ∧ DoorAt C H d s ∧ ∀ t H', Same H H' → H' t = some (.tup (s.held.map fun (p : Nat) => V.int (p : Int))) → Q (.ref t) H'
end Fp
namespace Fp
open PySem PySem.Spec PyProof.Rows L2
theorem u65 {k : Nat} {A : Around} (r : Room k A) : A.units + 65 < cLine := by have := r.un; omega
/-! ### rules that may stand within a comprehension -/
theorem op_eqDK {X : Cx} {K : PySem.W.Frag} (hu : X.A.units + 64 < cLine) (e : X.K = K := by rfl) : OpR X (compareOp .Eq) (rEqD K) := by subst e; exact op_eqD hu
theorem op_neDK {X : Cx} {K : PySem.W.Frag} (hu : X.A.units + 64 < cLine) (e : X.K = K := by rfl) : OpR X (compareOp .NotEq) (rNeD K) := by subst e; exact op_neD hu
theorem ix_tupK {X : Cx} {K : PySem.W.Frag} (e : X.K = K := by rfl) : IxR X (rIxT K) := by subst e; exact ix_tup
theorem ix_listK {X : Cx} {K : PySem.W.Frag} (e : X.K = K := by rfl) : IxR X (rIxL K) := by subst e; exact ix_list
def rRepr (K : PySem.W.Frag) : List V → Hp → VK → Prop := fun xs H Q => ∃ (x : V) (d : PyData) (k n : Nat), xs = [x] ∧ Dp K H x d ∧ Sm k n d ∧ k ≤ 64 ∧ n ≤ 1000000 ∧ Q (.str d.shown) H
theorem call_reprK {X : Cx} {K : PySem.W.Frag} (hgu : X.A.guards = some []) (hu : X.A.units + 66 < cLine) (e : X.K = K := by rfl) : CallR X (.builtin "repr") (rRepr K) := by subst e; exact call_reprA hgu hu
theorem pe_fldK {X : Cx} {K : PySem.W.Frag} {o : Expr} {f : Str} {pos : Pos} {to : TE} (h : PE X (.Attribute o f pos) (tFld X.K to f)) (e : X.K = K := by rfl) : PE X (.Attribute o f pos) (tFld K to f) := by subst e; exact h
/-! ### what is told, as data -/
def TOk (H : Hp) : Told → Prop
  | .level i => 0 ≤ i ∧ i ≤ 2
  | .look l => l.length ≤ 5 ∧ ∀ x, some x ∈ l → 0 ≤ x ∧ x ≤ 2
  | .wait => True
  | .word v => Good H v
theorem TOk.mono {H H' : Hp} (g : TK H H') {x : Told} (h : TOk H x) : TOk H' x := by
  cases x with
  | level i => exact h
  | look l => exact h
  | wait => exact h
  | word v => exact Good.mono g h
theorem DS.WF.small {s : DS} (W : s.WF) : s.lev.length ≤ 5 ∧ ∀ x, some x ∈ s.lev → 0 ≤ x ∧ x ≤ 2 := ⟨W.n5, fun x h => by
  obtain ⟨q, hq⟩ := mem_getD.mp h
  rcases W.vals q x hq with rfl | rfl | rfl <;> decide⟩
theorem DoorAt.tok {C : Addr} {H : Hp} {d : Addr} {s : DS} {p : Nat} (h : DoorAt C H d s) : TOk H (s.told p) := by
  obtain ⟨dx, a, b, c, e, f, cv, hv, sv, dv, D⟩ := h
  have W := D.wf
  have h4 := DS.stg_lt s p
  rcases (show s.stg p = 0 ∨ s.stg p = 1 ∨ s.stg p = 2 ∨ s.stg p = 3 by omega) with z | z | z | z
  · rw [DS.told0 z]; exact ⟨by decide, by decide⟩
  · rw [DS.told1 z]; exact W.small
  · rw [DS.told2 z]; rcases DS.wr02 s p with ⟨e, _⟩ | ⟨e, _⟩ <;> rw [e] <;> exact ⟨by decide, by decide⟩
  · rw [DS.told3 z]; split
    · trivial
    · obtain ⟨v, hv⟩ := DS.two_came W (DS.ask_two W z)
      rw [hv]
      exact D.good _ _ hv
def lvD : Lv → PyData
  | none => .none
  | some i => .int i
theorem lv_dp {K : PySem.W.Frag} {H : Hp} : ∀ l : List Lv, DpAll K H (l.map lvV) (l.map lvD)
  | [] => .nil
  | none :: l => .cons .non (lv_dp l)
  | some i :: l => .cons (.int i) (lv_dp l)
theorem lv_sms {l : List Lv} (h : ∀ x, some x ∈ l → 0 ≤ x ∧ x ≤ 2) (hl : l.length ≤ 5) : Sms 1 5 (l.map lvD) := by
  refine (Sms.all (k := 1) (n := 0) fun d hd => ?_).mono (Nat.le_refl _) (by rw [List.length_map]; omega)
  obtain ⟨x, hx, rfl⟩ := List.mem_map.mp hd
  cases x with
  | none => exact Sm.non
  | some i => have := h i hx; exact Sm.int (by omega) (by omega)
theorem Good.dp {K : PySem.W.Frag} {H : Hp} {v : V} (h : Good H v) : ∃ d, Dp K H v d ∧ Sm 4 39 d := by
  obtain ⟨d, a, b⟩ := h
  exact ⟨d, a.dp, b.sm⟩
theorem sm_word (z : Str) (h : (decide (z.cps.size ≤ 10) && z.cps.toList.all (fun c => decide (c < 16 ^ 8)) && PyData.strOk z) = true) : Sm 1 10 (.str z) := by
  rw [Bool.and_eq_true, Bool.and_eq_true] at h
  exact Sm.str (of_decide_eq_true h.1.1) h.1.2 h.2
/-- what is told, as one data, wherever it stands -/
theorem told_data {H : Hp} {x : Told} (o : TOk H x) : ∃ d, Sm 6 100 d ∧ ∀ (K : PySem.W.Frag) (H' : Hp) (t : Addr), TK H H' → ToldAt H' t x → Dp K H' (.ref t) d := by
  cases x with
  | level i =>
    refine ⟨.tuple [.str "level", .int i], ?_, fun K H' t _ h => .tup (.of h) (.cons (.str _) (.cons (.int _) .nil))⟩
    exact (Sms.tup (.cons (sm_word _ (by decide +kernel)) (.cons ((Sm.int (i := i) (by have := o.1; omega) (by have := o.2; omega)).mono (Nat.le_refl 1) (Nat.le_refl 0)) (Sms.nil (n := 0))))).mono (by decide) (by decide)
  | look l =>
    refine ⟨.tuple [.str "look", .tuple (l.map lvD)], ?_, fun K H' t _ h => by obtain ⟨q, a, b⟩ := h; exact .tup (.of a) (.cons (.str _) (.cons (.tup b.sq (lv_dp l)) .nil))⟩
    exact (Sms.tup (.cons ((sm_word "look" (by decide +kernel)).mono (by decide : 1 ≤ 2) (Nat.le_refl 10)) (.cons (lv_sms o.2 o.1).tup (Sms.nil (n := 0))))).mono (by decide) (by decide)
  | wait =>
    refine ⟨.tuple [.str "wait"], ?_, fun K H' t _ h => .tup (.of h) (.cons (.str _) .nil)⟩
    exact (Sms.tup (.cons (sm_word "wait" (by decide +kernel)) (Sms.nil (n := 0)))).mono (by decide) (by decide)
  | word v =>
    obtain ⟨d, hd, ho⟩ := o
    refine ⟨.tuple [.str "word", d], ?_, fun K H' t g h => .tup (.of h) (.cons (.str _) (.cons (hd.mono g).dp .nil))⟩
    exact (Sms.tup (.cons ((sm_word "word" (by decide +kernel)).mono (by decide : 1 ≤ 4) (Nat.le_refl 10)) (.cons ho.sm (Sms.nil (n := 0))))).mono (by decide) (by decide)
/-- two tellings of one thing are one in data -/
theorem told_two {K : PySem.W.Frag} {H : Hp} {t1 t2 : Addr} {x : Told} (h1 : ToldAt H t1 x) (h2 : ToldAt H t2 x) (o : TOk H x) : ∃ d, Dp K H (.ref t1) d ∧ Dp K H (.ref t2) d ∧ Sm 6 100 d := by
  cases x with
  | level i =>
    refine ⟨.tuple [.str "level", .int i], .tup (.of h1) (.cons (.str _) (.cons (.int _) .nil)), .tup (.of h2) (.cons (.str _) (.cons (.int _) .nil)), ?_⟩
    exact (Sms.tup (.cons (sm_word _ (by decide +kernel)) (.cons ((Sm.int (i := i) (by have := o.1; omega) (by have := o.2; omega)).mono (Nat.le_refl 1) (Nat.le_refl 0)) (Sms.nil (n := 0))))).mono (by decide) (by decide)
  | look l =>
    obtain ⟨q1, a1, b1⟩ := h1
    obtain ⟨q2, a2, b2⟩ := h2
    refine ⟨.tuple [.str "look", .tuple (l.map lvD)], .tup (.of a1) (.cons (.str _) (.cons (.tup b1.sq (lv_dp l)) .nil)), .tup (.of a2) (.cons (.str _) (.cons (.tup b2.sq (lv_dp l)) .nil)), ?_⟩
    exact (Sms.tup (.cons ((sm_word "look" (by decide +kernel)).mono (by decide : 1 ≤ 2) (Nat.le_refl 10)) (.cons (lv_sms o.2 o.1).tup (Sms.nil (n := 0))))).mono (by decide) (by decide)
  | wait =>
    refine ⟨.tuple [.str "wait"], .tup (.of h1) (.cons (.str _) .nil), .tup (.of h2) (.cons (.str _) .nil), ?_⟩
    exact (Sms.tup (.cons (sm_word "wait" (by decide +kernel)) (Sms.nil (n := 0)))).mono (by decide) (by decide)
  | word v =>
    obtain ⟨d, hd, sm⟩ := Good.dp (K := K) o
    refine ⟨.tuple [.str "word", d], .tup (.of h1) (.cons (.str _) (.cons hd .nil)), .tup (.of h2) (.cons (.str _) (.cons hd .nil)), ?_⟩
    exact (Sms.tup (.cons ((sm_word "word" (by decide +kernel)).mono (by decide : 1 ≤ 4) (Nat.le_refl 10)) (.cons sm (Sms.nil (n := 0))))).mono (by decide) (by decide)
/-! ### lots of players -/
def natV (l : List Nat) : List V := l.map fun (p : Nat) => V.int (p : Int)
theorem natV_dp {K : PySem.W.Frag} {H : Hp} : ∀ l : List Nat, DpAll K H (natV l) (l.map fun (p : Nat) => PyData.int (p : Int))
  | [] => .nil
  | p :: l => .cons (.int _) (natV_dp l)
theorem natV_sm {l : List Nat} (h : ∀ p ∈ l, p ≤ 5) (hl : l.length ≤ 5) : Sm 2 5 (.tuple (l.map fun (p : Nat) => PyData.int (p : Int))) := by
  refine (Sms.all (k := 1) (n := 0) fun d hd => ?_).tup.mono (Nat.le_refl _) (by rw [List.length_map]; omega)
  obtain ⟨x, hx, rfl⟩ := List.mem_map.mp hd
  have := h x hx
  exact Sm.int (by omega) (by omega)
theorem held_small {s : DS} (W : s.WF) : (∀ p ∈ s.held, p ≤ 5) ∧ s.held.length ≤ 5 := by
  have h5 := W.n5
  refine ⟨fun p hp => ?_, ?_⟩
  · have := List.mem_range.mp (List.mem_filter.mp hp).1
    omega
  · have := List.length_filter_le (fun p => decide (s.lv p = some 1)) (List.range s.lev.length)
    rw [List.length_range] at this
    unfold DS.held
    omega
/-! ### a law's state: a door, an own door, a pot -/
theorem But.into {S T : List Addr} {H0 H H' : Hp} (a : But S H0 H) (b : But T H H') (h : ∀ x ∈ T, H0 x = none ∨ x ∈ S) : But S H0 H' := fun c o n e => b c o (fun m => by
  rcases h c m with z | z
  · rw [z] at e; cases e
  · exact n z) (a c o n e)
theorem But.free {pt d : Addr} {H H1 : Hp} (g : But [pt] H H1) (hp : H1 pt ≠ none) (h : H1 d = none) : H d = none := by
  cases e : H d with
  | none => rfl
  | some o =>
    have := g d o (by simp only [List.mem_singleton]; intro z; exact hp (z ▸ h)) e
    rw [h] at this; cases this
theorem PotAt.ne0 {H : Hp} {p : Addr} {n : Nat} (h : PotAt H p n) : H p ≠ none := by
  obtain ⟨xs, e⟩ := h.there
  rw [e]; simp
structure Sta (C : Addr) (H0 : Hp) (pt d o : Addr) (L : List Addr) (H : Hp) (s1 s2 : DS) (m : Nat) (q : Nat) : Prop where
  fr : But [pt] H0 H
  door : DoorAt C H d s1
  own : ∃ k, OwnAt H o L s2 k
  pot : PotAt H pt m
  p0 : H0 pt ≠ none
  d0 : H0 d = none
  L0 : ∀ x ∈ L, H0 x = none
  dl : s1.deeds.length ≤ q
theorem DoorAt.ins {C : Addr} {H : Hp} {d : Addr} {s : DS} (h : DoorAt C H d s) : ∃ dx fs, H d = some (.ins C dx fs) := by
  obtain ⟨dx, a, b, c, e, f, cv, hv, sv, dv, D⟩ := h
  exact ⟨_, _, D.obj⟩
theorem DoorAt.tk {C : Addr} {H H' : Hp} {d : Addr} {s : DS} (h : DoorAt C H d s) (g : But [d] H H') : TK H H' := TK.but g fun a ha z => by
  obtain ⟨dx, fs, e⟩ := h.ins
  rw [List.mem_singleton.mp ha, e] at z
  exact z
theorem PotAt.tk {H H' : Hp} {pt : Addr} {m : Nat} (h : PotAt H pt m) (g : But [pt] H H') : TK H H' := TK.but g fun a ha z => by
  obtain ⟨xs, e⟩ := h.there
  rw [List.mem_singleton.mp ha, e] at z
  exact z
theorem OwnAt.tk {H H' : Hp} {o : Addr} {L : List Addr} {s : DS} {k : Int} (h : OwnAt H o L s k) (g : But L H H') : TK H H' := TK.but g fun a ha z => by
  rcases h.kind a ha with ⟨xs, e⟩ | ⟨xs, e⟩ <;> rw [e] at z <;> exact z
theorem PotAt.but {H H' : Hp} {pt : Addr} {m : Nat} {S : List Addr} (h : PotAt H pt m) (g : But S H H') (n : pt ∉ S) : PotAt H' pt m := by
  obtain ⟨a, b, c, e, r⟩ := h
  exact ⟨a, b, c, g _ _ n e, r⟩
section
variable {C : Addr} {H0 H H' : Hp} {pt d o : Addr} {L : List Addr} {s1 s2 s' : DS} {m m' q q' : Nat}
theorem Sta.ptL (S : Sta C H0 pt d o L H s1 s2 m q) : pt ∉ L := fun z => S.p0 (S.L0 _ z)
theorem Sta.dL (S : Sta C H0 pt d o L H s1 s2 m q) : d ∉ L := fun z => by
  obtain ⟨k, O⟩ := S.own
  obtain ⟨dx, fs, e⟩ := S.door.ins
  rcases O.kind d z with ⟨xs, e2⟩ | ⟨xs, e2⟩ <;> rw [e] at e2 <;> cases e2
theorem Sta.ptd (S : Sta C H0 pt d o L H s1 s2 m q) : pt ≠ d := fun z => S.p0 (by rw [z]; exact S.d0)
theorem Sta.same (S : Sta C H0 pt d o L H s1 s2 m q) (g : Same H H') : Sta C H0 pt d o L H' s1 s2 m q :=
  ⟨S.fr.trans (.of g), S.door.same g, let ⟨k, O⟩ := S.own; ⟨k, O.same g⟩, S.pot.but (.of (S := []) g) (by simp), S.p0, S.d0, S.L0, S.dl⟩
theorem Sta.take (S : Sta C H0 pt d o L H s1 s2 m q) (g : But [pt] H H') (hp : PotAt H' pt m') : Sta C H0 pt d o L H' s1 s2 m' q :=
  ⟨S.fr.trans g, S.door.but g fun x hx => by rw [List.mem_singleton.mp hx]; exact .inl S.pot.there, let ⟨k, O⟩ := S.own; ⟨k, O.but g (fun x hx => by rw [List.mem_singleton.mp hx]; exact S.ptL) (S.pot.tk g)⟩, hp, S.p0, S.d0, S.L0, S.dl⟩
theorem Sta.stepD (S : Sta C H0 pt d o L H s1 s2 m q) (g : But [d] H H') (hd : DoorAt C H' d s') (hl : s'.deeds.length ≤ q') : Sta C H0 pt d o L H' s' s2 m q' :=
  ⟨S.fr.into g fun x hx => by rw [List.mem_singleton.mp hx]; exact .inl S.d0, hd, let ⟨k, O⟩ := S.own; ⟨k, O.but g (fun x hx => by rw [List.mem_singleton.mp hx]; exact S.dL) (S.door.tk g)⟩, S.pot.but g (by simpa using S.ptd), S.p0, S.d0, S.L0, hl⟩
theorem Sta.stepO (S : Sta C H0 pt d o L H s1 s2 m q) (g : But L H H') {k : Int} (ho : OwnAt H' o L s' k) : Sta C H0 pt d o L H' s1 s' m q :=
  ⟨S.fr.into g fun x hx => .inl (S.L0 x hx), let ⟨k, O⟩ := S.own; S.door.but g O.kind, ⟨k, ho⟩, S.pot.but g S.ptL, S.p0, S.d0, S.L0, S.dl⟩
end
theorem deeds_step {s : DS} {p : Nat} : (s.step p).deeds.length = s.deeds.length + 1 := by
  unfold DS.step
  split <;> (try split) <;> simp
theorem deeds_come {s : DS} {p : Nat} {v : V} : (s.come p v).deeds.length = s.deeds.length + 1 := by simp [DS.come]
theorem DoorAt.ob {C : Addr} {H : Hp} {d : Addr} {s : DS} (h : DoorAt C H d s) : ∃ dx fs, H d = some (.ins C dx fs) ∧ fs.lookup ("step" : Str) = none ∧ fs.lookup ("come" : Str) = none ∧ fs.lookup ("next" : Str) = none ∧ fs.lookup ("copy" : Str) = none := by
  obtain ⟨dx, a, b, c, e, f, cv, hv, sv, dv, D⟩ := h
  exact ⟨_, _, D.obj, no_step, no_come, no_next, no_copy⟩
theorem DS.lv_other {s : DS} {p q : Nat} (W : s.WF) (hc : s.cm p ≠ none) (h : p ≠ q) : (s.step p).lv q = s.lv q := by
  have hp := DS.lt_of_cm W hc
  have h4 := DS.stg_lt s p
  rcases (show s.stg p = 0 ∨ s.stg p = 1 ∨ s.stg p = 2 ∨ s.stg p = 3 by omega) with e | e | e | e
  · rw [DS.lv_step0 e hp, if_neg h]
  · rw [DS.lv_step1 e]
  · rw [DS.lv_step2 e hp, if_neg h]
  · rw [DS.lv_step3 e]
theorem natV_rep (n : Nat) (l : List Nat) : (List.replicate n (natV l)).flatten = natV (List.replicate n l).flatten := by
  unfold natV
  rw [List.map_flatten, List.map_replicate]
theorem count_rep (n p : Nat) (l : List Nat) (h : p ∈ l) : n ≤ (List.replicate n l).flatten.count p := by
  induction n with
  | zero => omega
  | succ n ih =>
    rw [List.replicate_succ, List.flatten_cons, List.count_append]
    have := List.count_pos_iff.mpr h
    omega
theorem mem_rep {n p : Nat} {l : List Nat} (h : p ∈ (List.replicate n l).flatten) : p ∈ l := by
  obtain ⟨x, hx, hp⟩ := List.mem_flatten.mp h
  rw [(List.mem_replicate.mp hx).2] at hp
  exact hp
theorem natV_get {l : List Nat} {i : Nat} {x : V} (h : (natV l)[i]? = some x) : ∃ p, l[i]? = some p ∧ x = .int (p : Int) := by
  unfold natV at h
  rw [List.getElem?_map] at h
  cases e : l[i]? with
  | none => rw [e] at h; cases h
  | some p => rw [e] at h; cases h; exact ⟨p, rfl, rfl⟩
theorem take_snoc {l : List Nat} {i p : Nat} (h : l[i]? = some p) : l.take (i + 1) = l.take i ++ [p] := by
  rw [List.take_add_one, h]; rfl
theorem rep_len (n : Nat) (l : List Nat) : (List.replicate n l).flatten.length = n * l.length := by simp
theorem two_str {a b : Str} (h : a = b) : (!decide (V.str a = V.str b)) = false := by rw [h]; simp
theorem Fst {H : Hp} {t : Addr} {x : Told} (h : ToldAt H t x) : ∃ ys, H t = some (.tup (.str (match x with | .level _ => "level" | .look _ => "look" | .wait => "wait" | .word _ => "word") :: ys)) := by
  cases x with
  | level i => exact ⟨_, h⟩
  | look l => obtain ⟨q, h, _⟩ := h; exact ⟨_, h⟩
  | wait => exact ⟨_, h⟩
  | word v => exact ⟨_, h⟩
theorem stg_ge {s : DS} {p q : Nat} {l : List Nat} (W : s.WF) (hc : s.cm p ≠ none) (h : min 3 (l.count q) ≤ s.stg q) : min 3 ((l ++ [p]).count q) ≤ (s.step p).stg q := by
  rw [DS.stg_step W hc, List.count_append, List.count_singleton]
  by_cases e : p = q
  · subst e; simp; omega
  · rw [if_neg e]; simp [e]; omega
/-- a door and an own door are made -/
theorem Sta.make {C : Addr} {H H1 H2 H3 : Hp} {pt d dx o : Addr} {L : List Addr} {N m : Nat} (hP : PotAt H pt 0) (g1 : But [pt] H H1) (hP1 : PotAt H1 pt m) (hd : H1 d = none) (hdx : H1 dx = none) (hne : dx ≠ d)
    (b : But [d] (upd (upd H1 dx (.own d)) d (.ins C dx [])) H2) (D : DoorAt C H2 d (DS.new N)) (g3 : Same H2 H3) (hL : ∀ x ∈ L, H2 x = none) (O : OwnAt H3 o L (DS.new N) 0) : Sta C H pt d o L H3 (DS.new N) (DS.new N) m 0 := by
  have g2 : Same H1 (upd (upd H1 dx (.own d)) d (.ins C dx [])) := (same_new hdx _).trans (same_new (by rw [upd_ne (Ne.symm hne)]; exact hd) _)
  have pd : pt ≠ d := fun z => hP1.ne0 (by rw [z]; exact hd)
  have fr2 : But [pt] H H2 := (g1.trans (.of g2)).into b fun x hx => by rw [List.mem_singleton.mp hx]; exact .inl (g1.free hP1.ne0 hd)
  have hP2 : PotAt H2 pt m := (hP1.but (.of (S := []) g2) (by simp)).but b (by simpa using pd)
  exact ⟨fr2.trans (.of g3), D.same g3, ⟨_, O⟩, hP2.but (.of (S := []) g3) (by simp), hP.ne0, g1.free hP1.ne0 hd, fun x hx => fr2.free hP2.ne0 (hL x hx), Nat.le_refl _⟩
theorem filter_one : ∀ N, N ≤ 5 → ∀ st, st < N → (List.range N).filter (fun p => decide (p = st)) = [st] := by decide
theorem eqv_self_nat (l : List Nat) : PyData.eqv (.tuple (l.map fun (p : Nat) => PyData.int (p : Int))) (.tuple (l.map fun (p : Nat) => PyData.int (p : Int))) = true := by
  have h : ∀ l : List Nat, PyData.eqvAll (l.map fun (p : Nat) => PyData.int (p : Int)) (l.map fun (p : Nat) => PyData.int (p : Int)) = true := fun l => by
    induction l with
    | nil => simp [PyData.eqvAll]
    | cons a r ih => simp [PyData.eqvAll, PyData.eqv, ih]
  simp only [PyData.eqv]
  exact h l
theorem held_none {s : DS} (h : ∀ p, p < s.lev.length → s.lv p ≠ some 1) : s.held = [] := by
  unfold DS.held
  rw [List.filter_eq_nil_iff]
  intro p hp
  simpa using h p (List.mem_range.mp hp)
theorem held_only {s : DS} (W : s.WF) {st : Nat} (hst : st < s.lev.length) (h1 : s.lv st = some 1) (h : ∀ p, p < s.lev.length → p ≠ st → s.lv p ≠ some 1) : s.held = [st] := by
  unfold DS.held
  rw [← filter_one _ W.n5 st hst]
  refine List.filter_congr fun p hp => ?_
  rw [decide_eq_decide]
  constructor
  · intro z
    by_cases e : p = st
    · exact e
    · exact absurd z (h p (List.mem_range.mp hp) e)
  · intro z; rw [z]; exact h1
theorem lv_of3 {s : DS} {p : Nat} (h : s.stg p = 3) : s.lv p ≠ some 1 := by
  obtain ⟨x, hx, h1⟩ := DS.stg3.mp h
  rw [hx]; intro z; injection z with z; exact h1 z
theorem Sta.put {C : Addr} {H0 H : Hp} {pt d o D : Addr} {L : List Addr} {s1 s2 : DS} {m q : Nat} {xs ys : List V} (S : Sta C H0 pt d o L H s1 s2 m q) (h : H D = some (.lst xs)) (n0 : H0 D = none) (nL : D ∉ L) : Sta C H0 pt d o L (upd H D (.lst ys)) s1 s2 m q := by
  have g : But [D] H (upd H D (.lst ys)) := (But.refl _ _).put (by simp)
  have np : pt ≠ D := fun z => S.p0 (by rw [z]; exact n0)
  have tk : TK H (upd H D (.lst ys)) := .put h fun z => z
  exact ⟨S.fr.into g fun x hx => by rw [List.mem_singleton.mp hx]; exact .inl n0, S.door.but g fun x hx => by rw [List.mem_singleton.mp hx]; exact .inl ⟨_, h⟩,
    let ⟨k, O⟩ := S.own; ⟨k, O.but g (fun x hx => by rw [List.mem_singleton.mp hx]; exact nL) tk⟩, S.pot.but g (by simpa using np), S.p0, S.d0, S.L0, S.dl⟩
/-- an address that is new is none of the state's -/
theorem Sta.new {C : Addr} {H0 H : Hp} {pt d o D : Addr} {L : List Addr} {s1 s2 : DS} {m q : Nat} (S : Sta C H0 pt d o L H s1 s2 m q) (h : H D = none) : H0 D = none ∧ D ∉ L ∧ D ≠ d ∧ D ≠ pt := by
  obtain ⟨k, O⟩ := S.own
  refine ⟨S.fr.free S.pot.ne0 h, fun z => ?_, fun z => ?_, fun z => S.pot.ne0 (by rw [← z]; exact h)⟩
  · rcases O.kind D z with ⟨ys, e⟩ | ⟨ys, e⟩ <;> rw [e] at h <;> cases h
  · obtain ⟨dx', fs, e⟩ := S.door.ins; rw [z, e] at h; cases h
theorem Sta.up {C : Addr} {H0 H : Hp} {pt d o : Addr} {L : List Addr} {s1 s2 : DS} {m q m' q' : Nat} (S : Sta C H0 pt d o L H s1 s2 m q) (hm : m ≤ m') (hq : q ≤ q') : Sta C H0 pt d o L H s1 s2 m' q' :=
  ⟨S.fr, S.door, S.own, S.pot.mono hm, S.p0, S.d0, S.L0, Nat.le_trans S.dl hq⟩
/-! ### one word -/
def DS.hd (s : DS) (p : Nat) : Option V := s.heard.getD p none
def DS.Closed (s : DS) : Prop := (∃ q, s.lv q = some 2) ∧ ∀ p, s.stg p = 2 → s.saw p = true
section
variable {s : DS} {p : Nat} {v : V}
theorem DS.hd_new (n p : Nat) : (DS.new n).hd p = none := DS.rep_none n p
theorem DS.hd_come (q : Nat) : (s.come p v).hd q = s.hd q := rfl
theorem DS.hd_step (W : s.WF) (hc : s.cm p ≠ none) (q : Nat) : (s.step p).hd q = if p = q ∧ s.stg p = 3 ∧ some 1 ∉ s.lev then s.cm s.two else s.hd q := by
  have hp := DS.lt_of_cm W hc
  have h4 := DS.stg_lt s p
  rcases (show s.stg p = 0 ∨ s.stg p = 1 ∨ s.stg p = 2 ∨ s.stg p = 3 by omega) with e | e | e | e
  · rw [if_neg (by omega)]; unfold DS.hd; rw [DS.step0 e]
  · rw [if_neg (by omega)]; unfold DS.hd; rw [DS.step1 e]
  · rw [if_neg (by omega)]; unfold DS.hd; rw [DS.step2 e]
  · unfold DS.hd
    rw [DS.step3 e]
    by_cases z : some 1 ∈ s.lev
    · rw [if_pos z, if_neg (by intro h; exact h.2.2 z)]
    · rw [if_neg z]
      show (s.heard.set p (s.cm s.two)).getD q none = _
      rw [getD_set]
      by_cases h : p = q
      · rw [if_pos ⟨h, by rw [W.lh]; exact hp⟩, if_pos ⟨h, e, z⟩]
      · rw [if_neg (fun h' => h h'.1), if_neg (fun h' => h h'.1)]
theorem closed_of (h : ∃ q, s.lv q = some 2) (n : some 1 ∉ s.lev) : s.Closed := ⟨h, fun p hp => absurd (mem_getD.mpr ⟨p, (DS.stg2.mp hp).1⟩) n⟩
theorem DS.Closed.step (c : s.Closed) (W : s.WF) (hc : s.cm p ≠ none) : (s.step p).Closed ∧ (s.step p).two = s.two := by
  have hp := DS.lt_of_cm W hc
  have hps : p < s.seen.length := by rw [W.ls]; exact hp
  have h4 := DS.stg_lt s p
  have k2 := DS.has2_step W hc c.1
  rcases (show s.stg p = 0 ∨ s.stg p = 1 ∨ s.stg p = 2 ∨ s.stg p = 3 by omega) with e | e | e | e
  · refine ⟨⟨k2, fun q hq => ?_⟩, DS.two_same DS.len_step fun q => ?_⟩
    · rw [DS.stg_step W hc] at hq
      have hne : p ≠ q := by intro z; rw [if_pos z, e] at hq; cases hq
      rw [if_neg hne] at hq
      unfold DS.saw; rw [DS.sn_stepN (by omega)]; exact c.2 q hq
    · rw [DS.lv_step0 e hp]; split
      · rename_i z; subst z; rw [DS.stg0.mp e]; simp
      · rfl
  · refine ⟨⟨k2, fun q hq => ?_⟩, DS.two_same DS.len_step fun q => by rw [DS.lv_step1 e]⟩
    rw [DS.stg_step W hc] at hq
    unfold DS.saw; rw [DS.sn_step1 e hps]
    by_cases z : p = q
    · rw [if_pos z]; exact decide_eq_true (mem_getD.mpr c.1)
    · rw [if_neg z] at hq ⊢; exact c.2 q hq
  · have sw := c.2 p e
    have ew : s.wr p = 0 := by unfold DS.wr; rw [if_pos sw]
    refine ⟨⟨k2, fun q hq => ?_⟩, DS.two_same DS.len_step fun q => ?_⟩
    · rw [DS.stg_step W hc] at hq
      have hne : p ≠ q := by intro z; rw [if_pos z, e] at hq; cases hq
      rw [if_neg hne] at hq
      unfold DS.saw; rw [DS.sn_stepN (by omega)]; exact c.2 q hq
    · rw [DS.lv_step2 e hp]; split
      · rename_i z; subst z; rw [ew, (DS.stg2.mp e).1]; simp
      · rfl
  · refine ⟨⟨k2, fun q hq => ?_⟩, DS.two_same DS.len_step fun q => by rw [DS.lv_step3 e]⟩
    rw [DS.stg_step W hc] at hq
    have hne : p ≠ q := by intro z; rw [if_pos z, e] at hq; cases hq
    rw [if_neg hne] at hq
    unfold DS.saw; rw [DS.sn_stepN (by omega)]; exact c.2 q hq
theorem DS.Closed.come (c : s.Closed) : (s.come p v).Closed ∧ (s.come p v).two = s.two := ⟨c, rfl⟩
theorem stg_out (W : s.WF) (h : s.cm p = none) : s.stg p = 0 := by
  refine DS.stg0.mpr ?_
  cases e : s.lv p with
  | none => rfl
  | some x => exact absurd h (W.cmv p (by rw [e]; simp))
end
/-! ### lists of players -/
def unV : V → Nat
  | .int i => i.toNat
  | _ => 0
theorem natV_perm {ys : List V} {R : List Nat} (h : ys.Perm (natV R)) : ∃ Y : List Nat, ys = natV Y ∧ Y.Perm R := by
  refine ⟨ys.map unV, ?_, ?_⟩
  · unfold natV
    rw [List.map_map]
    conv => lhs; rw [← List.map_id ys]
    refine List.map_congr_left fun x hx => ?_
    have := h.mem_iff.mp hx
    unfold natV at this
    obtain ⟨p, _, rfl⟩ := List.mem_map.mp this
    show V.int p = V.int ((unV (V.int p) : Nat) : Int)
    unfold unV
    simp
  · have := h.map unV
    refine this.trans ?_
    have e : (natV R).map unV = R := by
      unfold natV
      rw [List.map_map]
      conv => rhs; rw [← List.map_id R]
      refine List.map_congr_left fun x _ => ?_
      show unV (V.int x) = x
      unfold unV
      simp
    rw [e]
/-! ### a door and a pot -/
structure Dn (C : Addr) (H : Hp) (pt d : Addr) (s : DS) (m q : Nat) : Prop where
  door : DoorAt C H d s
  pot : PotAt H pt m
  dl : s.deeds.length ≤ q
section
variable {C : Addr} {H H' : Hp} {pt d D : Addr} {s s' : DS} {m m' q q' : Nat}
theorem Dn.ptd (S : Dn C H pt d s m q) : pt ≠ d := fun z => by
  obtain ⟨dx, fs, e⟩ := S.door.ins
  obtain ⟨xs, e2⟩ := S.pot.there
  rw [z, e] at e2; cases e2
theorem Dn.same (S : Dn C H pt d s m q) (g : Same H H') : Dn C H' pt d s m q := ⟨S.door.same g, S.pot.but (.of (S := []) g) (by simp), S.dl⟩
theorem Dn.take (S : Dn C H pt d s m q) (g : But [pt] H H') (hp : PotAt H' pt m') : Dn C H' pt d s m' q := ⟨S.door.but g fun x hx => by rw [List.mem_singleton.mp hx]; exact .inl S.pot.there, hp, S.dl⟩
theorem Dn.stepD (S : Dn C H pt d s m q) (g : But [d] H H') (hd : DoorAt C H' d s') (hl : s'.deeds.length ≤ q') : Dn C H' pt d s' m q' := ⟨hd, S.pot.but g (by simpa using S.ptd), hl⟩
theorem Dn.put {xs ys : List V} (S : Dn C H pt d s m q) (h : H D = some (.lst xs)) (n : D ≠ pt) : Dn C (upd H D (.lst ys)) pt d s m q := by
  have g : But [D] H (upd H D (.lst ys)) := (But.refl _ _).put (by simp)
  exact ⟨S.door.but g fun x hx => by rw [List.mem_singleton.mp hx]; exact .inl ⟨_, h⟩, S.pot.but g (by simpa using n.symm), S.dl⟩
theorem Dn.new (S : Dn C H pt d s m q) (h : H D = none) : D ≠ d ∧ D ≠ pt := ⟨fun z => (by obtain ⟨dx', fs, e⟩ := S.door.ins; rw [z, e] at h; cases h), fun z => S.pot.ne0 (by rw [← z]; exact h)⟩
theorem Dn.up (S : Dn C H pt d s m q) (hm : m ≤ m') (hq : q ≤ q') : Dn C H pt d s m' q' := ⟨S.door, S.pot.mono hm, Nat.le_trans S.dl hq⟩
end
/-- how often a place was asked from lap 8 on -/
def laps (e j i : Nat) : Nat := ((List.range i).filter fun l => decide (8 ≤ l ∧ l % e = j)).length
theorem laps_succ (e j i : Nat) : laps e j (i + 1) = laps e j i + if 8 ≤ i ∧ i % e = j then 1 else 0 := by
  unfold laps
  rw [List.range_succ, List.filter_append, List.length_append]
  congr 1
  by_cases h : 8 ≤ i ∧ i % e = j <;> simp [h]
theorem laps_20 : ∀ e, e ≤ 4 → ∀ j, j < e → 3 ≤ laps e j 20 := by decide
theorem word_data {dv : PyData} (ho : VOk 3 dv) : Sm 5 60 (.tuple [dv]) := (Sms.tup (.cons ho.sm (Sms.nil (n := 0)))).mono (by decide) (by decide)
theorem word_dp {K : PySem.W.Frag} {H0 H : Hp} {v : V} {dv : PyData} {t : Addr} (hv : VAt H0 v dv) (g : TK H0 H) (ht : H t = some (.tup [v])) : Dp K H (.ref t) (.tuple [dv]) := .tup (.of ht) (.cons (hv.mono g).dp .nil)
theorem sm_level {i : Int} (h0 : 0 ≤ i) (h2 : i ≤ 2) : Sm 6 100 (.tuple [.str "level", .int i]) := (Sms.tup (.cons (sm_word _ (by decide +kernel)) (.cons ((Sm.int (i := i) (by omega) (by omega)).mono (Nat.le_refl 1) (Nat.le_refl 0)) (Sms.nil (n := 0))))).mono (by decide) (by decide)
theorem sm_wait : Sm 6 100 (.tuple [.str "wait"]) := (Sms.tup (.cons (sm_word "wait" (by decide +kernel)) (Sms.nil (n := 0)))).mono (by decide) (by decide)
theorem sm_wordD {dv : PyData} (ho : VOk 3 dv) : Sm 6 100 (.tuple [.str "word", dv]) := (Sms.tup (.cons ((sm_word "word" (by decide +kernel)).mono (by decide : 1 ≤ 4) (Nat.le_refl 10)) (.cons ho.sm (Sms.nil (n := 0))))).mono (by decide) (by decide)
theorem DS.Closed.win {s : DS} (c : s.Closed) {w : Nat} (h : w = s.two ∨ (s.lv w = some 1 ∧ s.won w = true)) : w = s.two := by
  rcases h with h | ⟨h1, h2⟩
  · exact h
  · exfalso
    unfold DS.won at h2
    cases e : s.sn w with
    | none => rw [e] at h2; cases h2
    | some l =>
      rw [e] at h2
      have h2 : (!decide (some 2 ∈ l)) = true := h2
      have := c.2 w (DS.stg2.mpr ⟨h1, by rw [e]; simp⟩)
      unfold DS.saw at this
      rw [e] at this
      simp only [Option.getD_some] at this
      rw [this] at h2; cases h2
theorem DoorAt.heard {C : Addr} {H : Hp} {d : Addr} {s : DS} {K : PySem.W.Frag} (h : DoorAt C H d s) (hC : DC K C) : ∃ dx fs hv c, H d = some (.ins C dx fs) ∧ fs.lookup ("heard" : Str) = some (.ref c) ∧ TF H c hv ∧ Paired (One H) hv s.heard := by
  obtain ⟨dx, a, b, c, e, f, cv, hv, sv, dv, D⟩ := h
  exact ⟨dx, _, hv, c, D.obj, d_heard, D.heard, D.heardP⟩
theorem stg_keep {s : DS} {p q : Nat} (W : s.WF) (hc : s.cm p ≠ none) (h : p ≠ q) : (s.step p).stg q = s.stg q := by rw [DS.stg_step W hc, if_neg h]
theorem stg_self {s : DS} {p : Nat} (W : s.WF) (hc : s.cm p ≠ none) : (s.step p).stg p = min 3 (s.stg p + 1) := by rw [DS.stg_step W hc, if_pos rfl]
theorem hd_keep {s : DS} {p q : Nat} (W : s.WF) (hc : s.cm p ≠ none) (h : s.stg p ≠ 3 ∨ some 1 ∈ s.lev) : (s.step p).hd q = s.hd q := by
  rw [DS.hd_step W hc, if_neg]
  rintro ⟨_, a, b⟩
  rcases h with h | h
  · exact h a
  · exact b h
theorem hd_self {s : DS} {p : Nat} (W : s.WF) (hc : s.cm p ≠ none) (h : s.stg p = 3) (h1 : some 1 ∉ s.lev) : (s.step p).hd p = s.cm s.two := by rw [DS.hd_step W hc, if_pos ⟨rfl, h, h1⟩]
theorem lv_none_of {s : DS} {q : Nat} (h : s.stg q = 0 ∨ s.stg q = 3) : s.lv q ≠ some 1 := by
  rcases h with h | h
  · rw [DS.stg0.mp h]; simp
  · exact lv_of3 h
theorem told_lvl {H : Hp} {t : Addr} {i : Int} (h : ToldAt H t (.level i)) : H t = some (.tup [.str "level", .int i]) := h
theorem told_word {s : DS} {p : Nat} {v : V} (h : s.told p = .word v) : s.stg p = 3 ∧ some 1 ∉ s.lev ∧ v = (s.cm s.two).getD .non := by
  have h4 := DS.stg_lt s p
  rcases (show s.stg p = 0 ∨ s.stg p = 1 ∨ s.stg p = 2 ∨ s.stg p = 3 by omega) with z | z | z | z
  · rw [DS.told0 z] at h; cases h
  · rw [DS.told1 z] at h; cases h
  · rw [DS.told2 z] at h; cases h
  · rw [DS.told3 z] at h
    split at h
    · cases h
    · rename_i h1; injection h with h; exact ⟨z, h1, h.symm⟩
theorem cut_word (v : V) : cutV [V.str "word", v] (some 1) none = [v] := rfl
end Fp
/-! len(set(xs)), xs a list of texts that are all the same one -/
namespace Fp
open PySem PySem.Spec PyProof.Rows L2
/-- the set of the text z once something was put in -/
def onlyZ (z : Str) (i : Nat) (k : Str) : Bool := decide (0 < i ∧ k = z)
section
variable {prog : Program} {w : World} {A : Around} {R : Result → Shared → Prop} {I : Addr} {fp wr : List Addr} {G : Array GenState → Array GenState → Prop} {n : Nat} {P : Nat → Value → Prop} {St : Nat → Shared → Prop}
theorem SetOf_move {h h' : Heap} {a : Addr} {S : Str → Bool} {m : Nat} (e : ∀ o, h.get? a = some o → h'.get? a = some o) (hS : h.SetOf (PySem.strKind prog w) a S m) : h'.SetOf (PySem.strKind prog w) a S m := by
  obtain ⟨o, es, ep, t, ho, rest⟩ := hS
  exact ⟨o, es, ep, t, e _ ho, rest⟩
theorem onlyZ_add {h : Heap} {a : Addr} {z : Str} {i : Nat} (hS : h.SetOf (PySem.strKind prog w) a (fun k' => onlyZ z i k' || decide (k' = z)) (if onlyZ z i z = true then min i 1 else min i 1 + 1)) : h.SetOf (PySem.strKind prog w) a (onlyZ z (i + 1)) (min (i + 1) 1) := by
  refine SetOf_congr hS (fun k' => ?_) ?_
  · unfold onlyZ
    by_cases e : k' = z <;> by_cases c : 0 < i <;> simp [e, c]
  · unfold onlyZ
    by_cases c : 0 < i
    · rw [if_pos (by simp [c])]; omega
    · rw [if_neg (by simp [c])]; omega
/-- the putting in, from the i-th on -/
theorem fill_same (W : WalksS prog w A.in1 I fp wr G n P St) (D : Addr) (hD : D ∉ fp) (z : Str) (hv : ∀ i v, P i v → ∃ t, v = .str z t) (j : Nat) :
    ∀ (i : Nat) (s : Shared), i + j = n → St i s → s.heap.SetOf (PySem.strKind prog w) D (onlyZ z i) (min i 1) →
      (∀ s', Moved (D :: wr) G s s' → s'.heap.SetOf (PySem.strKind prog w) D (onlyZ z n) (min n 1) → R (.ok (.ret .none)) s') →
      codeAny (model prog w) A (.builtin "set.update.loop" ⟨[.ref D, .ref I], []⟩) R s := by
  have nw : D ∉ wr := fun h => hD (W.sub _ h)
  have more : ∀ b ∈ wr, b ∈ D :: wr := fun b hb => List.mem_cons_of_mem _ hb
  induction j with
  | zero =>
    intro i s hi st hS q
    obtain rfl : i = n := hi
    refine codeAny_builtin PyProof.Rows.F.entry_set_update_loop ?_
    rw [Around.under_plainId PyProof.Rows.F.plain_set_update_loop _]
    show wpAny _ A.in1 (pyNext (.ref I) >>= _) _ _ s
    refine wpAny_bind (W.done s _ _ st fun s' m => ?_)
    exact wpAny_pure (q s' (m.mono more) (SetOf_move (fun o e => m.heap D o nw e) hS))
  | succ j ih =>
    intro i s hi st hS q
    refine codeAny_builtin PyProof.Rows.F.entry_set_update_loop ?_
    rw [Around.under_plainId PyProof.Rows.F.plain_set_update_loop _]
    show wpAny _ A.in1 (pyNext (.ref I) >>= _) _ _ s
    refine wpAny_bind (W.item i s _ _ (by omega) st fun v s' pv st' m => ?_)
    obtain ⟨t, rfl⟩ := hv i v pv
    have hS' := SetOf_move (fun o e => m.heap D o nw e) hS
    refine wpAny_bind (wpAny_holding ?_)
    unfold setAdd
    refine wpAny_holding (wpAny_bind ((PySem.strKind prog w).pyHash (k := z) (strKind_is _ _ _ _) ?_))
    refine wpAny_setAddHashed_of (knd := PySem.strKind prog w) (s := { s' with toks := s'.toks + 1 }) (strKind_is _ _ _ _) rfl hS' (by unfold scanBound; omega) fun h' sb hS2 => ?_
    refine wpAny_pure ⟨plainId_quiet PyProof.Rows.F.plain_set_update_loop _, ih (i + 1) _ (by omega) (W.frame _ s' _ _ st' (Nat.le_succ _) fun b hb o e => ?_) (onlyZ_add hS2) fun s2 m2 hS3 => q s2 (Moved.trans W.gtrans ((m.mono more).then_heap (Nat.le_succ _) fun b o hb e => ?_) m2) hS3⟩
    · exact (sb.2 b fun (z : b = D) => hD (z ▸ hb)).trans e
    · exact (sb.2 b fun (z : b = D) => hb (by rw [z]; exact List.mem_cons_self)).trans e
end
section
variable {prog : Program} {w : World} {A : Around} {E : Value → Shared → Prop} {s : Shared}
/-- the set's object as it is made, empty -/
def setO (led : Bool) : Obj := { cls := .type "set", dict := none, data := .set #[] 0 (.fresh 0 0 led) }
set_option maxHeartbeats 3200000 in
theorem init_same {l : Addr} {its : Array Value} {z : Str} {led : Bool} (hh : A.handled = none) (hl : s.heap.IsList l its) (hz : ∀ v ∈ its.toList, ∃ t, v = .str z t) :
    codeAny (model prog w) A (.call (.builtin "set.__init__") ⟨[.ref s.heap.objs.size, .ref l], []⟩) (wants (fun r s₂ => r = .none ∧ ∃ h' tk, s₂ = { s with heap := h', toks := tk } ∧
      h'.SetOf (PySem.strKind prog w) s.heap.objs.size (onlyZ z its.size) (min its.size 1) ∧ (∀ b o, b < s.heap.objs.size → s.heap.get? b = some o → h'.get? b = some o)) E) { s with heap := s.heap.push (setO led) } := by
  have top : (s.heap.push (setO led)).get? s.heap.objs.size = some (setO led) := Heap.get?_push_size _ rfl
  have hT : Shared.TypeIs { s with heap := s.heap.push (setO led) } (.ref s.heap.objs.size) "set" := ⟨_, top, rfl⟩
  refine codeAny_call_builtin PySem.F.called_set.init.plain PySem.F.entry_set_init (check_set_init_1 hT ?_)
  obtain ⟨⟨cls, odict, odata, oslots⟩, hol, hcl, nl, hdl⟩ := hl
  simp only at hcl hdl
  subst hcl; subst hdl
  have hol' : (s.heap.push (setO led)).get? l = some { cls := .type "list", dict := odict, data := .seq its nl, slots := oslots } := Heap.get?_push_of_some _ hol
  have f1 := PySem.F.sub_list_set
  have f2 := PySem.F.sub_list_frozenset
  have f3 : (Value.type "list" == Value.type "dict") = false := by decide
  have hl1 : (s.heap.push (setO led)).IsList l its := ⟨_, hol', rfl, nl, rfl⟩
  have lt := Heap.lt_size hol
  unfold Builtin.«set.__init__» noKeywords Builtin.Frozenset.updateFrom
  generalize hPI : pyIter = PI
  wp_walk
  subst hPI
  refine wpAny_pyIter_list hl1 (wpAny_bind (wpAny_runValue ?_))
  have nI : l ≠ (s.heap.push (setO led)).objs.size := by rw [Heap.size_push]; exact Nat.ne_of_lt (Nat.lt_succ_of_lt lt)
  refine fill_same ((Walks.list (by simp [hh]) _ l nI its).toS) s.heap.objs.size ?_ z (fun i v e => hz v (Array.mem_toList_iff.mpr (Array.mem_of_getElem? e))) its.size 0 _ (Nat.zero_add _) ⟨⟨_, Heap.get?_push_size _ rfl, rfl, rfl⟩, (hl1.push _)⟩ ?_ ?_
  · rw [Heap.size_push]; simp only [List.mem_cons, List.mem_singleton, List.not_mem_nil, or_false, not_or]; exact ⟨Nat.ne_of_lt (Nat.lt_succ_self _), Nat.ne_of_gt lt⟩
  · exact SetOf_congr (n := 0) ((setObjOf_fresh (knd := PySem.strKind prog w) led).setOf (Heap.get?_push_of_some _ top) (by decide)) (fun k => by simp [onlyZ]) rfl
  · rintro ⟨h', g', d', tk', os'⟩ m hS
    obtain rfl : g' = s.gens := m.gens
    obtain rfl : d' = s.drawn := m.drawn
    obtain rfl : os' = s.os := m.os
    show wpAny _ _ _ _ _ _
    refine wpAny_pure ?_
    show wpAny _ _ (ret Value.none) _ _ _
    refine wpAny_pure ⟨rfl, h', tk', rfl, hS, fun b o hb e => m.heap b o ?_ (Heap.get?_push_of_some _ (Heap.get?_push_of_some _ e))⟩
    have b1 : b ≠ s.heap.objs.size := Nat.ne_of_lt hb
    have b2 : b ≠ (s.heap.push (setO led)).objs.size := by rw [Heap.size_push]; omega
    simp only [List.mem_cons, List.mem_singleton, List.not_mem_nil, or_false, not_or]
    exact ⟨b1, b2⟩
set_option maxHeartbeats 3200000 in
theorem call_set_same {l : Addr} {its : Array Value} {z : Str} {Q : Value → Shared → Prop} (hh : A.handled = none) (hl : s.heap.IsList l its) (hz : ∀ v ∈ its.toList, ∃ t, v = .str z t)
    (h : ∀ (h' : Heap) (tk : Nat), h'.SetOf (PySem.strKind prog w) s.heap.objs.size (onlyZ z its.size) (min its.size 1) → (∀ b o, b < s.heap.objs.size → s.heap.get? b = some o → h'.get? b = some o) → Q (.ref s.heap.objs.size) { s with heap := h', toks := tk }) :
    wpAny (model prog w) A (call (.type "set") [.ref l]) Q E s := by
  obtain ⟨c, tl, e1⟩ := PySem.F.called_set.mro
  have e2 := PySem.F.called_set.made
  have e3 := PySem.F.called_set.sub
  have e4 := PySem.F.called_set.notType
  have e5 := PySem.F.called_set.canCreate
  have e6 := PySem.F.typeCall_set_1 (.ref l)
  have e7 := PySem.F.called_set.init.lookup
  refine wpAny_call (codeAny_of_tree ?_)
  show wpAny _ _ (callAny (.type "set") _) _ _ _
  refine wpAny_pure ⟨Code.quiet_builtin _ (by decide +kernel), codeAny_builtin PySem.F.entry_type_call ?_⟩
  rw [Around.under_plain (weight_type_call_type "set" [.ref l] []) rfl]
  repeat (any_goals (first | assumption | wp_step))
  refine codeAny_mono (code_set_new_1 (.ref l) (E := E) (Q₁ := fun x s₁ => ∃ led : Bool, x = .ref s.heap.objs.size ∧ s₁ = { s with heap := s.heap.push (setO led) }) fun led => ⟨led, rfl, rfl⟩) fun r s₁ hr => ?_
  cases r with
  | error e => exact hr
  | ok fl =>
    cases fl with
    | ret x =>
      obtain ⟨led, rfl, rfl⟩ := hr
      have top : (s.heap.push (setO led)).get? s.heap.objs.size = some (setO led) := Heap.get?_push_size _ rfl
      have hT : Shared.TypeIs { s with heap := s.heap.push (setO led) } (.ref s.heap.objs.size) "set" := ⟨_, top, rfl⟩
      have e8 := PySem.F.called_set.init.bind (.ref s.heap.objs.size)
      repeat (any_goals (first | assumption | wp_step))
      refine codeAny_mono (init_same (A := A.in1) (E := E) (by simp [hh]) hl hz) fun r₂ s₂ hr₂ => ?_
      cases r₂ with
      | error e => exact hr₂
      | ok fl₂ =>
        cases fl₂ with
        | ret r =>
          obtain ⟨rfl, h', tk, rfl, hS, hk⟩ := hr₂
          repeat (any_goals (first | assumption | wp_step))
          exact h _ _ hS hk
        | _ => exact hr₂.elim
    | _ => exact hr.elim
end
section
variable {X : Cx}
theorem same_vals {z : Str} : ∀ {xs : List V} {us : List Value}, Vals xs us → (∀ x ∈ xs, x = .str z) → ∀ v ∈ us, ∃ t, v = .str z t
  | _, _, .nil, _ => fun v hv => absurd hv (by simp)
  | x :: xs, _, .cons r t, h => by
    have e := h x List.mem_cons_self
    subst e
    obtain ⟨k, rfl⟩ := r
    intro v hv
    rcases List.mem_cons.mp hv with e | hv
    · exact ⟨k, e⟩
    · exact same_vals t (fun y hy => h y (List.mem_cons_of_mem _ hy)) v hv
def tLenSame (K : PySem.W.Frag) (ta : TE) : TE := fun σ H Q => ta σ H fun x H1 => ∃ (l : Addr) (xs : List V) (z : Str), x = .ref l ∧ SqL K H1 l xs ∧ (∀ x ∈ xs, x = .str z) ∧ xs ≠ [] ∧ Q (.int 1) H1
theorem pe_lenSame {a : Expr} {ta : TE} {p p2 q pos : Pos} (hc : X.calm = true) (hg : Gl X "len") (hm : X.mg "len" = none) (hg2 : Gl X "set") (hm2 : X.mg "set" = none) (ha : PE X a ta)
    (na : starEach [a] X.env = (false, eval a X.env) :: starEach [] X.env := by rfl) : PE X (.Call (.Name "len" p) [.Call (.Name "set" p2) [a] [] q] [] pos) (tLenSame X.K ta) := by
  refine ⟨fun pins s σ H Q I h => Call_ (ld_blt I hg hm boot_len (callWith_builtin1 (args_cons (Call_ (ld_blt I hg2 hm2 boot_set (callWith_type1 (args_cons (thn (ha.run pins s σ H _ I h) fun v s1 ⟨x, H1, I1, r1, q1⟩ => args_nil ?_) na) na rfl))) rfl) rfl rfl))⟩
  obtain ⟨l, xs, z, rfl, hs, hx, hne, q1⟩ := q1
  cases r1
  obtain ⟨its, r, pl, hz⟩ := I1.list hs
  have one : min its.toArray.size 1 = 1 := by
    have : 0 < xs.length := List.length_pos_iff.mpr hne
    have := r.length
    rw [List.size_toArray]; omega
  refine call_set_same (I1.ok.hd hc) pl.isList (by simpa using same_vals r hx) fun h' tk hS hk => args_nil ?_
  rw [one] at hS
  obtain ⟨o, es, ep, t, ho, hex, hd, _, _, _, hf, hn⟩ := hS
  have I2 : Inv X pins σ H1 { s1 with heap := h', toks := tk } := I1.kept fun b o e => hk b o (Heap.lt_size e) e
  exact call_len_set ho hex hd hf (by rw [hn] <;> omega) ⟨.int 1, H1, I2.tok _, ⟨_, by rw [hn] <;> rfl⟩, q1⟩
end
end Fp
/-! set(xs), xs a list of integers; tuple(sorted(set(xs))) -/
namespace Fp
open PySem PySem.Spec PyProof.Rows L2
section
variable {prog : Program} {w : World} {A : Around} {E : Value → Shared → Prop} {s : Shared}
set_option maxHeartbeats 3200000 in
theorem init_ints {l : Addr} {its : Array Value} {ns : List Int} (hh : A.handled = none) (hl : s.heap.IsList l its) (hi : IntsAre its.toList ns) (hb : ns.length + 1 < scanBound) :
    codeAny (model prog w) A (.call (.builtin "set.__init__") ⟨[.ref s.heap.objs.size, .ref l], []⟩) (wants (fun r s₂ => r = .none ∧ ∃ h' tk c, s₂ = { s with heap := h', toks := tk } ∧
      SetR w h' s.heap.objs.size (fun j => decide (j ∈ ns)) c ∧ c ≤ ns.length ∧ (∀ b o, b < s.heap.objs.size → s.heap.get? b = some o → h'.get? b = some o)) E) { s with heap := s.heap.push (setO (!w.params.followText "set-order")) } := by
  generalize hled : (!w.params.followText "set-order") = led
  have top : (s.heap.push (setO led)).get? s.heap.objs.size = some (setO led) := Heap.get?_push_size _ rfl
  have hT : Shared.TypeIs { s with heap := s.heap.push (setO led) } (.ref s.heap.objs.size) "set" := ⟨_, top, rfl⟩
  have hsz : its.size = ns.length := by
    have q := hi.length
    rwa [Array.length_toList] at q
  refine codeAny_call_builtin PySem.F.called_set.init.plain PySem.F.entry_set_init (check_set_init_1 hT ?_)
  obtain ⟨⟨cls, odict, odata, oslots⟩, hol, hcl, nl, hdl⟩ := hl
  simp only at hcl hdl
  subst hcl; subst hdl
  have hol' : (s.heap.push (setO led)).get? l = some { cls := .type "list", dict := odict, data := .seq its nl, slots := oslots } := Heap.get?_push_of_some _ hol
  have f1 := PySem.F.sub_list_set
  have f2 := PySem.F.sub_list_frozenset
  have f3 : (Value.type "list" == Value.type "dict") = false := by decide
  have hl1 : (s.heap.push (setO led)).IsList l its := ⟨_, hol', rfl, nl, rfl⟩
  have lt := Heap.lt_size hol
  unfold Builtin.«set.__init__» noKeywords Builtin.Frozenset.updateFrom
  generalize hPI : pyIter = PI
  wp_walk
  subst hPI
  refine wpAny_pyIter_list hl1 (wpAny_bind (wpAny_runValue ?_))
  have nI : l ≠ (s.heap.push (setO led)).objs.size := by rw [Heap.size_push]; exact Nat.ne_of_lt (Nat.lt_succ_of_lt lt)
  refine set_update_ints ((Walks.list (by simp [hh]) _ l nI its).toS) s.heap.objs.size ?_ ns hsz hb (fun i v e => ?_) its.size 0 _ (Nat.sub_zero _) (Nat.zero_le _) ⟨⟨_, Heap.get?_push_size _ rfl, rfl, rfl⟩, (hl1.push _)⟩ ⟨0, Nat.le_refl 0, setR_new_at (w := w) ?_⟩ ?_
  · rw [Heap.size_push]; simp only [List.mem_cons, List.mem_singleton, List.not_mem_nil, or_false, not_or]; exact ⟨Nat.ne_of_lt (Nat.lt_succ_self _), Nat.ne_of_gt lt⟩
  · have hin : i < ns.length := by rw [← hsz]; exact (Array.getElem?_eq_some_iff.mp e).1
    obtain ⟨t, et⟩ := IntsAre.int_at hi i v (by rw [Array.getElem?_toList]; exact e)
    refine ⟨ns[i], t, List.getElem?_eq_getElem hin, ?_⟩
    rw [et, List.getD_eq_getElem?_getD, List.getElem?_eq_getElem hin] <;> rfl
  · rw [hled]
    exact Heap.get?_push_of_some _ top
  · rintro ⟨h', g', d', tk', os'⟩ c m hc hS
    obtain rfl : g' = s.gens := m.gens
    obtain rfl : d' = s.drawn := m.drawn
    obtain rfl : os' = s.os := m.os
    show wpAny _ _ _ _ _ _
    refine wpAny_pure ?_
    show wpAny _ _ (ret Value.none) _ _ _
    refine wpAny_pure ⟨rfl, h', tk', c, rfl, hS, by omega, fun b o hb e => m.heap b o ?_ (Heap.get?_push_of_some _ (Heap.get?_push_of_some _ e))⟩
    have b1 : b ≠ s.heap.objs.size := Nat.ne_of_lt hb
    have b2 : b ≠ (s.heap.push (setO led)).objs.size := by rw [Heap.size_push]; omega
    simp only [List.mem_cons, List.mem_singleton, List.not_mem_nil, or_false, not_or]
    exact ⟨b1, b2⟩
set_option maxHeartbeats 3200000 in
theorem call_set_ints {l : Addr} {its : Array Value} {ns : List Int} {Q : Value → Shared → Prop} (hh : A.handled = none) (hl : s.heap.IsList l its) (hi : IntsAre its.toList ns) (hb : ns.length + 1 < scanBound)
    (h : ∀ (h' : Heap) (tk c : Nat), SetR w h' s.heap.objs.size (fun j => decide (j ∈ ns)) c → c ≤ ns.length → (∀ b o, b < s.heap.objs.size → s.heap.get? b = some o → h'.get? b = some o) → Q (.ref s.heap.objs.size) { s with heap := h', toks := tk }) :
    wpAny (model prog w) A (call (.type "set") [.ref l]) Q E s := by
  obtain ⟨c, tl, e1⟩ := PySem.F.called_set.mro
  have e2 := PySem.F.called_set.made
  have e3 := PySem.F.called_set.sub
  have e4 := PySem.F.called_set.notType
  have e5 := PySem.F.called_set.canCreate
  have e6 := PySem.F.typeCall_set_1 (.ref l)
  have e7 := PySem.F.called_set.init.lookup
  refine wpAny_call (codeAny_of_tree ?_)
  show wpAny _ _ (callAny (.type "set") _) _ _ _
  refine wpAny_pure ⟨Code.quiet_builtin _ (by decide +kernel), codeAny_builtin PySem.F.entry_type_call ?_⟩
  rw [Around.under_plain (weight_type_call_type "set" [.ref l] []) rfl]
  repeat (any_goals (first | assumption | wp_step))
  refine codeAny_mono (code_set_led1 (.ref l) (E := E) (Q₁ := fun x s₁ => x = .ref s.heap.objs.size ∧ s₁ = { s with heap := s.heap.push (setO (!w.params.followText "set-order")) }) ⟨rfl, rfl⟩) fun r s₁ hr => ?_
  cases r with
  | error e => exact hr
  | ok fl =>
    cases fl with
    | ret x =>
      obtain ⟨rfl, rfl⟩ := hr
      have top : (s.heap.push (setO (!w.params.followText "set-order"))).get? s.heap.objs.size = some (setO (!w.params.followText "set-order")) := Heap.get?_push_size _ rfl
      have hT : Shared.TypeIs { s with heap := s.heap.push (setO (!w.params.followText "set-order")) } (.ref s.heap.objs.size) "set" := ⟨_, top, rfl⟩
      have e8 := PySem.F.called_set.init.bind (.ref s.heap.objs.size)
      repeat (any_goals (first | assumption | wp_step))
      refine codeAny_mono (init_ints (A := A.in1) (E := E) (by simp [hh]) hl hi hb) fun r₂ s₂ hr₂ => ?_
      cases r₂ with
      | error e => exact hr₂
      | ok fl₂ =>
        cases fl₂ with
        | ret r =>
          obtain ⟨rfl, h', tk, c, rfl, hS, hc, hk⟩ := hr₂
          repeat (any_goals (first | assumption | wp_step))
          exact h _ _ _ hS hc hk
        | _ => exact hr₂.elim
    | _ => exact hr.elim
end
theorem ints_vals : ∀ {ns : List Int} {us : List Value}, Vals (ns.map V.int) us → IntsAre us ns
  | [], _, .nil => .nil
  | n :: ns, _, .cons r t => by
    obtain ⟨k, rfl⟩ := r
    exact .cons n k (ints_vals t)
/-- set(xs) of a list of integers -/
def rSetI (K : PySem.W.Frag) (w : World) : List V → Hp → VK → Prop := fun xs H Q => ∃ (l : Addr) (ns : List Int), xs = [.ref l] ∧ SqL K H l (ns.map V.int) ∧ ns.length ≤ 1000 ∧ ∀ a c, c ≤ ns.length → H a = none → Q (.ref a) (upd H a (SetO w a (fun j => decide (j ∈ ns)) c))
section
variable {X : Cx}
theorem cr_setI (hc : X.calm = true) : CallR X (.type "set") (rSetI X.K X.w) := by
  intro pins s σ H xs us Q I r h
  obtain ⟨l, ns, rfl, hs, hl, q⟩ := h
  rw [Vals.ref1 r]
  obtain ⟨its, rv, pl, hz⟩ := I.list hs
  refine call_set_ints (ns := ns) (I.ok.hd hc) pl.isList (by simpa using ints_vals rv) (by unfold scanBound; omega) fun h' tk c hS hcl hk => ?_
  exact ⟨.ref s.heap.objs.size, _, I.laid (t' := tk) (fun b u e => hk b u (Heap.lt_size e) e) (Nat.le_refl _) (setO_new hS), rfl, q _ c hcl (I.hok.fresh (Nat.le_refl _))⟩
end
end Fp
/-! A stair of levels, as a plain thing -/
namespace Fp
open PySem PySem.Spec PyProof.Rows L2
theorem countP_same {α : Type} {f g : α → Bool} : ∀ {l : List α}, (∀ x ∈ l, f x = true → g x = true) → l.countP g ≤ l.countP f → ∀ x ∈ l, g x = true → f x = true
  | [], _, _, x, hx, _ => absurd hx (by simp)
  | a :: l, h, e, x, hx, hg => by
    have hm := List.countP_mono_left (l := l) fun y hy => h y (List.mem_cons_of_mem _ hy)
    have ha := h a List.mem_cons_self
    rw [List.countP_cons, List.countP_cons] at e
    by_cases fa : f a = true
    · have ga := ha fa
      rw [if_pos fa, if_pos ga] at e
      rcases List.mem_cons.mp hx with z | z
      · rw [z]; exact fa
      · exact countP_same (fun y hy => h y (List.mem_cons_of_mem _ hy)) (by omega) x z hg
    · rw [if_neg fa] at e
      by_cases ga : g a = true
      · rw [if_pos ga] at e; omega
      · rw [if_neg ga] at e
        rcases List.mem_cons.mp hx with z | z
        · rw [z] at hg; exact absurd hg ga
        · exact countP_same (fun y hy => h y (List.mem_cons_of_mem _ hy)) (by omega) x z hg
theorem countP_more {α : Type} [DecidableEq α] {f g : α → Bool} : ∀ {l : List α}, (∀ x ∈ l, f x = true → g x = true) → ∀ x ∈ l, f x = false → g x = true → l.countP f < l.countP g := fun {l} h x hx hf hg => by
  rcases Nat.lt_or_ge (l.countP f) (l.countP g) with z | z
  · exact z
  · have := countP_same h z x hx hg
    rw [hf] at this; cases this
theorem countP_range (n : Nat) (f : Nat → Bool) : (List.range n).countP f ≤ n := by
  have := List.countP_le_length (p := f) (l := List.range n)
  rwa [List.length_range] at this
inductive Due where
  | wr (l : Int) | look
structure LS where
  lev : List Lv
  vw : List (Option (List Nat))
  lk : List Bool
  run : List PyData
namespace LS
def new (n : Nat) : LS := ⟨List.replicate n none, List.replicate n none, List.replicate n false, []⟩
def n (s : LS) : Nat := s.lev.length
def lv (s : LS) (p : Nat) : Lv := s.lev.getD p none
def vi (s : LS) (p : Nat) : Option (List Nat) := s.vw.getD p none
def lo (s : LS) (p : Nat) : Bool := s.lk.getD p false
def le (a : Lv) (l : Int) : Bool := match a with
  | none => false
  | some x => decide (x ≤ l)
def below (s : LS) (l : Int) : List Nat := (List.range s.n).filter fun p => le (s.lv p) l
def next (s : LS) (p : Nat) : Option Due := if (s.vi p).isSome then none else if s.lo p then some .look else some (.wr (match s.lv p with
  | none => (s.n : Nat)
  | some l => l - 1))
def own (s : LS) (p : Nat) : Int := (s.lv p).getD 0
def seen (s : LS) (p : Nat) : Option (List Nat) := if s.own p ≤ (s.below (s.own p)).length then some (s.below (s.own p)) else none
def wrote (s : LS) (p : Nat) (l : Int) : LS := { s with lev := s.lev.set p (some l), lk := s.lk.set p true, run := s.run ++ [.tuple [.int (p : Nat), .str "write", .int l]] }
def looked (s : LS) (p : Nat) : LS := { s with vw := s.vw.set p (s.seen p), lk := s.lk.set p false, run := s.run ++ [.tuple [.int (p : Nat), .str "look", .tuple (s.lev.map lvD)]] }
def step (s : LS) (p : Nat) : LS := match s.next p with
  | none => s
  | some (.wr l) => s.wrote p l
  | some .look => s.looked p
/-- at l or below, or coming there -/
def inS (s : LS) (l : Nat) (p : Nat) : Bool := le (s.lv p) l
def inD (s : LS) (l : Nat) (p : Nat) : Bool := decide (s.lv p = some ((l : Int) + 1)) && !s.lo p && (s.vi p).isNone
structure WF (s : LS) : Prop where
  n1 : 1 ≤ s.n
  n5 : s.n ≤ 5
  lw : s.vw.length = s.n
  ll : s.lk.length = s.n
  rng : ∀ p l, s.lv p = some l → 1 ≤ l ∧ l ≤ s.n
  lkl : ∀ p, s.lo p = true → s.lv p ≠ none
  vil : ∀ p v, s.vi p = some v → ∃ l : Nat, s.lv p = some (l : Int) ∧ v = s.below l ∧ (s.below l).length = l
  vlk : ∀ p, s.vi p ≠ none → s.lo p = false
  few : ∀ l : Nat, l < s.n → (List.range s.n).countP (fun p => s.inS l p || s.inD l p) ≤ l
section
variable {s : LS} {p q : Nat} {l : Int}
theorem lv_new (n p : Nat) : (new n).lv p = none := DS.rep_none n p
theorem vi_new (n p : Nat) : (new n).vi p = none := DS.rep_none n p
theorem getB_set (l : List Bool) (p q : Nat) (x : Bool) : (l.set p x).getD q false = if p = q ∧ p < l.length then x else l.getD q false := by
  simp only [List.getD_eq_getElem?_getD, List.getElem?_set]
  by_cases h : p = q
  · subst h
    by_cases h2 : p < l.length
    · simp [h2]
    · have e : l[p]? = none := List.getElem?_eq_none (by omega)
      simp [h2, e]
  · simp [h]
theorem lo_new (n p : Nat) : (new n).lo p = false := by
  show (List.replicate n false).getD p false = false
  rw [List.getD_eq_getElem?_getD, List.getElem?_replicate]; split <;> rfl
theorem WF.new {n : Nat} (h1 : 1 ≤ n) (h5 : n ≤ 5) : (LS.new n).WF := by
  have hn : (LS.new n).n = n := by simp [LS.new, LS.n]
  refine ⟨by omega, by omega, by simp [LS.new, LS.n], by simp [LS.new, LS.n], ?_, ?_, ?_, ?_, fun l hl => ?_⟩
  · intro p l h; rw [lv_new] at h; cases h
  · intro p h; rw [lo_new] at h; cases h
  · intro p v h; rw [vi_new] at h; cases h
  · intro p h; rw [vi_new] at h; exact absurd rfl h
  · have : (List.range (LS.new n).n).countP (fun p => (LS.new n).inS l p || (LS.new n).inD l p) = 0 := by
      rw [List.countP_eq_zero]
      intro p _
      unfold inS inD
      rw [lv_new]
      simp [le]
    omega
theorem mem_below : q ∈ s.below l ↔ q < s.n ∧ le (s.lv q) l = true := by
  unfold below
  rw [List.mem_filter, List.mem_range]
theorem below_len : (s.below l).length = (List.range s.n).countP fun p => le (s.lv p) l := by
  unfold below
  rw [List.countP_eq_length_filter]
theorem le_some {x : Int} (h : s.lv q = some x) : le (s.lv q) l = decide (x ≤ l) := by rw [h]; rfl
theorem lt_of_lv {x : Int} (h : s.lv q = some x) : q < s.n := (getD_none_of h).1
theorem WF.below_le (W : s.WF) (l : Nat) (h : l ≤ s.n) : (s.below l).length ≤ l := by
  rw [below_len]
  by_cases e : l < s.n
  · refine Nat.le_trans (List.countP_mono_left fun x _ hx => ?_) (W.few l e)
    show (s.inS l x || s.inD l x) = true
    rw [show s.inS l x = true from hx]; rfl
  · have : l = s.n := by omega
    rw [this]; exact countP_range _ _
theorem n_wrote : (s.wrote p l).n = s.n := by simp [wrote, n]
theorem n_looked : (s.looked p).n = s.n := rfl
theorem n_step : (s.step p).n = s.n := by
  unfold step
  split
  · rfl
  · exact n_wrote
  · rfl
theorem lv_wrote (hp : p < s.n) : (s.wrote p l).lv q = if p = q then some l else s.lv q := by
  show (s.lev.set p (some l)).getD q none = _
  rw [getD_set]
  by_cases e : p = q
  · rw [if_pos ⟨e, hp⟩, if_pos e]
  · rw [if_neg (fun z => e z.1), if_neg e]; rfl
theorem vi_wrote : (s.wrote p l).vi q = s.vi q := rfl
theorem lo_wrote (W : s.WF) (hp : p < s.n) : (s.wrote p l).lo q = if p = q then true else s.lo q := by
  show (s.lk.set p true).getD q false = _
  rw [getB_set]
  by_cases e : p = q
  · rw [if_pos ⟨e, by rw [W.ll]; exact hp⟩, if_pos e]
  · rw [if_neg (fun z => e z.1), if_neg e]; rfl
theorem lv_looked : (s.looked p).lv q = s.lv q := rfl
theorem vi_looked (W : s.WF) (hp : p < s.n) : (s.looked p).vi q = if p = q then s.seen p else s.vi q := by
  show (s.vw.set p (s.seen p)).getD q none = _
  rw [getD_set]
  by_cases e : p = q
  · rw [if_pos ⟨e, by rw [W.lw]; exact hp⟩, if_pos e]
  · rw [if_neg (fun z => e z.1), if_neg e]; rfl
theorem lo_looked (W : s.WF) (hp : p < s.n) : (s.looked p).lo q = if p = q then false else s.lo q := by
  show (s.lk.set p false).getD q false = _
  rw [getB_set]
  by_cases e : p = q
  · rw [if_pos ⟨e, by rw [W.ll]; exact hp⟩, if_pos e]
  · rw [if_neg (fun z => e z.1), if_neg e]; rfl
theorem below_looked : (s.looked p).below l = s.below l := rfl
/-- nobody comes to a level where as many stand as can -/
theorem WF.full (W : s.WF) {l : Nat} (hl : (s.below l).length = l) (hr : l ≤ s.n) : ∀ q, q < s.n → s.inD l q = false := fun q hq => by
  cases z : s.inD l q with
  | false => rfl
  | true =>
    exfalso
    have hlv : s.lv q = some ((l : Int) + 1) := by
      unfold inD at z
      rw [Bool.and_eq_true, Bool.and_eq_true] at z
      exact of_decide_eq_true z.1.1
    have hle : le (s.lv q) l = false := by rw [le_some hlv]; exact decide_eq_false (by omega)
    have r := (W.rng q _ hlv).2
    have hf := W.few l (by omega)
    have := countP_more (l := List.range s.n) (f := fun p => le (s.lv p) l) (g := fun p => s.inS l p || s.inD l p) (fun x _ hx => by show (s.inS l x || _) = true; rw [show s.inS l x = true from hx]; rfl) q (List.mem_range.mpr hq) hle (by show (s.inS l q || s.inD l q) = true; rw [z]; simp)
    rw [← below_len, hl] at this
    omega
theorem WF.wrote (W : s.WF) (hp : p < s.n) (hv : s.vi p = none) (hk : s.lo p = false) (hl : match s.lv p with | none => l = (s.n : Nat) | some x => l = x - 1) : (s.wrote p l).WF := by
  have L := fun q => lv_wrote (s := s) (l := l) (q := q) hp
  have K := fun q => lo_wrote (l := l) (q := q) W hp
  have low : ∀ x, s.lv p = some x → 2 ≤ x := fun x hx => by
    have h1 := (W.rng p x hx).1
    rcases (show x = 1 ∨ 2 ≤ x by omega) with z | z
    · exfalso
      have hf := W.few 0 (by have := W.n1; omega)
      have hz : (List.range s.n).countP (fun p => s.inS 0 p || s.inD 0 p) = 0 := by omega
      rw [List.countP_eq_zero] at hz
      have := hz p (List.mem_range.mpr hp)
      refine this ?_
      unfold inD
      rw [hx, z, hk, hv]
      simp
    · exact z
  have lr : 1 ≤ l ∧ l ≤ s.n := by
    cases e : s.lv p with
    | none => rw [e] at hl; have := W.n1; simp only at hl; omega
    | some x => rw [e] at hl; have := low x e; have := (W.rng p x e).2; simp only at hl; omega
  -- p is counted only where it was counted
  have key : ∀ k : Nat, k < s.n → l ≤ k → s.inS k p = true ∨ s.inD k p = true := fun k hk' hlk => by
    cases e : s.lv p with
    | none => rw [e] at hl; simp only at hl; omega
    | some x =>
      rw [e] at hl
      simp only at hl
      by_cases z : x ≤ k
      · left; show le (s.lv p) k = true; rw [le_some e]; exact decide_eq_true z
      · right
        unfold inD
        rw [e, hk, hv, show x = (k : Int) + 1 by omega]
        simp
  refine ⟨by rw [n_wrote]; exact W.n1, by rw [n_wrote]; exact W.n5, by rw [n_wrote]; exact W.lw, by rw [n_wrote]; simp [LS.wrote, W.ll], fun q x hq => ?_, fun q hq => ?_, fun q v hq => ?_, fun q hq => ?_, fun k hk' => ?_⟩
  · rw [n_wrote]; rw [L] at hq
    split at hq
    · cases hq; exact lr
    · exact W.rng q x hq
  · rw [K] at hq; rw [L]
    split
    · simp
    · rename_i z; rw [if_neg z] at hq; exact W.lkl q hq
  · rw [vi_wrote] at hq
    obtain ⟨k, h1, h2, h3⟩ := W.vil q v hq
    have pq : p ≠ q := fun z => by rw [← z, hv] at hq; cases hq
    have hkn := (W.rng q _ h1).2
    have e : (s.wrote p l).below k = s.below k := by
      unfold below
      rw [n_wrote]
      refine List.filter_congr fun x hx => ?_
      rw [L]
      split
      · rename_i z
        subst z
        cases hb : le (s.lv p) k with
        | true =>
          cases e : s.lv p with
          | none => rw [e] at hb; cases hb
          | some y =>
            rw [le_some e] at hb
            have := of_decide_eq_true hb
            rw [e] at hl
            simp only at hl
            exact decide_eq_true (by omega)
        | false =>
          refine decide_eq_false fun hlk => ?_
          rcases Nat.lt_or_ge k s.n with c | c
          · have := W.full h3 (by omega) p hp
            rcases key k c (by omega) with w | w
            · have w : le (s.lv p) k = true := w
              rw [hb] at w; cases w
            · rw [this] at w; cases w
          · have kn : k = s.n := by omega
            rw [below_len] at h3
            have := countP_same (l := List.range s.n) (f := fun p => le (s.lv p) k) (g := fun _ => true) (fun _ _ _ => rfl) (by rw [h3, kn]; exact countP_range _ _) p (List.mem_range.mpr hp) rfl
            rw [hb] at this; cases this
      · rfl
    exact ⟨k, by rw [L, if_neg pq]; exact h1, by rw [e]; exact h2, by rw [e]; exact h3⟩
  · rw [vi_wrote] at hq
    rw [K, if_neg]
    · exact W.vlk q hq
    · intro z; rw [← z] at hq; exact hq hv
  · rw [n_wrote] at hk' ⊢
    refine Nat.le_trans (List.countP_mono_left fun x hx h => ?_) (W.few k hk')
    by_cases z : p = x
    · subst z
      have h1 : (s.wrote p l).inD k p = false := by unfold inD; rw [K, if_pos rfl]; simp
      rw [h1, Bool.or_false] at h
      have h : le ((s.wrote p l).lv p) k = true := h
      rw [L, if_pos rfl] at h
      have := of_decide_eq_true (show decide (l ≤ (k : Int)) = true from h)
      rcases key k hk' this with w | w <;> rw [w] <;> simp
    · have h1 : (s.wrote p l).inS k x = s.inS k x := by unfold inS; rw [L, if_neg z]
      have h2 : (s.wrote p l).inD k x = s.inD k x := by unfold inD; rw [L, if_neg z, K, if_neg z]; rfl
      rw [h1, h2] at h; exact h
theorem WF.looked (W : s.WF) (hp : p < s.n) (hk : s.lo p = true) : (s.looked p).WF := by
  have V := fun q => vi_looked (q := q) W hp
  have K := fun q => lo_looked (q := q) W hp
  have hv : s.vi p = none := by
    cases e : s.vi p with
    | none => rfl
    | some v => have := W.vlk p (by rw [e]; simp); rw [hk] at this; cases this
  obtain ⟨x, hx⟩ : ∃ x, s.lv p = some x := by
    cases e : s.lv p with
    | none => exact absurd e (W.lkl p hk)
    | some x => exact ⟨x, rfl⟩
  have ho : s.own p = x := by unfold own; rw [hx]; rfl
  obtain ⟨r1, r2⟩ := W.rng p x hx
  obtain ⟨k, rfl⟩ : ∃ k : Nat, x = k := ⟨x.toNat, by omega⟩
  refine ⟨W.n1, W.n5, by show (s.vw.set p _).length = _; rw [List.length_set]; exact W.lw, by show (s.lk.set p _).length = _; rw [List.length_set]; exact W.ll, W.rng, fun q hq => ?_, fun q v hq => ?_, fun q hq => ?_, fun j hj => ?_⟩
  · rw [K] at hq
    split at hq
    · cases hq
    · exact W.lkl q hq
  · rw [V] at hq
    by_cases z : p = q
    · rw [if_pos z] at hq
      subst z
      unfold seen at hq
      rw [ho] at hq
      split at hq
      · rename_i h
        cases hq
        have := W.below_le k (by omega)
        exact ⟨k, hx, rfl, by show (s.below k).length = k; omega⟩
      · cases hq
    · rw [if_neg z] at hq; exact W.vil q v hq
  · rw [K]
    split
    · rfl
    · rename_i z; rw [V, if_neg z] at hq; exact W.vlk q hq
  · have hj : j < s.n := hj
    show (List.range s.n).countP _ ≤ j
    have oth : ∀ q, p ≠ q → (s.looked p).inD j q = s.inD j q := fun q z => by unfold inD; rw [K, if_neg z, V, if_neg z]; rfl
    by_cases c : k = j + 1 ∧ s.seen p = none
    · obtain ⟨c1, c2⟩ := c
      have hb : (s.below (j + 1 : Nat)).length ≤ j := by
        unfold seen at c2
        rw [ho] at c2
        split at c2
        · cases c2
        · rename_i h; rw [← c1]; omega
      rw [below_len] at hb
      refine Nat.le_trans (List.countP_mono_left fun y hy h => ?_) hb
      rcases Bool.or_eq_true_iff.mp h with w | w
      · have w : le (s.lv y) j = true := w
        cases e : s.lv y with
        | none => rw [e] at w; cases w
        | some z => rw [e] at w; have := of_decide_eq_true (show decide (z ≤ (j : Int)) = true from w); exact decide_eq_true (by omega)
      · unfold inD at w
        rw [Bool.and_eq_true, Bool.and_eq_true] at w
        have := of_decide_eq_true w.1.1
        have this : s.lv y = some ((j : Int) + 1) := this
        rw [this]; exact decide_eq_true (by omega)
    · refine Nat.le_trans (List.countP_mono_left fun y hy h => ?_) (W.few j hj)
      rcases Bool.or_eq_true_iff.mp h with w | w
      · have w : s.inS j y = true := w
        rw [w]; rfl
      · by_cases z : p = y
        · subst z
          exfalso
          unfold inD at w
          rw [Bool.and_eq_true, Bool.and_eq_true] at w
          have h1 := of_decide_eq_true w.1.1
          have h1 : s.lv p = some ((j : Int) + 1) := h1
          rw [hx] at h1
          have h1 := Option.some.inj h1
          have h2 := w.2
          rw [V, if_pos rfl] at h2
          refine c ⟨by omega, ?_⟩
          cases e : s.seen p with
          | none => rfl
          | some v => rw [e] at h2; cases h2
        · rw [oth y z] at w; rw [w]; simp
theorem next_none : s.next p = none ↔ s.vi p ≠ none := by
  unfold next
  cases s.vi p with
  | none => simp; split <;> simp
  | some v => simp
theorem WF.step (W : s.WF) (hp : p < s.n) : (s.step p).WF := by
  unfold LS.step
  cases e : s.next p with
  | none => exact W
  | some du =>
    have hv : s.vi p = none := Classical.byContradiction fun z => by rw [next_none.mpr z] at e; cases e
    unfold LS.next at e
    rw [hv] at e
    simp only [Option.isSome_none, Bool.false_eq_true, if_false] at e
    cases hk : s.lo p with
    | true => rw [hk] at e; cases e; exact W.looked hp hk
    | false =>
      rw [hk] at e
      cases e
      refine W.wrote hp hv hk ?_
      cases s.lv p <;> rfl
/-- views stay -/
theorem vi_keep {v : List Nat} (W : s.WF) (hp : p < s.n) (h : s.vi q = some v) : (s.step p).vi q = some v := by
  unfold LS.step
  cases e : s.next p with
  | none => exact h
  | some du =>
    have hv : s.vi p = none := Classical.byContradiction fun z => by rw [next_none.mpr z] at e; cases e
    have pq : p ≠ q := fun z => by rw [z, h] at hv; cases hv
    cases du with
    | wr l => exact h
    | look => show (s.looked p).vi q = _; rw [vi_looked W hp, if_neg pq]; exact h
/-- how many steps one that goes on alone has still to do, at most -/
def left (s : LS) (p : Nat) : Int := if (s.vi p).isSome then 0 else match s.lv p with
  | none => 2 * (s.n : Nat)
  | some l => if s.lo p then 2 * l - 1 else 2 * l - 2
theorem left_step (W : s.WF) (hp : p < s.n) (h : s.vi p = none) : (s.step p).left p < s.left p ∧ 0 < s.left p := by
  have n1 := W.n1
  have e0 : s.left p = match s.lv p with
    | none => 2 * (s.n : Nat)
    | some l => if s.lo p then 2 * l - 1 else 2 * l - 2 := by unfold left; rw [h]; rfl
  unfold LS.step
  cases hk : s.lo p with
  | true =>
    have en : s.next p = some .look := by unfold next; rw [h, hk]; rfl
    rw [en]
    obtain ⟨x, hx⟩ : ∃ x, s.lv p = some x := by
      cases e : s.lv p with
      | none => exact absurd e (W.lkl p hk)
      | some x => exact ⟨x, rfl⟩
    have r := W.rng p x hx
    rw [hx, hk] at e0
    simp only [if_true] at e0
    rw [e0]
    show (s.looked p).left p < _ ∧ _
    refine ⟨?_, by omega⟩
    unfold left
    rw [vi_looked W hp, if_pos rfl, lo_looked W hp, if_pos rfl, lv_looked, hx]
    split
    · omega
    · simp only [Bool.false_eq_true, if_false]; omega
  | false =>
    cases hl : s.lv p with
    | none =>
      have en : s.next p = some (.wr (s.n : Nat)) := by unfold next; rw [h, hk, hl]; rfl
      rw [en]
      rw [hl] at e0
      simp only at e0
      rw [e0]
      show (s.wrote p (s.n : Nat)).left p < _ ∧ _
      refine ⟨?_, by omega⟩
      unfold left
      rw [vi_wrote, h, lo_wrote W hp, if_pos rfl, lv_wrote hp, if_pos rfl]
      simp only [Option.isSome_none, Bool.false_eq_true, if_false, if_true]
      omega
    | some x =>
      have en : s.next p = some (.wr (x - 1)) := by unfold next; rw [h, hk, hl]; rfl
      rw [en]
      rw [hl, hk] at e0
      simp only [Bool.false_eq_true, if_false] at e0
      rw [e0]
      have r := W.rng p x hl
      have x2 : 2 ≤ x := by
        rcases (show x = 1 ∨ 2 ≤ x by omega) with z | z
        · exfalso
          have hf := W.few 0 (by omega)
          have hz : (List.range s.n).countP (fun p => s.inS 0 p || s.inD 0 p) = 0 := by omega
          rw [List.countP_eq_zero] at hz
          refine hz p (List.mem_range.mpr hp) ?_
          unfold inD
          rw [hl, z, hk, h]
          simp
        · exact z
      show (s.wrote p (x - 1)).left p < _ ∧ _
      refine ⟨?_, by omega⟩
      unfold left
      rw [vi_wrote, h, lo_wrote W hp, if_pos rfl, lv_wrote hp, if_pos rfl]
      simp only [Option.isSome_none, Bool.false_eq_true, if_false, if_true]
      omega
theorem left_top (W : s.WF) : s.left p ≤ 2 * (s.n : Nat) := by
  unfold left
  split
  · omega
  · split
    · omega
    · rename_i l hl
      have := W.rng p l hl
      split <;> omega
/-- a view has its own hand, and all elder views, if the hand was fresh -/
theorem WF.self (W : s.WF) {v : List Nat} (h : s.vi p = some v) : p ∈ v := by
  obtain ⟨l, h1, h2, _⟩ := W.vil p v h
  rw [h2]
  exact mem_below.mpr ⟨lt_of_lv h1, by rw [le_some h1]; exact decide_eq_true (Int.le_refl _)⟩
theorem WF.elder (W : s.WF) {s0 : LS} (W0 : s0.WF) {v w : List Nat} (hf : s0.lv p = none) (h : s.vi p = some v) (hq : s.vi q = some w) (hq0 : s0.vi q = some w) : ∀ x ∈ w, x ∈ v := by
  obtain ⟨l, h1, h2, _⟩ := W.vil p v h
  obtain ⟨k, k1, k2, _⟩ := W.vil q w hq
  obtain ⟨k0, j1, j2, _⟩ := W0.vil q w hq0
  have hpw : p ∉ w := fun z => by
    rw [j2] at z
    have := (mem_below.mp z).2
    rw [hf] at this; cases this
  have hkl : k ≤ l := by
    rcases Nat.lt_or_ge l k with z | z
    · exfalso
      refine hpw ?_
      rw [k2]
      exact mem_below.mpr ⟨lt_of_lv h1, by rw [le_some h1]; exact decide_eq_true (by omega)⟩
    · exact z
  intro x hx
  rw [k2] at hx
  obtain ⟨a, b⟩ := mem_below.mp hx
  rw [h2]
  refine mem_below.mpr ⟨a, ?_⟩
  cases e : s.lv x with
  | none => rw [e] at b; cases b
  | some y => rw [e] at b; have := of_decide_eq_true (show decide (y ≤ (k : Int)) = true from b); exact decide_eq_true (by omega)
end
end LS
end Fp
/-! len of an object with an own __len__; data that stays, whatever lists change; C(k = v) -/
namespace Fp
open PySem PySem.Spec PyProof.Rows L2
structure LenC (P : Program) (w : World) (K : PySem.W.Frag) (mg : Str → Option Value) (base : Heap) (C : Addr) (n : Nat) (ps : List Str) (sp : Sp) : Prop where
  ex : ∃ (f : Addr) (fd : FuncData), PySem.W.findIn K (.ref C) "__len__" = some (some (.ref f)) ∧ PySem.W.isFn K (.ref f) = true ∧ Binds K fd ps [] ∧ FnOk P w K mg base CX0 n f fd ps sp
def rLenO (C : Addr) (sp : Sp) : List V → Hp → VK → Prop := fun xs H Q => ∃ (a dx : Addr) (fs : List (Str × V)), xs = [.ref a] ∧ H a = some (.ins C dx fs) ∧ sp [.ref a] H (fun v H' => ∃ n : Nat, v = .int n ∧ n < 2 ^ 62 ∧ Q (.int n) H') E0
section
variable {X : Cx} {C : Addr} {n : Nat} {ps : List Str} {sp : Sp}
theorem call_lenO (M : LenC X.prog X.w X.K X.mg X.base C n ps sp) (hr : Room (n + 1) X.A) : CallR X (.builtin "len") (rLenO C sp) := by
  intro pins s σ H xs us Q I r h
  obtain ⟨a, dx, fs, rfl, ha, q⟩ := h
  rw [Vals.ref1 r]
  obtain ⟨f, fd, hs, hf, hb, F⟩ := M.ex
  obtain ⟨mA, J, _⟩ := ins_get I.hok ha
  obtain ⟨od, J, _⟩ := J.look
  obtain ⟨m, hF⟩ := I.fr
  refine PySem.W.len_K hF I.ok.mod.kin J hs hf ?_
  have e0 : Env0 X.prog X.w X.K X.mg X.base X.A.in1 X.stack s H := I.env0.in1
  have r2 : Vals ([V.ref a] ++ []) ([Value.ref a] ++ []) := Vals.append (.cons rfl .nil) .nil
  have hsp : sp ([V.ref a] ++ []) H (fun v H' => ∃ n : Nat, v = .int n ∧ n < 2 ^ 62 ∧ Q (.int n) H') E0 := q
  have hl : ([Value.ref a] ++ []).length = ps.length := by rw [← r2.length]; exact F.len _ _ _ _ hsp
  refine wpAny_call (codeAny_mono (F.run X.A.in1 X.stack s H ⟨[.ref a], []⟩ _ _ _ E0 hr.in1 e0 (hb s [.ref a] I.kIn hl) r2 hsp) fun r s' hq => ?_)
  cases r with
  | error e => exact pass0 pins σ H s e s' I hq
  | ok fl =>
    cases fl with
    | ret u =>
      obtain ⟨v, H', I', rv, k, rfl, hk, q'⟩ := I.after hq
      obtain ⟨t, rfl⟩ := rv
      exact ⟨⟨by omega, by omega⟩, .int k, H', I'.tok _, ⟨_, rfl⟩, q'⟩
    | next => exact False.elim hq
    | brk => exact False.elim hq
    | cont => exact False.elim hq
end
/-! ### C(k = v) -/
structure MkK (P : Program) (w : World) (K : PySem.W.Frag) (mg : Str → Option Value) (base : Heap) (x : Str) (C : Addr) (k : Nat) (ps ks : List Str) (sp : Sp) : Prop where
  at_ : mg x = some (.ref C)
  ex : ∃ (f : Addr) (fd : FuncData), Mk K C f ∧ KBn K fd ps 1 ks (fun us ws => us ++ ws) (fun vs zs => vs ++ zs) ∧ FnOk P w K mg base CX0 k f fd ps sp
section
variable {X : Cx} {x : Str} {k : Nat} {ps ks : List Str} {sp : Sp} {C : Addr} {kws : List Keyword} {tk : TA} {p pos : Pos}
theorem pe_mkK (M : MkK X.prog X.w X.K X.mg X.base x C k ps ks sp) (hr : Room (k + 1) X.A) (hg : Gl X x) (hkw : PK X kws tk)
    (hall : (backToKw pos (keywordEach kws X.env)).all (·.1.isSome) = true := by rfl) (hks : (backToKw pos (keywordEach kws X.env)).filterMap (·.1) = ks := by rfl) (hdb : (x == ("__debug__" : Str)) = false := by decide)
    (hpl : ((backTo pos (starEach [] X.env)).any (·.1) || (backToKw pos (keywordEach kws X.env)).any (·.1.isNone)) = false := by rfl) :
    PE X (.Call (.Name x p) [] kws pos) (tMakeK C 0 ks.length sp (fun vs zs => vs ++ zs) E0 tNil tk) := by
  obtain ⟨f, fd, h1, h2, h3⟩ := M.ex
  exact pe_makeK0 h1 h3 hr hg M.at_ h2 pass0 hkw hall hks hdb hpl
end
/-! ### data that stays -/
def SD (K : PySem.W.Frag) (H : Hp) (x : V) (d : PyData) : Prop := ∀ H', TK H H' → Dp K H' x d
section
variable {K : PySem.W.Frag} {H H' : Hp} {x v : V} {d dv : PyData} {t : Addr} {xs : List V} {ds : List PyData}
theorem SD.mono (h : SD K H x d) (g : TK H H') : SD K H' x d := fun _ g2 => h _ (g.trans g2)
theorem SDs.mono (h : Paired (SD K H) xs ds) (g : TK H H') : Paired (SD K H') xs ds := pr_imp (fun _ _ h => SD.mono h g) h
theorem SDs.dp : ∀ {xs : List V} {ds : List PyData}, Paired (SD K H) xs ds → DpAll K H xs ds
  | _, _, .nil => .nil
  | _, _, .cons a b => .cons (a _ (.refl _)) (SDs.dp b)
theorem sd_tup (h : H t = some (.tup xs)) (a : Paired (SD K H) xs ds) : SD K H (.ref t) (.tuple ds) := fun _ g => .tup (.of (g.t h)) (SDs.dp (SDs.mono a g))
theorem sd_int (i : Int) : SD K H (.int i) (.int i) := fun _ _ => .int i
theorem sd_str (z : Str) : SD K H (.str z) (.str z) := fun _ _ => .str z
theorem sd_non : SD K H .non .none := fun _ _ => .non
theorem sd_val (h : VAt H v dv) : SD K H v dv := fun _ g => (h.mono g).dp
/-- what is told, as data, the word's being dv -/
def tdD (dv : PyData) : Told → PyData
  | .level i => .tuple [.str "level", .int i]
  | .look l => .tuple [.str "look", .tuple (l.map lvD)]
  | .wait => .tuple [.str "wait"]
  | .word _ => .tuple [.str "word", dv]
theorem sd_lv : ∀ l : List Lv, Paired (SD K H) (l.map lvV) (l.map lvD)
  | [] => .nil
  | none :: l => .cons sd_non (sd_lv l)
  | some i :: l => .cons (sd_int i) (sd_lv l)
theorem sd_told {x : Told} (h : ToldAt H t x) (hw : ∀ v, x = .word v → VAt H v dv) : SD K H (.ref t) (tdD dv x) := by
  cases x with
  | level i => exact sd_tup h (.cons (sd_str _) (.cons (sd_int _) .nil))
  | look l =>
    obtain ⟨q, a, b⟩ := h
    intro H' g
    exact .tup (.of (g.t a)) (.cons (.str _) (.cons (.tup (g.tt b).sq (SDs.dp (sd_lv l))) .nil))
  | wait => exact sd_tup h (.cons (sd_str _) .nil)
  | word v => exact sd_tup h (.cons (sd_str _) (.cons (sd_val (hw v rfl)) .nil))
end
/-- how many steps were done -/
def DS.stps (s : DS) : Nat := (s.deeds.filter (·.stp)).length
def spDLen (C : Addr) : Sp := fun vs H Q _ => ∃ (d : Addr) (s : DS), vs = [.ref d] ∧ DoorAt C H d s ∧ s.deeds.length < 100000 ∧ ∀ H', Same H H' → Q (.int (s.stps : Nat)) H'
end Fp
namespace Fp
open PySem PySem.Spec PyProof.Rows L2
/-! ### steps one by one -/
section
variable {C : Addr} {H H1 H2 : Hp} {d : Addr} {s : DS} {c h : List (Option V)} {l : List Lv} {sn : List (Option (List Lv))} {ds : List Deed} {p n m : Nat} {x : V}
theorem nx_step (e1 : ds.length = n) (e2 : (ds.filter (·.stp)).length = m) (D : DoorAt C H d (DS.mk c l h sn (ds ++ [⟨true, p, x⟩]))) :
    ∃ ds' : List Deed, ds'.length = n + 1 ∧ (ds'.filter (·.stp)).length = m + 1 ∧ DoorAt C H d ⟨c, l, h, sn, ds'⟩ := ⟨_, by rw [List.length_append, e1]; rfl, by rw [List.filter_append, List.length_append, e2]; rfl, D⟩
theorem nx_come (e1 : ds.length = n) (e2 : (ds.filter (·.stp)).length = m) (D : DoorAt C H d (DS.mk c l h sn (ds ++ [⟨false, p, x⟩]))) :
    ∃ ds' : List Deed, ds'.length = n + 1 ∧ (ds'.filter (·.stp)).length = m ∧ DoorAt C H d ⟨c, l, h, sn, ds'⟩ := ⟨_, by rw [List.length_append, e1]; rfl, by rw [List.filter_append, List.length_append, e2]; rfl, D⟩
theorem Same.into {H0 : Hp} (F : Same H0 H1) (g : But [d] H1 H2) (hd : H0 d = none) : Same H0 H2 := fun b o e => g b o (by
  rw [List.mem_singleton]
  intro z
  rw [z, hd] at e
  cases e) (F b o e)
end
theorem SD.now {K : PySem.W.Frag} {H : Hp} {x : V} {d : PyData} (h : SD K H x d) : Dp K H x d := h H (.refl _)
theorem Same.gone {H H1 : Hp} {a : Addr} (F : Same H H1) (h : H1 a = none) : H a = none := by
  cases e : H a with
  | none => rfl
  | some o => rw [F a o e] at h; cases h
theorem Same.put {H H1 : Hp} {a : Addr} {o : HO} (F : Same H H1) (h : H a = none) : Same H (upd H1 a o) := fun b u e => by
  rw [upd_ne (fun z => by rw [z, h] at e; cases e)]; exact F b u e
theorem pr_append {α β : Type} {F : α → β → Prop} : ∀ {l l' : List α} {m m' : List β}, Paired F l m → Paired F l' m' → Paired F (l ++ l') (m ++ m')
  | _, _, _, _, .nil, h => h
  | _, _, _, _, .cons a r, h => .cons a (pr_append r h)
theorem pr_two {α β : Type} {F : α → β → Prop} {l : List α} {a b : β} (h : Paired F l [a, b]) : ∃ x y, l = [x, y] ∧ F x a ∧ F y b := by
  cases h with
  | cons h1 t => cases t with
    | cons h2 t => cases t; exact ⟨_, _, rfl, h1, h2⟩
/-- one player alone, at 2, step by step -/
def lateS (v : V) : Nat → List Deed → DS
  | 0, ds => ⟨[none, none, some v], [none, none, none], [none, none, none], [none, none, none], ds⟩
  | 1, ds => ⟨[none, none, some v], [none, none, some 1], [none, none, none], [none, none, none], ds⟩
  | 2, ds => ⟨[none, none, some v], [none, none, some 1], [none, none, none], [none, none, some [none, none, some 1]], ds⟩
  | 3, ds => ⟨[none, none, some v], [none, none, some 2], [none, none, none], [none, none, some [none, none, some 1]], ds⟩
  | _, ds => ⟨[none, none, some v], [none, none, some 2], [none, none, some v], [none, none, some [none, none, some 1]], ds⟩
def lateT (v : V) : Nat → Told
  | 0 => .level 1
  | 1 => .look [none, none, some 1]
  | 2 => .level 2
  | _ => .word v
theorem late_step (v : V) (i : Nat) (ds : List Deed) (hi : i < 4) : (lateS v i ds).cm 2 ≠ none ∧ (lateS v i ds).told 2 = lateT v i ∧ (lateS v i ds).deeds = ds ∧ ∃ x, (lateS v i ds).step 2 = lateS v (i + 1) (ds ++ [⟨true, 2, x⟩]) := by
  rcases (show i = 0 ∨ i = 1 ∨ i = 2 ∨ i = 3 by omega) with rfl | rfl | rfl | rfl <;> exact ⟨fun z => (nomatch (show some v = none from z)), rfl, rfl, _, rfl⟩
theorem late_word {v x : V} {i : Nat} (hi : i < 4) (h : lateT v i = .word x) : x = v := by
  rcases (show i = 0 ∨ i = 1 ∨ i = 2 ∨ i = 3 by omega) with rfl | rfl | rfl | rfl <;> first | (cases h; done) | (injection h with h; exact h.symm)
theorem Sms.list {k n m : Nat} {ds : List PyData} (h : ∀ d ∈ ds, Sm k n d) (hm : (n + 1) * ds.length ≤ m) : Sm (k + 1) m (.list ds) := (Sms.all h).lst.mono (Nat.le_refl _) hm
theorem sm_td {dv : PyData} (ho : VOk 3 dv) (x : Told) (h : ∀ i, x = .level i → 0 ≤ i ∧ i ≤ 2) (hl : ∀ l, x = .look l → l.length ≤ 5 ∧ ∀ i, some i ∈ l → 0 ≤ i ∧ i ≤ 2) : Sm 6 100 (tdD dv x) := by
  cases x with
  | level i => exact sm_level (h i rfl).1 (h i rfl).2
  | look l =>
    have := hl l rfl
    exact (Sms.tup (.cons ((sm_word "look" (by decide +kernel)).mono (by decide : 1 ≤ 2) (Nat.le_refl 10)) (.cons (lv_sms this.2 this.1).tup (Sms.nil (n := 0))))).mono (by decide) (by decide)
  | wait => exact sm_wait
  | word v => exact sm_wordD ho
end Fp
/-! k35: the last two turned about; what deeds are as data; shown texts that differ -/
namespace Fp
open PySem PySem.Spec PyProof.Rows L2
theorem pick2 (its : List Value) (n : Nat) (a b : Value) (hn : its.length = n + 2) (ha : its[n + 1]? = some a) (hb : its[n]? = some b) : slicePick its.toArray none (some (-3)) (some (-1)) = #[a, b] := by
  unfold slicePick
  have hs : its.toArray.size = n + 2 := by simpa using hn
  have e : sliceBounds none (some (-3)) (some (-1)) its.toArray.size = ((n : Int) + 1, (n : Int) - 1, -1) := by
    rw [hs]
    unfold sliceBounds
    simp only [Option.getD_some, show ¬ ((-1 : Int) > 0) by decide, if_false, show ((-3 : Int) < 0) by decide, if_true]
    refine Prod.ext ?_ (Prod.ext ?_ rfl)
    · show ((n + 2 : Nat) : Int) - 1 = (n : Int) + 1; omega
    · show max (-1) (min (-3 + ((n + 2 : Nat) : Int)) (((n + 2 : Nat) : Int) - 1)) = (n : Int) - 1; omega
  rw [e]
  have r : sliceRange ((n : Int) + 1) ((n : Int) - 1) (-1) = [n + 1, n] := by
    unfold sliceRange
    have h : (n : Int) + 1 > (n : Int) - 1 := by omega
    have c : ((n : Int) + 1 - ((n : Int) - 1) - -1 - 1) / (- -1) = 2 := by
      rw [show (- -1 : Int) = 1 by decide, Int.ediv_one]; omega
    simp only [show ¬ ((-1 : Int) > 0) by decide, if_false, h, if_true, c]
    show [(((n : Int) + 1 + -1 * ((0 : Nat) : Int))).toNat, (((n : Int) + 1 + -1 * ((1 : Nat) : Int))).toNat] = _
    rw [show ((n : Int) + 1 + -1 * ((0 : Nat) : Int)).toNat = n + 1 by omega, show ((n : Int) + 1 + -1 * ((1 : Nat) : Int)).toNat = n by omega]
  show ((sliceRange ((n : Int) + 1) ((n : Int) - 1) (-1)).filterMap (its.toArray[·]?)).toArray = _
  rw [r]
  simp [ha, hb]
def tLast2 (K : PySem.W.Frag) (te : TE) : TE := fun σ H Q => te σ H fun x H1 => ∃ a xs u v, x = .ref a ∧ SqL K H1 a (xs ++ [u, v]) ∧ ∀ p, H1 p = none → Q (.ref p) (upd H1 p (.lst [v, u]))
section
variable {X : Cx}
theorem pe_last2 {e : Expr} {te : TE} {k k2 : Nat} {p1 p2 p3 p4 p5 pos : Pos} (he : PE X e te) : PE X (.Subscript e (.Slice none (some (.UnaryOp .USub (.Constant (.int 3) k2 p4) p5)) (some (.UnaryOp .USub (.Constant (.int 1) k p1) p2)) p3) pos) (tLast2 X.K te) := by
  refine ⟨fun pins s σ H Q I h => ?_⟩
  refine Subscript_ (thn (he.run pins s σ H _ I h) fun v s1 ⟨x, H1, I1, r1, q1⟩ => ?_)
  obtain ⟨a, xs, u1, v1, ex, hx, q⟩ := q1
  subst ex
  cases r1
  have hst : PO X (some (.UnaryOp .USub (.Constant (.int 1) k p1) p2)) (tPart (tUn (rU fun i => .int (-i)) (tC (.int 1)))) := po_some (pe_un un_neg pe_int)
  have hst3 : PO X (some (.UnaryOp .USub (.Constant (.int 3) k2 p4) p5)) (tPart (tUn (rU fun i => .int (-i)) (tC (.int 3)))) := po_some (pe_un un_neg pe_int)
  refine wpAny_Slice (thn (po_none.run pins s1 σ H1 (fun o H2 => o = none ∧ H2 = H1) I1 ⟨rfl, rfl⟩) fun vl s2 ⟨l, H2, I2, pl, el, e2⟩ => ?_)
  subst el e2
  refine thn (hst3.run pins s2 σ H2 (fun o H3 => o = some (-3) ∧ H3 = H2) I2 ⟨3, rfl, -3, rfl, rfl, rfl⟩) fun vu s3 ⟨u, H3, I3, pu, eu, e3⟩ => ?_
  subst eu e3
  refine thn (hst.run pins s3 σ H3 (fun o H4 => o = some (-1) ∧ H4 = H3) I3 ⟨1, rfl, -1, rfl, rfl, rfl⟩) fun vs s4 ⟨o, H4, I4, ps, eo, e4⟩ => ?_
  subst eo e4
  have I5 : Inv X pins σ H4 { s4 with heap := s4.heap.push { cls := .type "slice", data := .fields #[vl, vu, vs] } } := I4.kept (t' := s4.toks) fun b ob q => Heap.get?_push_of_some _ q
  obtain ⟨its, r, ht, hz⟩ := I5.list hx
  have hlen := r.length
  rw [List.length_append] at hlen
  have hl2 : its.length = xs.length + 2 := hlen.symm
  show wpAny (model X.prog X.w) X.A (subscriptTail e (.Slice none (some (.UnaryOp .USub (.Constant (.int 3) k2 p4) p5)) (some (.UnaryOp .USub (.Constant (.int 1) k p1) p2)) p3) (.ref a) (.ref s4.heap.objs.size)) (EP X pins σ Q) X.xe { s4 with heap := s4.heap.push { cls := .type "slice", data := .fields #[vl, vu, vs] } }
  refine tail_any (ops := [.ref a, .ref s4.heap.objs.size]) ht.isList.typeIs (PySem.slot_list_getitem.lookup) ?_ (by with_unfolding_all rfl)
  refine wpAny_getItem_list_slice ht.isList (Heap.IsSliceOf.new _ vl vu vs) pl pu ps (by decide) ?_ (by rw [List.size_toArray]; rw [List.length_append] at hz; omega)
  obtain ⟨w1, hw1, rw1⟩ := r.get (i := xs.length + 1) (x := v1) (by rw [List.getElem?_append_right (by omega), show xs.length + 1 - xs.length = 1 by omega]; rfl)
  obtain ⟨w2, hw2, rw2⟩ := r.get (i := xs.length) (x := u1) (by rw [List.getElem?_append_right (by omega), Nat.sub_self]; rfl)
  rw [pick2 its xs.length w1 w2 hl2 hw1 hw2]
  refine ⟨.ref _, _, I5.laid (t' := s4.toks) (o := .lst [v1, u1]) (fun b ob q => Heap.get?_push_of_some _ q) (Nat.le_refl _) ?_, rfl, q _ (I5.hok.fresh (Nat.le_refl _))⟩
  exact ⟨by show 2 ≤ sizeLine; decide, _, 0, .cons rw1 (.cons rw2 .nil), Heap.get?_push_size _ rfl⟩
end
/-! ### deeds -/
theorem DS.step_deeds (s : DS) (p : Nat) : (s.step p).deeds = s.deeds ++ [⟨true, p, .str (DS.kindOf (s.stg p))⟩] := by
  have h4 := DS.stg_lt s p
  rcases (show s.stg p = 0 ∨ s.stg p = 1 ∨ s.stg p = 2 ∨ s.stg p = 3 by omega) with e | e | e | e
  · rw [DS.step0 e, e]; rfl
  · rw [DS.step1 e, e]; rfl
  · rw [DS.step2 e, e]; rfl
  · rw [DS.step3 e, e]; split <;> rfl
structure DS.DOk (s : DS) : Prop where
  hok : ∀ q x, s.hd q = some x → ∃ r, s.cm r = some x
  dcm : ∀ d ∈ s.deeds, d.stp = false → s.cm d.p = some d.x
  dst : ∀ d ∈ s.deeds, d.stp = true → ∃ k, k ≤ 3 ∧ d.x = .str (DS.kindOf k)
  dp : ∀ d ∈ s.deeds, d.p < 5
theorem DS.DOk.new (n : Nat) : (DS.new n).DOk := ⟨fun q x h => (by rw [DS.hd_new] at h; cases h), fun d h => absurd h (by simp [DS.new]), fun d h => absurd h (by simp [DS.new]), fun d h => absurd h (by simp [DS.new])⟩
theorem DS.DOk.come {s : DS} {p : Nat} {v : V} (h : s.DOk) (W : s.WF) (hp : p < s.lev.length) (hc : s.cm p = none) : (s.come p v).DOk := by
  have keep : ∀ r x, s.cm r = some x → (s.come p v).cm r = some x := fun r x hr => by
    rw [DS.cm_come, if_neg]
    · exact hr
    · rintro ⟨z, _⟩; rw [← z, hc] at hr; cases hr
  have e : (s.come p v).deeds = s.deeds ++ [⟨false, p, v⟩] := rfl
  have h5 := W.n5
  refine ⟨fun q x hq => ?_, fun d hd hs => ?_, fun d hd hs => ?_, fun d hd => ?_⟩
  · rw [DS.hd_come] at hq
    obtain ⟨r, hr⟩ := h.hok q x hq
    exact ⟨r, keep r x hr⟩
  · rw [e] at hd
    rcases List.mem_append.mp hd with hd | hd
    · exact keep _ _ (h.dcm d hd hs)
    · rw [List.mem_singleton] at hd; subst hd
      rw [DS.cm_come, if_pos ⟨rfl, by rw [W.lc]; exact hp⟩]
  · rw [e] at hd
    rcases List.mem_append.mp hd with hd | hd
    · exact h.dst d hd hs
    · rw [List.mem_singleton] at hd; subst hd; cases hs
  · rw [e] at hd
    rcases List.mem_append.mp hd with hd | hd
    · exact h.dp d hd
    · rw [List.mem_singleton] at hd; subst hd; show p < 5; omega
theorem DS.DOk.step {s : DS} {p : Nat} (h : s.DOk) (W : s.WF) (hc : s.cm p ≠ none) : (s.step p).DOk := by
  have hp := DS.lt_of_cm W hc
  have h5 := W.n5
  refine ⟨fun q x hq => ?_, fun d hd hs => ?_, fun d hd hs => ?_, fun d hd => ?_⟩
  · rw [DS.hd_step W hc] at hq
    split at hq
    · exact ⟨s.two, by rw [DS.cm_step]; exact hq⟩
    · obtain ⟨r, hr⟩ := h.hok q x hq
      exact ⟨r, by rw [DS.cm_step]; exact hr⟩
  · rw [DS.step_deeds] at hd
    rw [DS.cm_step]
    rcases List.mem_append.mp hd with hd | hd
    · exact h.dcm d hd hs
    · rw [List.mem_singleton] at hd; subst hd; cases hs
  · rw [DS.step_deeds] at hd
    rcases List.mem_append.mp hd with hd | hd
    · exact h.dst d hd hs
    · rw [List.mem_singleton] at hd; subst hd; exact ⟨_, DS.stg_lt s p, rfl⟩
  · rw [DS.step_deeds] at hd
    rcases List.mem_append.mp hd with hd | hd
    · exact h.dp d hd
    · rw [List.mem_singleton] at hd; subst hd; show p < 5; omega
theorem kind_cases {k : Nat} (h : k ≤ 3) : DS.kindOf k = "level" ∨ DS.kindOf k = "look" ∨ DS.kindOf k = "ask" := by
  rcases (show k = 0 ∨ k = 1 ∨ k = 2 ∨ k = 3 by omega) with e | e | e | e <;> subst e
  · exact .inl rfl
  · exact .inr (.inl rfl)
  · exact .inl rfl
  · exact .inr (.inr rfl)
theorem sm_kind {k : Nat} (h : k ≤ 3) : Sm 1 10 (.str (DS.kindOf k)) := by
  rcases kind_cases h with e | e | e <;> rw [e] <;> exact sm_word _ (by decide +kernel)
/-- a deed as data -/
def DD (d : Deed) (pd : PyData) : Prop := ∃ w x, pd = .tuple [.str w, .int (d.p : Nat), x]
theorem deeds_data {H : Hp} : ∀ ds : List Deed, (∀ d ∈ ds, (d.stp = false → Good H d.x) ∧ (d.stp = true → ∃ k, k ≤ 3 ∧ d.x = .str (DS.kindOf k)) ∧ d.p < 5) →
    ∃ pds : List PyData, (∀ (K : PySem.W.Frag) (H' : Hp) (dv : List V), TK H H' → Paired (DeedAt H') dv ds → DpAll K H' dv pds) ∧ (∀ d ∈ pds, Sm 5 70 d) ∧ Paired DD ds pds
  | [], _ => ⟨[], fun K H' dv g P => by cases P; exact .nil, fun d h => absurd h (by simp), .nil⟩
  | d :: ds, h => by
    obtain ⟨pds, h1, h2, h3⟩ := deeds_data ds fun e he => h e (List.mem_cons_of_mem _ he)
    obtain ⟨g0, g1, g2⟩ := h d List.mem_cons_self
    have smp : Sm 1 0 (.int (d.p : Nat)) := Sm.int (by omega) (by omega)
    cases hs : d.stp with
    | false =>
      obtain ⟨dx, vx, ox⟩ := g0 hs
      refine ⟨.tuple [.str "come", .int (d.p : Nat), dx] :: pds, fun K H' dv g P => ?_, fun e he => ?_, .cons ⟨_, _, rfl⟩ h3⟩
      · cases P with
        | cons a r =>
          obtain ⟨q, rfl, hq⟩ := a
          rw [hs] at hq
          exact .cons (.tup (.of hq) (.cons (.str _) (.cons (.int _) (.cons (vx.mono g).dp .nil)))) (h1 K H' _ g r)
      · rcases List.mem_cons.mp he with e' | e'
        · rw [e']
          exact (Sms.tup (.cons ((sm_word "come" (by decide +kernel)).mono (by decide : 1 ≤ 4) (Nat.le_refl 10)) (.cons (smp.mono (by decide) (Nat.le_refl 0)) (.cons ox.sm (Sms.nil (n := 0)))))).mono (by decide) (by decide)
        · exact h2 e e'
    | true =>
      obtain ⟨k, hk, ex⟩ := g1 hs
      refine ⟨.tuple [.str "step", .int (d.p : Nat), .str (DS.kindOf k)] :: pds, fun K H' dv g P => ?_, fun e he => ?_, .cons ⟨_, _, rfl⟩ h3⟩
      · cases P with
        | cons a r =>
          obtain ⟨q, rfl, hq⟩ := a
          rw [hs, ex] at hq
          exact .cons (.tup (.of hq) (.cons (.str _) (.cons (.int _) (.cons (.str _) .nil)))) (h1 K H' _ g r)
      · rcases List.mem_cons.mp he with e' | e'
        · rw [e']
          exact (Sms.tup (.cons ((sm_word "step" (by decide +kernel)).mono (by decide : 1 ≤ 4) (Nat.le_refl 10)) (.cons (smp.mono (by decide) (Nat.le_refl 0)) (.cons ((sm_kind hk).mono (by decide) (Nat.le_refl 10)) (Sms.nil (n := 0)))))).mono (by decide) (by decide)
        · exact h2 e e'
theorem eqv_players : ∀ {ds es : List Deed} {pd pe : List PyData}, Paired DD ds pd → Paired DD es pe → PyData.eqvAll pd pe = true → ds.map Deed.p = es.map Deed.p
  | _, _, _, _, .nil, .nil, _ => rfl
  | _, _, _, _, .nil, .cons _ _, h => by simp [PyData.eqvAll] at h
  | _, _, _, _, .cons _ _, .nil, h => by simp [PyData.eqvAll] at h
  | _, _, _, _, .cons a r, .cons b t, h => by
    obtain ⟨w, x, rfl⟩ := a
    obtain ⟨w', x', rfl⟩ := b
    rw [PyData.eqvAll, Bool.and_eq_true] at h
    have h1 := h.1
    simp only [PyData.eqv, PyData.eqvAll, Bool.and_eq_true] at h1
    have h2 := h1.2.1
    rw [List.map_cons, List.map_cons, eqv_players r t h.2]
    congr 1
    simp at h2
    omega
theorem DS.DOk.deeds {C : Addr} {H : Hp} {d : Addr} {s : DS} (h : s.DOk) (D : DoorAt C H d s) : ∀ x ∈ s.deeds, (x.stp = false → Good H x.x) ∧ (x.stp = true → ∃ k, k ≤ 3 ∧ x.x = .str (DS.kindOf k)) ∧ x.p < 5 := by
  intro x hx
  obtain ⟨dx', a, b, c, e, f, cv', hv', sv', dv', DD⟩ := D
  exact ⟨fun z => DD.good _ _ (h.dcm x hx z), h.dst x hx, h.dp x hx⟩
/-! ### (VALUE,) or None, as data -/
theorem opt_data {H : Hp} : ∀ m : List (Option V), (∀ x, some x ∈ m → Good H x) → ∃ ds : List PyData, (∀ (K : PySem.W.Frag) (H' : Hp) (cv : List V), TK H H' → Paired (One H') cv m → DpAll K H' cv ds) ∧ (∀ d ∈ ds, Sm 5 60 d) ∧ ds.length = m.length
  | [], _ => ⟨[], fun K H' cv g P => by cases P; exact .nil, fun d h => absurd h (by simp), rfl⟩
  | o :: m, h => by
    obtain ⟨ds, h1, h2, h3⟩ := opt_data m fun x hx => h x (List.mem_cons_of_mem _ hx)
    cases o with
    | none =>
      refine ⟨.none :: ds, fun K H' cv g P => ?_, fun d hd => ?_, by simp [h3]⟩
      · cases P with
        | cons a r => rw [show _ = V.non from a]; exact .cons .non (h1 K H' _ g r)
      · rcases List.mem_cons.mp hd with e | e
        · rw [e]; exact Sm.non.mono (by decide) (by decide)
        · exact h2 d e
    | some v =>
      obtain ⟨dv, vv, ov⟩ := h v List.mem_cons_self
      refine ⟨.tuple [dv] :: ds, fun K H' cv g P => ?_, fun d hd => ?_, by simp [h3]⟩
      · cases P with
        | cons a r => obtain ⟨q, rfl, hq⟩ := a; exact .cons (word_dp vv g hq) (h1 K H' _ g r)
      · rcases List.mem_cons.mp hd with e | e
        · rw [e]; exact word_data ov
        · exact h2 d e
/-! ### shown texts -/
theorem str_ext {a b : Str} (h : a.cps.toList = b.cps.toList) : a = b := by
  cases a; cases b; congr 1; exact Array.ext' h
theorem cpl (a b : Str) : (a ++ b).cps.toList = a.cps.toList ++ b.cps.toList := by rw [Str.cps_append]; simp
theorem textFrom_app : ∀ (as bs : List Str) (k : Nat) (acc : Str), textFrom k acc (as ++ bs) = textFrom (k + as.length) (textFrom k acc as) bs
  | [], bs, k, acc => rfl
  | a :: as, bs, k, acc => by
    show textFrom (k + 1) _ (as ++ bs) = _
    rw [textFrom_app as bs, List.length_cons, show k + 1 + as.length = k + (as.length + 1) by omega]
    rfl
def digit (p : Nat) : Nat := 48 + p
theorem int_text : ∀ p : Nat, p < 5 → (toString (p : Int) : Str).cps.toList = [digit p] := by decide +kernel
theorem pair_text {p : Nat} (hp : p < 5) (c : PyData) : ∃ r, (PyData.shown (.tuple [.int (p : Nat), c])).cps.toList = 40 :: digit p :: r := by
  refine ⟨?r, ?_⟩
  rotate_left
  · simp only [PyData.shown, PyData.shownAll, tupleText, Str.join, List.length_cons, List.length_nil]
    rw [cpl, cpl, cpl, cpl, int_text p hp]
    show [40] ++ ([digit p] ++ _ ++ _) ++ _ = _
    simp only [List.cons_append, List.nil_append, List.append_assoc]
    rfl
theorem shown_list (xs : List PyData) : PyData.shown (.list xs) = listText (PyData.shownAll xs) := by rw [PyData.shown]
theorem shownAll_app : ∀ xs ys : List PyData, PyData.shownAll (xs ++ ys) = PyData.shownAll xs ++ PyData.shownAll ys
  | [], ys => by simp [PyData.shownAll]
  | x :: xs, ys => by simp [PyData.shownAll, shownAll_app xs ys]
theorem textFrom2 (k : Nat) (acc a b : Str) : ∃ z, (textFrom k acc [a, b]).cps.toList = acc.cps.toList ++ (if k > 0 then [44, 32] else []) ++ a.cps.toList ++ z := by
  refine ⟨?z, ?_⟩
  rotate_left
  · show ((acc ++ _ ++ a) ++ _ ++ b).cps.toList = _
    rw [cpl, cpl, cpl, cpl]
    have : ((if k > 0 then ", " else "" : String) : Str).cps.toList = (if k > 0 then [44, 32] else []) := by split <;> decide +kernel
    rw [this, List.append_assoc]
/-- two lists of pairs that begin alike, and go on by other players -/
theorem shown_other {xs : List PyData} {p q : Nat} {c d : PyData} (hp : p < 5) (hq : q < 5) (h : p ≠ q) :
    PyData.shown (.list (xs ++ [.tuple [.int (p : Nat), c], .tuple [.int (q : Nat), d]])) ≠ PyData.shown (.list (xs ++ [.tuple [.int (q : Nat), d], .tuple [.int (p : Nat), c]])) := by
  intro e
  rw [shown_list, shown_list, shownAll_app, shownAll_app] at e
  unfold listText at e
  rw [textFrom_app, textFrom_app] at e
  have e2 := congrArg (fun z : Str => z.cps.toList) e
  simp only [cpl] at e2
  obtain ⟨z1, h1⟩ := textFrom2 (0 + (PyData.shownAll xs).length) (textFrom 0 "[" (PyData.shownAll xs)) (PyData.shown (.tuple [.int (p : Nat), c])) (PyData.shown (.tuple [.int (q : Nat), d]))
  obtain ⟨z2, h2⟩ := textFrom2 (0 + (PyData.shownAll xs).length) (textFrom 0 "[" (PyData.shownAll xs)) (PyData.shown (.tuple [.int (q : Nat), d])) (PyData.shown (.tuple [.int (p : Nat), c]))
  obtain ⟨r1, g1⟩ := pair_text hp c
  obtain ⟨r2, g2⟩ := pair_text hq d
  have s1 : PyData.shownAll [.tuple [.int (p : Nat), c], .tuple [.int (q : Nat), d]] = [PyData.shown (.tuple [.int (p : Nat), c]), PyData.shown (.tuple [.int (q : Nat), d])] := by simp [PyData.shownAll]
  have s2 : PyData.shownAll [.tuple [.int (q : Nat), d], .tuple [.int (p : Nat), c]] = [PyData.shown (.tuple [.int (q : Nat), d]), PyData.shown (.tuple [.int (p : Nat), c])] := by simp [PyData.shownAll]
  rw [s1, s2, h1, h2, g1, g2] at e2
  simp only [List.append_assoc] at e2
  have e3 := List.append_cancel_left (List.append_cancel_left e2)
  simp only [List.cons_append, List.cons.injEq, true_and] at e3
  have := e3.1
  unfold digit at this
  omega
theorem pr_imp' {α β : Type} {F G : α → β → Prop} : ∀ {l : List α} {m : List β}, Paired F l m → (∀ n ∈ l, ∀ y, F n y → G n y) → Paired G l m
  | _, _, .nil, _ => .nil
  | _, _, .cons a r, h => .cons (h _ List.mem_cons_self _ a) (pr_imp' r fun n hn => h n (List.mem_cons_of_mem _ hn))
def rListOf (K : PySem.W.Frag) : List V → Hp → VK → Prop := fun xs H Q => ∃ p ys, xs = [.ref p] ∧ (SqL K H p ys ∨ SqT K H p ys) ∧ ∀ l, H l = none → Q (.ref l) (upd H l (.lst ys))
theorem call_list_ofK {X : Cx} {K : PySem.W.Frag} (e : X.K = K := by rfl) : CallR X (.type "list") (rListOf K) := by subst e; exact call_list_of
/-! ### promises -/
def spCopy (C : Addr) : Sp := fun vs H Q _ => ∃ (d : Addr) (s : DS), vs = [.ref d] ∧ DoorAt C H d s ∧ ∀ e H', Same H H' → H e = none → DoorAt C H' e s → Q (.ref e) H'
def spDEq (C : Addr) : Sp := fun vs H Q _ => ∃ (d : Addr) (s : DS) (y : V), vs = [.ref d, y] ∧ DoorAt C H d s ∧ s.DOk ∧
  ((∃ e t, y = .ref e ∧ DoorAt C H e t ∧ t.DOk ∧ t.lev.length = s.lev.length ∧ ∀ b, (t.deeds = s.deeds → b = true) → (s.deeds.map Deed.p ≠ t.deeds.map Deed.p → b = false) → Q (.bl b) H) ∨ (∃ o kvs, y = .ref o ∧ H o = some (.dK kvs) ∧ Q (.bl false) H))
def spONext : Sp := fun vs H Q _ => ∃ (o : Addr) (L : List Addr) (p : Nat) (s : DS) (k : Int), vs = [.ref o, .int p] ∧ OwnAt H o L s k ∧ s.WF ∧ p < s.lev.length ∧ ∀ H', Same H H' → Q (optS (s.next p)) H'
def spOCopy : Sp := fun vs H Q _ => ∃ (o : Addr) (L : List Addr) (s : DS) (k : Int), vs = [.ref o] ∧ OwnAt H o L s k ∧ ∀ o' L' H', Same H H' → (∀ x ∈ L', H x = none) → OwnAt H' o' L' s k → Q (.ref o') H'
def spIsDoor (C : Addr) : Sp := fun vs H Q _ => ∃ (d o : Addr) (L : List Addr) (s : DS), vs = [.ref d, .ref o] ∧ DoorAt C H d s ∧ OwnAt H o L s (s.stps : Nat) ∧ s.DOk ∧ s.deeds.length < 100000 ∧ ∀ H', Same H H' → Q (.bl true) H'
/-! ### what was done -/
abbrev Done := Nat × Option V
def DoneAt (H : Hp) (x : V) (e : Done) : Prop := ∃ t c, x = .ref t ∧ H t = some (.tup [.int (e.1 : Nat), c]) ∧ e.1 < 5 ∧ match e.2 with
  | none => c = .non
  | some v => ∃ q, c = .ref q ∧ H q = some (.tup [v]) ∧ Good H v
theorem DoneAt.mono {H H' : Hp} (g : TK H H') {x : V} {e : Done} (h : DoneAt H x e) : DoneAt H' x e := by
  obtain ⟨p, o⟩ := e
  obtain ⟨t, c, h1, h2, h3, h4⟩ := h
  refine ⟨t, c, h1, g.t h2, h3, ?_⟩
  cases o with
  | none => exact h4
  | some v => obtain ⟨q, a, b, d⟩ := h4; exact ⟨q, a, g.t b, d.mono g⟩
def DS.does (s : DS) (e : Done) : DS := match e.2 with
  | none => s.step e.1
  | some v => s.come e.1 v
def DS.let_ (s : DS) (e : Done) : Prop := match e.2 with
  | none => s.cm e.1 ≠ none
  | some _ => s.cm e.1 = none ∧ e.1 < s.lev.length
def DS.run (s : DS) (l : List Done) : DS := l.foldl DS.does s
inductive Leg : DS → List Done → Prop
  | nil {s} : Leg s []
  | cons {s e l} : s.let_ e → Leg (s.does e) l → Leg s (e :: l)
section
variable {s : DS} {e f : Done} {l m : List Done}
theorem Leg.snoc : ∀ {l : List Done} {s : DS}, Leg s l → (s.run l).let_ e → Leg s (l ++ [e])
  | [], _, _, h => .cons h .nil
  | _ :: _, _, .cons a r, h => .cons a (Leg.snoc r h)
theorem Leg.take : ∀ {l m : List Done} {s : DS}, Leg s (l ++ m) → Leg s l ∧ Leg (s.run l) m
  | [], _, _, h => ⟨.nil, h⟩
  | _ :: _, _, _, .cons a r => ⟨.cons a (Leg.take r).1, (Leg.take r).2⟩
theorem Leg.app : ∀ {l m : List Done} {s : DS}, Leg s l → Leg (s.run l) m → Leg s (l ++ m)
  | [], _, _, _, h => h
  | _ :: _, _, _, .cons a r, h => .cons a (Leg.app r h)
theorem run_app : s.run (l ++ m) = (s.run l).run m := List.foldl_append
theorem len_does : (s.does e).lev.length = s.lev.length := by
  obtain ⟨p, o⟩ := e
  cases o with
  | none => exact DS.len_step
  | some v => rfl
theorem len_run : ∀ {l : List Done} {s : DS}, (s.run l).lev.length = s.lev.length
  | [], _ => rfl
  | e :: l, s => (len_run (l := l) (s := s.does e)).trans len_does
theorem WF_does (W : s.WF) (h : s.let_ e) : (s.does e).WF := by
  obtain ⟨p, o⟩ := e
  cases o with
  | none => exact W.step h
  | some v => exact W.come
theorem DOk_does (D : s.DOk) (W : s.WF) (h : s.let_ e) : (s.does e).DOk := by
  obtain ⟨p, o⟩ := e
  cases o with
  | none => exact D.step W h
  | some v => exact D.come W h.2 h.1
theorem both_run : ∀ {l : List Done} {s : DS}, Leg s l → s.WF → s.DOk → (s.run l).WF ∧ (s.run l).DOk
  | [], _, _, W, D => ⟨W, D⟩
  | _ :: _, _, .cons a r, W, D => by
    have h := both_run r (WF_does W a) (DOk_does D W a)
    exact h
theorem ps_does : (s.does e).deeds.map Deed.p = s.deeds.map Deed.p ++ [e.1] := by
  obtain ⟨p, o⟩ := e
  cases o with
  | none => show (s.step p).deeds.map Deed.p = _; rw [DS.step_deeds, List.map_append]; rfl
  | some v => show (s.come p v).deeds.map Deed.p = _; rw [show (s.come p v).deeds = s.deeds ++ [⟨false, p, v⟩] from rfl, List.map_append]; rfl
theorem ps_run : ∀ {l : List Done} {s : DS}, (s.run l).deeds.map Deed.p = s.deeds.map Deed.p ++ l.map Prod.fst
  | [], s => by simp [DS.run]
  | e :: l, s => by
    show ((s.does e).run l).deeds.map Deed.p = _
    rw [ps_run, ps_does]; simp
theorem cm_does (W : s.WF) (h : s.let_ e) (q : Nat) (hq : q ≠ e.1) : (s.does e).cm q = s.cm q := by
  obtain ⟨p, o⟩ := e
  cases o with
  | none => exact DS.cm_step q
  | some v =>
    show (s.come p v).cm q = _
    rw [DS.cm_come, if_neg]
    rintro ⟨z, _⟩; exact hq z.symm
theorem let_swap (W : s.WF) (he : s.let_ e) (hf : (s.does e).let_ f) (n : f.1 ≠ e.1) : s.let_ f ∧ (s.does f).let_ e := by
  have a : s.let_ f := by
    obtain ⟨q, o⟩ := f
    cases o with
    | none => show s.cm q ≠ none; rw [← cm_does W he q n]; exact hf
    | some v => exact ⟨by rw [← cm_does W he q n]; exact hf.1, by rw [← len_does (s := s) (e := e)]; exact hf.2⟩
  refine ⟨a, ?_⟩
  obtain ⟨p, o⟩ := e
  cases o with
  | none => show (s.does f).cm p ≠ none; rw [cm_does W a p (Ne.symm n)]; exact he
  | some v => exact ⟨by rw [cm_does W a p (Ne.symm n)]; exact he.1, by rw [len_does]; exact he.2⟩
theorem len_deeds_run : (s.run l).deeds.length = s.deeds.length + l.length := by
  have := congrArg List.length (ps_run (l := l) (s := s))
  simpa using this
end
def spAgain (C : Addr) (K : PySem.W.Frag) : Sp := fun vs H Q _ => ∃ (n : Nat) (dl : Addr) (xs : List V) (l : List Done), vs = [.int n, .ref dl] ∧ 1 ≤ n ∧ n ≤ 5 ∧ H dl = some (.lst xs) ∧ Paired (DoneAt H) xs l ∧ Leg (DS.new n) l ∧ l.length < 1000 ∧
  ∀ d H', Same H H' → H d = none → DoorAt C H' d ((DS.new n).run l) → Q (.ref d) H'
def spLDeed (C : Addr) : Sp := fun vs H Q _ => ∃ (pt d o dl : Addr) (L : List Addr) (s : DS) (m : Nat) (xs : List V), vs = [.ref pt, .ref d, .ref o, .ref dl] ∧ PotAt H pt m ∧ m < 800000 ∧ DoorAt C H d s ∧ OwnAt H o L s (s.stps : Nat) ∧ H dl = some (.lst xs) ∧ xs.length < 1000 ∧ s.deeds.length < 1000 ∧
  pt ∉ L ∧ pt ≠ d ∧ pt ≠ dl ∧ dl ∉ L ∧ dl ≠ d ∧ d ∉ L ∧
  ∀ (e : Done) (x : V) H', But (pt :: d :: dl :: L) H H' → PotAt H' pt (m + 100) → s.let_ e → DoorAt C H' d (s.does e) → OwnAt H' o L (s.does e) ((s.does e).stps : Nat) → H' dl = some (.lst (xs ++ [x])) → DoneAt H' x e → Q (.bl true) H'
theorem stps_step {s : DS} {p : Nat} : (s.step p).stps = s.stps + 1 := by
  unfold DS.stps
  rw [DS.step_deeds, List.filter_append, List.length_append]; rfl
theorem stps_come {s : DS} {p : Nat} {v : V} : (s.come p v).stps = s.stps := by
  unfold DS.stps
  rw [show (s.come p v).deeds = s.deeds ++ [⟨false, p, v⟩] from rfl, List.filter_append, List.length_append]; rfl
end Fp
/-! A stair of levels in the heap; promises -/
namespace Fp
open PySem PySem.Spec PyProof.Rows L2
def lfl (n : Int) (a b r e : Addr) : List (Str × V) := [("many", .int n), ("levels", .ref a), ("views", .ref b), ("run", .ref r), ("looking", .ref e)]
structure LC (K : PySem.W.Frag) (C : Addr) : Prop where
  cl : Cls K C
  nM : NoAttr K C "many"
  nL : NoAttr K C "levels"
  nV : NoAttr K C "views"
  nR : NoAttr K C "run"
  nK : NoAttr K C "looking"
section
variable {n : Int} {a b r e a' b' r' e' : Addr}
theorem l_many : (lfl n a b r e).lookup ("many" : Str) = some (.int n) := by kernel_rfl
theorem l_lev : (lfl n a b r e).lookup ("levels" : Str) = some (.ref a) := by kernel_rfl
theorem l_vw : (lfl n a b r e).lookup ("views" : Str) = some (.ref b) := by kernel_rfl
theorem l_run : (lfl n a b r e).lookup ("run" : Str) = some (.ref r) := by kernel_rfl
theorem l_lk : (lfl n a b r e).lookup ("looking" : Str) = some (.ref e) := by kernel_rfl
theorem lp_lev : putF "levels" (.ref a') (lfl n a b r e) = lfl n a' b r e := by kernel_rfl
theorem lp_vw : putF "views" (.ref b') (lfl n a b r e) = lfl n a b' r e := by kernel_rfl
theorem lp_run : putF "run" (.ref r') (lfl n a b r e) = lfl n a b r' e := by kernel_rfl
theorem lp_lk : putF "looking" (.ref e') (lfl n a b r e) = lfl n a b r e' := by kernel_rfl
theorem l_all : putF "looking" (.ref e) (putF "run" (.ref r) (putF "views" (.ref b) (putF "levels" (.ref a) (putF "many" (.int n) [])))) = lfl n a b r e := by kernel_rfl
theorem l_copy : putF "looking" (.ref e) (putF "run" (.ref r) (putF "views" (.ref b) (putF "levels" (.ref a) (lfl n a' b' r' e')))) = lfl n a b r e := by kernel_rfl
theorem ln_next : (lfl n a b r e).lookup ("next" : Str) = none := by kernel_rfl
theorem ln_step : (lfl n a b r e).lookup ("step" : Str) = none := by kernel_rfl
theorem ln_view : (lfl n a b r e).lookup ("view_from" : Str) = none := by kernel_rfl
theorem ln_copy : (lfl n a b r e).lookup ("copy" : Str) = none := by kernel_rfl
theorem ln_weave : (lfl n a b r e).lookup ("weave" : Str) = none := by kernel_rfl
end
def ViewAt (H : Hp) (x : V) : Option (List Nat) → Prop
  | none => x = .non
  | some l => ∃ p, x = .ref p ∧ TT H p (natV l)
theorem ViewAt.mono {H H' : Hp} (g : TK H H') {x : V} {o : Option (List Nat)} (h : ViewAt H x o) : ViewAt H' x o := by
  cases o with
  | none => exact h
  | some v => obtain ⟨p, e, q⟩ := h; exact ⟨p, e, g.tt q⟩
theorem ViewAt.is {H : Hp} {x : V} {o : Option (List Nat)} (h : ViewAt H x o) : decide (x = .non) = o.isNone := by
  cases o with
  | none => rw [show x = .non from h]; rfl
  | some v => obtain ⟨p, e, _⟩ := h; rw [e]; rfl
structure LvIn (K : PySem.W.Frag) (C : Addr) (H : Hp) (d : Addr) (s : LS) (dx a b r e : Addr) (vv rv : List V) : Prop where
  obj : H d = some (.ins C dx (lfl (s.n : Nat) a b r e))
  own : H dx = some (.own d)
  lev : TF H a (s.lev.map lvV)
  vw : TF H b vv
  vwP : Paired (ViewAt H) vv s.vw
  run : H r = some (.tup rv)
  runP : Paired (SD K H) rv s.run
  lk : TF H e (s.lk.map V.bl)
def LvAt (K : PySem.W.Frag) (C : Addr) (H : Hp) (d : Addr) (s : LS) : Prop := ∃ dx a b r e vv rv, LvIn K C H d s dx a b r e vv rv
section
variable {K : PySem.W.Frag} {C : Addr} {H H' : Hp} {d dx a b r e : Addr} {s : LS} {vv rv : List V} {S : List Addr}
theorem LvIn.mono (h : LvIn K C H d s dx a b r e vv rv) (g : TK H H') (g1 : ∀ o, H d = some o → H' d = some o) (g2 : H' dx = H dx) : LvIn K C H' d s dx a b r e vv rv :=
  ⟨g1 _ h.obj, by rw [g2]; exact h.own, g.f h.lev, g.f h.vw, pr_imp (fun _ _ => ViewAt.mono g) h.vwP, g.t h.run, SDs.mono h.runP g, g.f h.lk⟩
theorem LvIn.same (h : LvIn K C H d s dx a b r e vv rv) (g : Same H H') : LvIn K C H' d s dx a b r e vv rv := h.mono (.of g) (fun o q => g _ _ q) (by rw [g _ _ h.own]; exact h.own.symm)
theorem LvAt.same (h : LvAt K C H d s) (g : Same H H') : LvAt K C H' d s := by
  obtain ⟨dx, a, b, r, e, vv, rv, h⟩ := h
  exact ⟨dx, a, b, r, e, vv, rv, h.same g⟩
theorem LvAt.off (h : LvAt K C H d s) (g : But S H H') (tk : TK H H') (n : ∀ x ∈ S, x ≠ d ∧ H x ≠ some (.own d)) : LvAt K C H' d s := by
  obtain ⟨dx, a, b, r, e, vv, rv, h⟩ := h
  have nd : d ∉ S := fun m => (n d m).1 rfl
  have nx : dx ∉ S := fun m => (n dx m).2 h.own
  exact ⟨dx, a, b, r, e, vv, rv, h.mono tk (fun o q => g _ _ nd q) (by rw [g _ _ nx h.own]; exact h.own.symm)⟩
theorem LvAt.ob (h : LvAt K C H d s) : ∃ dx fs, H d = some (.ins C dx fs) ∧ fs.lookup ("next" : Str) = none ∧ fs.lookup ("step" : Str) = none ∧ fs.lookup ("copy" : Str) = none ∧ fs.lookup ("view_from" : Str) = none ∧ fs.lookup ("weave" : Str) = none := by
  obtain ⟨dx, a, b, r, e, vv, rv, h⟩ := h
  exact ⟨_, _, h.obj, ln_next, ln_step, ln_copy, ln_view, ln_weave⟩
theorem LvAt.tk (h : LvAt K C H d s) (g : But [d] H H') : TK H H' := TK.but g fun a ha z => by
  obtain ⟨dx, fs, e, _⟩ := h.ob
  rw [List.mem_singleton.mp ha, e] at z
  exact z
end
def DueAt (H : Hp) (y : V) : Option Due → Prop
  | none => y = .non
  | some (.wr l) => ∃ t, y = .ref t ∧ H t = some (.tup [.str "write", .int l])
  | some .look => ∃ t, y = .ref t ∧ H t = some (.tup [.str "look"])
def spChkMany : Sp := fun vs H Q _ => ∃ n : Nat, vs = [.int n] ∧ 1 ≤ n ∧ n ≤ 5 ∧ Q .non H
def spLInit (K : PySem.W.Frag) (C : Addr) : Sp := fun vs H Q _ => ∃ (d dx : Addr) (n : Nat), vs = [.ref d, .int n] ∧ 1 ≤ n ∧ n ≤ 5 ∧ H d = some (.ins C dx []) ∧ H dx = some (.own d) ∧ ∀ H', But [d] H H' → LvAt K C H' d (LS.new n) → Q .non H'
def spLNext (K : PySem.W.Frag) (C : Addr) : Sp := fun vs H Q _ => ∃ (d : Addr) (p : Nat) (s : LS), vs = [.ref d, .int p] ∧ LvAt K C H d s ∧ s.WF ∧ p < s.n ∧ ∀ y H', Same H H' → DueAt H' y (s.next p) → Q y H'
def spLView (K : PySem.W.Frag) (C : Addr) : Sp := fun vs H Q _ => ∃ (d : Addr) (p : Nat) (s : LS), vs = [.ref d, .int p] ∧ LvAt K C H d s ∧ s.WF ∧ p < s.n ∧ s.lv p ≠ none ∧ ∀ y H', Same H H' → ViewAt H' y (s.seen p) → Q y H'
def spLStep (K : PySem.W.Frag) (C : Addr) : Sp := fun vs H Q _ => ∃ (d : Addr) (p : Nat) (s : LS), vs = [.ref d, .int p] ∧ LvAt K C H d s ∧ s.WF ∧ p < s.n ∧ s.next p ≠ none ∧ s.run.length < 100000 ∧
  ∀ y dd H', But [d] H H' → LvAt K C H' d (s.step p) → (s.step p).run = s.run ++ [dd] → SD K H' y dd → Q y H'
def spLCopy (K : PySem.W.Frag) (C : Addr) : Sp := fun vs H Q _ => ∃ (d : Addr) (s : LS), vs = [.ref d] ∧ LvAt K C H d s ∧ s.WF ∧ ∀ e H', Same H H' → H e = none → LvAt K C H' e s → Q (.ref e) H'
/-! ### data -/
theorem sm_write {p : Nat} {l : Int} (hp : p < 5) (h1 : 1 ≤ l) (h5 : l ≤ 5) : Sm 4 60 (.tuple [.int (p : Nat), .str "write", .int l]) :=
  (Sms.tup (.cons (Sm.int (i := (p : Nat)) (by omega) (by omega)) (.cons ((sm_word "write" (by decide +kernel)).mono (Nat.le_refl 1) (Nat.le_refl 10)) (.cons (Sm.int (i := l) (by omega) (by omega)) (Sms.nil (n := 0)))))).mono (by decide) (by decide)
theorem sm_look {p : Nat} {l : List Lv} (hp : p < 5) (hl : l.length ≤ 5) (h : ∀ x, some x ∈ l → 1 ≤ x ∧ x ≤ 5) : Sm 4 60 (.tuple [.int (p : Nat), .str "look", .tuple (l.map lvD)]) := by
  have sl : Sms 1 5 (l.map lvD) := by
    refine (Sms.all (k := 1) (n := 0) fun d hd => ?_).mono (Nat.le_refl _) (by rw [List.length_map]; omega)
    obtain ⟨x, hx, rfl⟩ := List.mem_map.mp hd
    cases x with
    | none => exact Sm.non
    | some i => have := h i hx; exact Sm.int (by omega) (by omega)
  exact (Sms.tup (.cons ((Sm.int (i := (p : Nat)) (by omega) (by omega)).mono (by decide : 1 ≤ 2) (Nat.le_refl 0)) (.cons ((sm_word "look" (by decide +kernel)).mono (by decide : 1 ≤ 2) (Nat.le_refl 10)) (.cons sl.tup (Sms.nil (n := 0)))))).mono (by decide) (by decide)
def LS.ROk (s : LS) : Prop := ∀ d ∈ s.run, Sm 4 60 d
theorem LS.ROk.new (n : Nat) : (LS.new n).ROk := fun d h => absurd h (by simp [LS.new])
theorem LS.WF.levs {s : LS} (W : s.WF) : s.lev.length ≤ 5 ∧ ∀ x, some x ∈ s.lev → 1 ≤ x ∧ x ≤ 5 := ⟨W.n5, fun x hx => by
  obtain ⟨q, hq⟩ := mem_getD.mp hx
  have := W.rng q x hq
  have := W.n5
  omega⟩
theorem LS.step_run {s : LS} {p : Nat} (W : s.WF) (hp : p < s.n) (h : s.next p ≠ none) : ∃ dd, (s.step p).run = s.run ++ [dd] ∧ Sm 4 60 dd := by
  have n5 := W.n5
  have Ws := W.step hp
  unfold LS.step at Ws ⊢
  cases e : s.next p with
  | none => exact absurd e h
  | some du =>
    rw [e] at Ws
    cases du with
    | wr l =>
      have := Ws.rng p l (by show (s.wrote p l).lv p = some l; rw [LS.lv_wrote hp, if_pos rfl])
      rw [show LS.n (match some (Due.wr l) with | none => s | some (.wr l) => s.wrote p l | some .look => s.looked p) = s.n from LS.n_wrote] at this
      exact ⟨_, rfl, sm_write (by omega) this.1 (by omega)⟩
    | look => exact ⟨_, rfl, sm_look (by omega) W.levs.1 W.levs.2⟩
theorem LS.ROk.step {s : LS} {p : Nat} (R : s.ROk) (W : s.WF) (hp : p < s.n) (h : s.next p ≠ none) : (s.step p).ROk := by
  obtain ⟨dd, e, sm⟩ := LS.step_run W hp h
  intro d hd
  rw [e] at hd
  rcases List.mem_append.mp hd with z | z
  · exact R d z
  · rw [List.mem_singleton.mp z]; exact sm
/-- views as data -/
def vwD : Option (List Nat) → PyData
  | none => .none
  | some l => .tuple (l.map fun (p : Nat) => PyData.int (p : Int))
theorem vw_dp {K : PySem.W.Frag} {H : Hp} : ∀ {vv : List V} {m : List (Option (List Nat))}, Paired (ViewAt H) vv m → DpAll K H vv (m.map vwD)
  | _, _, .nil => .nil
  | _, _, .cons (b := o) a r => by
    cases o with
    | none => rw [show _ = V.non from a]; exact .cons .non (vw_dp r)
    | some l => obtain ⟨p, rfl, q⟩ := a; exact .cons (.tup q.sq (natV_dp l)) (vw_dp r)
theorem vw_sm {s : LS} (W : s.WF) : ∀ d ∈ s.vw.map vwD, Sm 2 5 d := by
  intro d hd
  obtain ⟨o, ho, rfl⟩ := List.mem_map.mp hd
  have n5 := W.n5
  cases o with
  | none => exact Sm.non.mono (by decide) (by decide)
  | some v =>
    obtain ⟨q, hq⟩ := mem_getD.mp ho
    obtain ⟨l, h1, h2, h3⟩ := W.vil q v hq
    have := W.rng q _ h1
    rw [h2]
    refine natV_sm (fun p hp => ?_) (by omega)
    have := (LS.mem_below.mp hp).1
    omega
end Fp
/-! o.m(k = v, ..); players by other numbers -/
namespace Fp
open PySem PySem.Spec PyProof.Rows L2
/-! ### methods called by keywords alone -/
def tMethKW (C : Addr) (m : Str) (n : Nat) (sp : Sp) (gV : List V → List V → List V) (E : XK) (ta : TE) (tk : TA) : TE := fun σ H Q => ta σ H fun x H1 => ∃ a dx fs, x = .ref a ∧ H1 a = some (.ins C dx fs) ∧ fs.lookup m = none ∧ tk σ H1 fun zs H2 => zs.length = n ∧ sp (gV [.ref a] zs) H2 Q E
structure MdK (P : Program) (w : World) (K : PySem.W.Frag) (mg : Str → Option Value) (base : Heap) (CX : CXT) (C : Addr) (m : Str) (k : Nat) (ps ks : List Str) (g : List Value → List Value → List Value) (gV : List V → List V → List V) (sp : Sp) : Prop where
  ex : ∃ (f : Addr) (fd : FuncData), Meth K C m f ∧ KBn K fd ps 1 ks g gV ∧ FnOk P w K mg base CX k f fd ps sp
section
variable {X : Cx} {k : Nat} {C : Addr} {ps ks : List Str} {sp : Sp} {m : Str} {pos apos : Pos} {o : Expr} {kws : List Keyword} {ta : TE} {tk : TA} {g : List Value → List Value → List Value} {gV : List V → List V → List V}
theorem pe_mdK {pl : Sem Bool} (he : PE X o ta) (c : Cls X.K C) (M : MdK X.prog X.w X.K X.mg X.base CX0 C m k ps ks g gV sp) (hr : Room k X.A) (hkw : PK X kws tk)
    (hall : (backToKw pos (keywordEach kws X.env)).all (·.1.isSome) = true := by rfl) (hks : (backToKw pos (keywordEach kws X.env)).filterMap (·.1) = ks := by rfl)
    (hpl : ((backTo pos (starEach [] X.env)).any (·.1) || (backToKw pos (keywordEach kws X.env)).any (·.1.isNone)) = false := by rfl)
    (ht : eval (.Call (.Attribute o m apos) [] kws pos) X.env = (do
      let ov ← eval o X.env
      standAt apos.atName
      let (f, first) ← holding [ov] (getMethod ov m pl)
      callWith pos f first (backTo pos (starEach [] X.env)) (backToKw pos (keywordEach kws X.env))) := by rfl) :
    PE X (.Call (.Attribute o m apos) [] kws pos) (tMethKW C m ks.length sp gV E0 ta tk) := by
  obtain ⟨f, fd, hm, hb, F⟩ := M.ex
  refine ⟨fun pins s σ H Q I h => ?_⟩
  refine PySem.W.methodCall_KW (pl := pl) (thn (he.run pins s σ H _ I h) fun u s1 ⟨x, H1, I1, rx, a, dx, fs, ex, ea, l, q⟩ => ?_) ht
  subst ex
  obtain rfl : u = Value.ref a := rx
  refine getmeth_ok I1 ea c hm l ?_
  refine PySem.W.callWith_KW0 (first := [.ref a]) (h₀ := X.base) I.ok.mod.kin hm.kp hall ?_ hpl
  refine thn (hkw.run pos pins s1 σ H1 _ I1 q) fun ws s2 ⟨zs, H2, I2, rz, l2, q2⟩ => ⟨I2.kIn, ?_⟩
  rw [hks]
  have r1 : Vals [V.ref a] [Value.ref a] := .cons rfl .nil
  have r2 := hb.rel r1 rz
  refine wpAny_call (codeAny_mono (F.run X.A X.stack s2 H2 ⟨[.ref a], ks.zip ws⟩ (g [.ref a] ws) (gV [.ref a] zs) Q E0 hr I2.env0 (hb.to s2 [.ref a] ws I2.kIn rfl (rz.length.symm.trans l2)) r2 q2) fun r s' hq => ?_)
  cases r with
  | error e => exact pass0 pins σ H2 s2 e s' I2 hq
  | ok fl =>
    cases fl with
    | ret u => exact I2.after hq
    | next => exact False.elim hq
    | brk => exact False.elim hq
    | cont => exact False.elim hq
end
/-! ### rows by other numbers -/
structure Nu (nu : List Nat) : Prop where
  lt : ∀ q ∈ nu, q < 5
  up : nu.Pairwise (· < ·)
def ledF {β : Type} : List β → List Nat → List β → List β
  | x :: xs, q :: nu, acc => ledF xs nu (acc.set q x)
  | _, _, acc => acc
def ledL {α : Type} (nu : List Nat) (xs : List (Option α)) : List (Option α) := ledF xs nu (List.replicate 5 none)
theorem led_snoc {β : Type} {x : β} {q : Nat} : ∀ {xs : List β} {nu : List Nat} {acc : List β}, nu[xs.length]? = some q → ledF (xs ++ [x]) nu acc = (ledF xs nu acc).set q x
  | [], [], acc, h => by cases h
  | [], r :: nu, acc, h => by cases h; cases nu <;> rfl
  | y :: ys, [], acc, h => by cases h
  | y :: ys, r :: nu, acc, h => by
    show ledF (ys ++ [x]) nu (acc.set r y) = (ledF ys nu (acc.set r y)).set q x
    exact led_snoc (by simpa using h)
theorem led_len {β : Type} : ∀ (xs : List β) (nu : List Nat) (acc : List β), (ledF xs nu acc).length = acc.length
  | [], nu, acc => by cases nu <;> rfl
  | x :: xs, [], acc => rfl
  | x :: xs, q :: nu, acc => by show (ledF xs nu _).length = _; rw [led_len xs nu]; simp
theorem led_map {β γ : Type} (f : β → γ) : ∀ (xs : List β) (nu : List Nat) (acc : List β), (ledF xs nu acc).map f = ledF (xs.map f) nu (acc.map f)
  | [], nu, acc => by cases nu <;> rfl
  | x :: xs, [], acc => rfl
  | x :: xs, q :: nu, acc => by
    show (ledF xs nu _).map f = ledF (xs.map f) nu ((acc.map f).set q (f x))
    rw [led_map f xs nu, List.map_set]
theorem led_pair {β γ : Type} {F : β → γ → Prop} : ∀ {xs : List β} {ys : List γ} {nu : List Nat} {acc : List β} {bcc : List γ}, Paired F xs ys → Paired F acc bcc → Paired F (ledF xs nu acc) (ledF ys nu bcc)
  | _, _, nu, _, _, .nil, h => by cases nu <;> exact h
  | _, _, [], _, _, .cons _ _, h => h
  | _, _, q :: nu, _, _, .cons a r, h => led_pair (nu := nu) r (pr_set a q h)
theorem ledL_len {α : Type} {nu : List Nat} {xs : List (Option α)} : (ledL nu xs).length = 5 := by unfold ledL; rw [led_len]; simp
section
variable {nu : List Nat}
theorem Nu.inj (N : Nu nu) {p p' q : Nat} (h : nu[p]? = some q) (h' : nu[p']? = some q) : p = p' := by
  have a := List.getElem?_eq_some_iff.mp h
  have b := List.getElem?_eq_some_iff.mp h'
  obtain ⟨a1, a2⟩ := a
  obtain ⟨b1, b2⟩ := b
  have up := List.pairwise_iff_getElem.mp N.up
  rcases Nat.lt_trichotomy p p' with h | h | h
  · have := up p p' a1 b1 h; omega
  · exact h
  · have := up p' p b1 a1 h; omega
theorem Nu.mono (N : Nu nu) {p p' q q' : Nat} (h : nu[p]? = some q) (h' : nu[p']? = some q') : p < p' ↔ q < q' := by
  obtain ⟨a1, a2⟩ := List.getElem?_eq_some_iff.mp h
  obtain ⟨b1, b2⟩ := List.getElem?_eq_some_iff.mp h'
  have up := List.pairwise_iff_getElem.mp N.up
  constructor
  · intro z; have := up p p' a1 b1 z; omega
  · intro z
    rcases Nat.lt_trichotomy p p' with h | h | h
    · exact h
    · subst h; omega
    · have := up p' p b1 a1 h; omega
theorem Nu.five (N : Nu nu) {p q : Nat} (h : nu[p]? = some q) : q < 5 := N.lt q (List.mem_of_getElem? h)
theorem led_at {α : Type} (N : Nu nu) {xs : List (Option α)} (hl : xs.length = nu.length) : ∀ i, i ≤ xs.length → (∀ p q, p < i → nu[p]? = some q → (ledL nu (xs.take i)).getD q none = xs.getD p none) ∧ (∀ q, (∀ p, p < i → nu[p]? ≠ some q) → (ledL nu (xs.take i)).getD q none = none)
  | 0, _ => ⟨fun p q h => absurd h (by omega), fun q _ => by
    rw [List.take_zero]
    show (ledF [] nu (List.replicate 5 none)).getD q none = none
    have : ledF ([] : List (Option α)) nu (List.replicate 5 none) = List.replicate 5 none := by cases nu <;> rfl
    rw [this]; exact DS.rep_none 5 q⟩
  | i + 1, hi => by
    obtain ⟨h1, h2⟩ := led_at N hl i (by omega)
    have hx : xs[i]? = some xs[i] := List.getElem?_eq_getElem (by omega)
    obtain ⟨q0, hq0⟩ : ∃ q, nu[i]? = some q := ⟨nu[i], List.getElem?_eq_getElem (by omega)⟩
    have e : ledL nu (xs.take (i + 1)) = (ledL nu (xs.take i)).set q0 xs[i] := by
      rw [List.take_add_one, hx]
      exact led_snoc (by rw [List.length_take, Nat.min_eq_left (by omega)]; exact hq0)
    have q5 := N.five hq0
    rw [e]
    refine ⟨fun p q hp hq => ?_, fun q hq => ?_⟩
    · rw [getD_set, ledL_len]
      by_cases z : q0 = q
      · rw [if_pos ⟨z, q5⟩]
        subst z
        have := N.inj hq hq0
        subst this
        exact (getD_of hx).symm
      · rw [if_neg (fun w => z w.1)]
        refine h1 p q ?_ hq
        by_cases pi : p = i
        · subst pi; rw [hq0] at hq; exact absurd (Option.some.inj hq) z
        · omega
    · rw [getD_set, if_neg]
      · exact h2 q fun p hp => hq p (by omega)
      · rintro ⟨z, _⟩; exact hq i (by omega) (by rw [hq0, z])
theorem ledL_at {α : Type} (N : Nu nu) {xs : List (Option α)} (hl : xs.length = nu.length) {p q : Nat} (h : nu[p]? = some q) : (ledL nu xs).getD q none = xs.getD p none := by
  have := (led_at N hl xs.length (Nat.le_refl _)).1 p q (by rw [hl]; exact get_lt h) h
  rwa [List.take_length] at this
theorem ledL_off {α : Type} (N : Nu nu) {xs : List (Option α)} (hl : xs.length = nu.length) {q : Nat} (h : q ∉ nu) : (ledL nu xs).getD q none = none := by
  have := (led_at N hl xs.length (Nat.le_refl _)).2 q (fun p _ z => h (List.mem_of_getElem? z))
  rwa [List.take_length] at this
theorem mem_led {α : Type} (N : Nu nu) {xs : List (Option α)} (hl : xs.length = nu.length) (x : α) : some x ∈ ledL nu xs ↔ some x ∈ xs := by
  rw [mem_getD, mem_getD]
  constructor
  · rintro ⟨q, hq⟩
    by_cases z : q ∈ nu
    · obtain ⟨p, hp⟩ := List.getElem?_of_mem z
      exact ⟨p, by rw [← ledL_at N hl hp]; exact hq⟩
    · rw [ledL_off N hl z] at hq; cases hq
  · rintro ⟨p, hp⟩
    have hlt := (getD_none_of hp).1
    have : nu[p]? = some nu[p] := List.getElem?_eq_getElem (by omega)
    exact ⟨nu[p], by rw [ledL_at N hl this]; exact hp⟩
end
theorem ext_getD {α : Type} {l m : List (Option α)} (h : l.length = m.length) (e : ∀ q, l.getD q none = m.getD q none) : l = m := by
  refine List.ext_getElem? fun q => ?_
  by_cases hq : q < l.length
  · have := e q
    rw [getD_at hq, getD_at (by omega), this]
  · rw [List.getElem?_eq_none (by omega), List.getElem?_eq_none (by omega)]
theorem sorted_ext : ∀ {l m : List Nat}, l.Pairwise (· < ·) → m.Pairwise (· < ·) → (∀ x, x ∈ l ↔ x ∈ m) → l = m
  | [], [], _, _, _ => rfl
  | [], b :: m, _, _, h => absurd ((h b).mpr List.mem_cons_self) (by simp)
  | a :: l, [], _, _, h => absurd ((h a).mp List.mem_cons_self) (by simp)
  | a :: l, b :: m, hl, hm, h => by
    obtain ⟨a1, a2⟩ := List.pairwise_cons.mp hl
    obtain ⟨b1, b2⟩ := List.pairwise_cons.mp hm
    have eab : a = b := by
      rcases List.mem_cons.mp ((h a).mp List.mem_cons_self) with e | e
      · exact e
      · rcases List.mem_cons.mp ((h b).mpr List.mem_cons_self) with e' | e'
        · exact e'.symm
        · have := b1 a e; have := a1 b e'; omega
    subst eab
    congr 1
    refine sorted_ext a2 b2 fun x => ?_
    constructor
    · intro hx
      rcases List.mem_cons.mp ((h x).mp (List.mem_cons_of_mem _ hx)) with e | e
      · have := a1 x hx; omega
      · exact e
    · intro hx
      rcases List.mem_cons.mp ((h x).mpr (List.mem_cons_of_mem _ hx)) with e | e
      · have := b1 x hx; omega
      · exact e
/-! ### who can be told next -/
namespace DS
def cameL (s : DS) : List Nat := (List.range s.lev.length).filter fun p => (s.cm p).isSome
def readyL (s : DS) : List Nat := s.held.filter fun p => s.won p
def minN (a : Nat) (l : List Nat) : Nat := l.foldl min a
def wins (s : DS) : List Nat := if some 2 ∈ s.lev then [minN s.two s.readyL] else match s.readyL with
  | [] => s.cameL
  | r :: _ => (s.cameL.filter fun p => decide (p < r) && (s.sn p).isNone) ++ [r]
end DS
theorem minN_spec : ∀ (l : List Nat) (a : Nat), DS.minN a l ∈ a :: l ∧ ∀ x ∈ a :: l, DS.minN a l ≤ x
  | [], a => ⟨by simp [DS.minN], fun x hx => by rw [List.mem_singleton.mp hx]; exact Nat.le_refl _⟩
  | b :: l, a => by
    obtain ⟨h1, h2⟩ := minN_spec l (min a b)
    have e : DS.minN a (b :: l) = DS.minN (min a b) l := rfl
    rw [e]
    refine ⟨?_, fun x hx => ?_⟩
    · rcases List.mem_cons.mp h1 with z | z
      · rw [z]
        rcases Nat.le_total a b with w | w
        · rw [Nat.min_eq_left w]; simp
        · rw [Nat.min_eq_right w]; simp
      · simp [z]
    · have hm := h2 (min a b) List.mem_cons_self
      rcases List.mem_cons.mp hx with z | z
      · rw [z]; exact Nat.le_trans hm (Nat.min_le_left _ _)
      · rcases List.mem_cons.mp z with z | z
        · rw [z]; exact Nat.le_trans hm (Nat.min_le_right _ _)
        · exact h2 x (List.mem_cons_of_mem _ z)
theorem minN_of {a m : Nat} {l : List Nat} (h1 : m ∈ a :: l) (h2 : ∀ x ∈ a :: l, m ≤ x) : DS.minN a l = m := by
  obtain ⟨a1, a2⟩ := minN_spec l a
  exact Nat.le_antisymm (a2 m h1) (h2 _ a1)
def dedup (l : List Nat) : List Nat := l.foldl (fun acc x => if x ∈ acc then acc else acc ++ [x]) []
theorem dedup_snoc (l : List Nat) (x : Nat) : dedup (l ++ [x]) = if x ∈ dedup l then dedup l else dedup l ++ [x] := by
  unfold dedup; rw [List.foldl_append]; rfl
theorem take_last {l : List Nat} {n : Nat} (h : l.length = n + 1) : l = l.take n ++ [l[n]] := by
  conv => lhs; rw [← List.take_append_drop n l]
  congr 1
  rw [List.drop_eq_getElem_cons (by omega)]
  congr 1
  exact List.drop_eq_nil_of_le (by omega)
theorem dedup_len : ∀ (n : Nat) (l : List Nat), l.length = n → (dedup l).length ≤ n
  | 0, l, h => by rw [List.length_eq_zero_iff.mp h]; decide
  | n + 1, l, h => by
    have e := take_last h
    rw [e, dedup_snoc]
    have ih := dedup_len n (l.take n) (by rw [List.length_take]; omega)
    split
    · omega
    · rw [List.length_append]; show _ + 1 ≤ _; omega
theorem dedup_mem : ∀ (n : Nat) (l : List Nat), l.length = n → ∀ x ∈ dedup l, x ∈ l
  | 0, l, h => by rw [List.length_eq_zero_iff.mp h]; simp [dedup]
  | n + 1, l, h => by
    have e := take_last h
    rw [e, dedup_snoc]
    have ih := dedup_mem n (l.take n) (by rw [List.length_take]; omega)
    intro x hx
    split at hx
    · exact List.mem_append_left _ (ih x hx)
    · rcases List.mem_append.mp hx with z | z
      · exact List.mem_append_left _ (ih x z)
      · exact List.mem_append_right _ z
def spWinG (C : Addr) : Sp := fun vs H Q _ => ∃ (d : Addr) (s : DS), vs = [.ref d] ∧ DoorAt C H d s ∧ ∀ (l : Addr) H', Same H H' → H l = none → H' l = some (.lst (natV s.wins)) → Q (.ref l) H'
def spMayG (C : Addr) : Sp := fun vs H Q _ => ∃ (d : Addr) (s : DS) (cod : Nat → V) (dat : Nat → PyData) (cs : Nat → Nat), vs = [.ref d] ∧ DoorAt C H d s ∧ (∀ p v, s.cm p = some v → v = cod (cs p)) ∧ (∀ p, VAt H (cod (cs p)) (dat (cs p)) ∧ VOk 3 (dat (cs p))) ∧
  (∀ p q, PyData.eqv (dat (cs p)) (dat (cs q)) = decide (cs p = cs q)) ∧ ∀ t H', Same H H' → H' t = some (.tup ((dedup (s.wins.map cs)).map cod)) → Q (.ref t) H'
theorem wins_mem {s : DS} (W : s.WF) {p : Nat} (h : p ∈ s.wins) : p < s.lev.length ∧ s.cm p ≠ none := by
  have hheld : ∀ p ∈ s.held, p < s.lev.length ∧ s.lv p = some 1 := fun p hp => by
    have := List.mem_filter.mp hp
    exact ⟨List.mem_range.mp this.1, of_decide_eq_true this.2⟩
  have hr : ∀ p ∈ s.readyL, p < s.lev.length ∧ s.cm p ≠ none := fun p hp => by
    have := hheld p (List.mem_filter.mp hp).1
    exact ⟨this.1, W.cmv p (by rw [this.2]; simp)⟩
  have hc : ∀ p ∈ s.cameL, p < s.lev.length ∧ s.cm p ≠ none := fun p hp => by
    have := List.mem_filter.mp hp
    refine ⟨List.mem_range.mp this.1, fun z => ?_⟩
    rw [z] at this; exact absurd this.2 (by simp)
  unfold DS.wins at h
  split at h
  · rename_i h2
    rw [List.mem_singleton.mp h]
    obtain ⟨h1, _⟩ := minN_spec s.readyL s.two
    rcases List.mem_cons.mp h1 with z | z
    · rw [z]
      obtain ⟨m1, m2, _⟩ := DS.two_lev (mem_getD.mp h2)
      exact ⟨m1, W.cmv _ (by rw [m2]; simp)⟩
    · exact hr _ z
  · split at h
    · exact hc p h
    · rename_i r rs e
      rcases List.mem_append.mp h with z | z
      · exact hc p (List.mem_filter.mp z).1
      · rw [List.mem_singleton.mp z]; exact hr r (by rw [e]; exact List.mem_cons_self)
theorem wins_len {s : DS} (W : s.WF) : s.wins.length ≤ 6 := by
  have h5 := W.n5
  have hc : s.cameL.length ≤ 5 := by
    have := List.length_filter_le (fun p => (s.cm p).isSome) (List.range s.lev.length)
    rw [List.length_range] at this
    unfold DS.cameL; omega
  unfold DS.wins
  split
  · show 1 ≤ 6; decide
  · split
    · omega
    · rename_i r _ _
      rw [List.length_append]
      have := List.length_filter_le (fun p => decide (p < r) && (s.sn p).isNone) s.cameL
      show _ + 1 ≤ 6
      omega
/-! ### two doors, the one by other numbers -/
structure RelD (nm : V → V) (nu : List Nat) (s t : DS) : Prop where
  N : Nu nu
  ls : s.lev.length = nu.length
  lt : t.lev.length = 5
  Ws : s.WF
  Wt : t.WF
  lv : ∀ p q, nu[p]? = some q → t.lv q = s.lv p
  cm : ∀ p q, nu[p]? = some q → t.cm q = (s.cm p).map nm
  sn : ∀ p q, nu[p]? = some q → t.sn q = (s.sn p).map (ledL nu)
  hd : ∀ p q, nu[p]? = some q → t.hd q = (s.hd p).map nm
  offC : ∀ q, q ∉ nu → t.cm q = none
  offH : ∀ q, q ∉ nu → t.hd q = none
  snl : ∀ p l, s.sn p = some l → l.length = nu.length
  st : t.stps = s.stps
def mapT (nm : V → V) (nu : List Nat) : Told → Told
  | .level i => .level i
  | .look l => .look (ledL nu l)
  | .wait => .wait
  | .word v => .word (nm v)
section
variable {nm : V → V} {nu : List Nat} {s t : DS} {p q : Nat} {v : V}
theorem RelD.new {n : Nat} (N : Nu nu) (h1 : 1 ≤ n) (h5 : n ≤ 5) (hl : nu.length = n) : RelD nm nu (DS.new n) (DS.new 5) := by
  refine ⟨N, by simp [DS.new, hl], by simp [DS.new], .new h1 h5, .new (by decide) (by decide), ?_, ?_, ?_, ?_, ?_, ?_, ?_, rfl⟩
  · intro p q _; rw [DS.lv_new, DS.lv_new]
  · intro p q _; rw [DS.cm_new, DS.cm_new]; rfl
  · intro p q _; rw [DS.sn_new, DS.sn_new]; rfl
  · intro p q _; rw [DS.hd_new, DS.hd_new]; rfl
  · intro q _; exact DS.cm_new _ _
  · intro q _; exact DS.hd_new _ _
  · intro p l h; rw [DS.sn_new] at h; cases h
theorem RelD.offL (R : RelD nm nu s t) (h : q ∉ nu) : t.lv q = none := by
  cases e : t.lv q with
  | none => rfl
  | some x => exact absurd (R.offC q h) (R.Wt.cmv q (by rw [e]; simp))
theorem RelD.offS (R : RelD nm nu s t) (h : q ∉ nu) : t.sn q = none := by
  cases e : t.sn q with
  | none => rfl
  | some x => exact absurd (R.offL h) (R.Wt.snv q (by rw [e]; simp))
theorem RelD.lev (R : RelD nm nu s t) : t.lev = ledL nu s.lev := by
  refine ext_getD (by rw [R.lt, ledL_len]) fun q => ?_
  by_cases h : q ∈ nu
  · obtain ⟨p, hp⟩ := List.getElem?_of_mem h
    rw [ledL_at R.N R.ls hp]; exact R.lv p q hp
  · rw [ledL_off R.N R.ls h]; exact R.offL h
theorem RelD.heard (R : RelD nm nu s t) : t.heard = ledL nu (s.heard.map (Option.map nm)) := by
  have hl : (s.heard.map (Option.map nm)).length = nu.length := by rw [List.length_map, R.Ws.lh, R.ls]
  refine ext_getD (by rw [R.Wt.lh, R.lt, ledL_len]) fun q => ?_
  by_cases h : q ∈ nu
  · obtain ⟨p, hp⟩ := List.getElem?_of_mem h
    rw [ledL_at R.N hl hp]
    have e : (s.heard.map (Option.map nm)).getD p none = (s.hd p).map nm := by
      rw [List.getD_eq_getElem?_getD, List.getElem?_map]
      unfold DS.hd
      rw [List.getD_eq_getElem?_getD]
      cases s.heard[p]? <;> rfl
    rw [e]; exact R.hd p q hp
  · rw [ledL_off R.N hl h]; exact R.offH q h
theorem RelD.stg (R : RelD nm nu s t) (h : nu[p]? = some q) : t.stg q = s.stg p := by
  unfold DS.stg
  rw [R.lv p q h, R.sn p q h]
  unfold DS.stgOf
  cases s.sn p <;> rfl
theorem RelD.mem (R : RelD nm nu s t) (x : Int) : some x ∈ t.lev ↔ some x ∈ s.lev := by rw [R.lev]; exact mem_led R.N R.ls x
theorem RelD.saw (R : RelD nm nu s t) (h : nu[p]? = some q) : t.saw q = s.saw p := by
  unfold DS.saw
  rw [R.sn p q h]
  cases e : s.sn p with
  | none => rfl
  | some l => exact decide_eq_decide.mpr (mem_led R.N (R.snl p l e) 2)
theorem RelD.won (R : RelD nm nu s t) (h : nu[p]? = some q) : t.won q = s.won p := by
  unfold DS.won
  rw [R.sn p q h]
  cases e : s.sn p with
  | none => rfl
  | some l => show (!decide _) = (!decide _); rw [decide_eq_decide.mpr (mem_led R.N (R.snl p l e) 2)]
theorem RelD.wr (R : RelD nm nu s t) (h : nu[p]? = some q) : t.wr q = s.wr p := by unfold DS.wr; rw [R.saw h]
theorem RelD.at (R : RelD nm nu s t) (h : p < s.lev.length) : nu[p]? = some (nu.getD p 0) := by
  rw [R.ls] at h
  rw [List.getD_eq_getElem?_getD, List.getElem?_eq_getElem h]; rfl
theorem RelD.two (R : RelD nm nu s t) (h2 : ∃ p, s.lv p = some 2) : nu[s.two]? = some t.two := by
  obtain ⟨a1, a2, a3⟩ := DS.two_lev h2
  have hq := R.at a1
  have t2 : t.lv (nu.getD s.two 0) = some 2 := by rw [R.lv _ _ hq]; exact a2
  obtain ⟨b1, b2, b3⟩ := DS.two_lev ⟨_, t2⟩
  by_cases hm : t.two ∈ nu
  · obtain ⟨p', hp'⟩ := List.getElem?_of_mem hm
    have e2 : s.lv p' = some 2 := by rw [← R.lv p' _ hp']; exact b2
    have h3 : ¬ p' < s.two := fun z => a3 p' z e2
    have h4 : ¬ nu.getD s.two 0 < t.two := fun z => b3 _ z t2
    have h5 := R.N.mono hq hp'
    have : p' = s.two := by
      have : ¬ s.two < p' := fun z => h4 (h5.mp z)
      omega
    rw [← this]; exact hp'
  · rw [R.offL hm] at b2; cases b2
theorem RelD.told (R : RelD nm nu s t) (h : nu[p]? = some q) : t.told q = mapT nm nu (s.told p) := by
  have h4 := DS.stg_lt s p
  have e := R.stg h
  rcases (show s.stg p = 0 ∨ s.stg p = 1 ∨ s.stg p = 2 ∨ s.stg p = 3 by omega) with z | z | z | z <;> rw [z] at e
  · rw [DS.told0 z, DS.told0 e]; rfl
  · rw [DS.told1 z, DS.told1 e, R.lev]; rfl
  · rw [DS.told2 z, DS.told2 e, R.wr h]; rfl
  · rw [DS.told3 z, DS.told3 e]
    by_cases y : some 1 ∈ s.lev
    · rw [if_pos y, if_pos ((R.mem 1).mpr y)]; rfl
    · rw [if_neg y, if_neg (fun w => y ((R.mem 1).mp w))]
      have h2 := DS.ask_two R.Ws z
      obtain ⟨v, hv⟩ := DS.two_came R.Ws h2
      rw [R.cm _ _ (R.two h2), hv]; rfl
theorem RelD.ne (R : RelD nm nu s t) {p' q' : Nat} (h : nu[p]? = some q) (h' : nu[p']? = some q') : p = p' ↔ q = q' := by
  constructor
  · rintro rfl; rw [h] at h'; exact Option.some.inj h'
  · rintro rfl; exact R.N.inj h h'
theorem RelD.come (R : RelD nm nu s t) (h : nu[p]? = some q) : RelD nm nu (s.come p v) (t.come q (nm v)) := by
  have hp : p < s.came.length := by rw [R.Ws.lc, R.ls]; exact get_lt h
  have hq : q < t.came.length := by rw [R.Wt.lc, R.lt]; exact R.N.five h
  refine ⟨R.N, R.ls, R.lt, R.Ws.come, R.Wt.come, R.lv, fun p' q' h' => ?_, R.sn, R.hd, fun q' h' => ?_, R.offH, R.snl, by rw [stps_come, stps_come]; exact R.st⟩
  · rw [DS.cm_come, DS.cm_come]
    by_cases z : p = p'
    · rw [if_pos ⟨(R.ne h h').mp z, hq⟩, if_pos ⟨z, hp⟩]; rfl
    · rw [if_neg (fun w => z ((R.ne h h').mpr w.1)), if_neg (fun w => z w.1)]; exact R.cm p' q' h'
  · rw [DS.cm_come, if_neg]
    · exact R.offC q' h'
    · rintro ⟨z, _⟩; exact h' (z ▸ List.mem_of_getElem? h)
theorem RelD.step (R : RelD nm nu s t) (h : nu[p]? = some q) (hc : s.cm p ≠ none) : RelD nm nu (s.step p) (t.step q) := by
  have hc' : t.cm q ≠ none := by
    rw [R.cm p q h]
    cases e : s.cm p with
    | none => exact absurd e hc
    | some v => simp
  have hp := DS.lt_of_cm R.Ws hc
  have hq := DS.lt_of_cm R.Wt hc'
  have hps : p < s.seen.length := by rw [R.Ws.ls]; exact hp
  have hqs : q < t.seen.length := by rw [R.Wt.ls]; exact hq
  have e := R.stg h
  have h4 := DS.stg_lt s p
  have ne := fun p' q' (h' : nu[p']? = some q') => R.ne h h'
  have hdR : ∀ p' q', nu[p']? = some q' → (t.step q).hd q' = ((s.step p).hd p').map nm := fun p' q' h' => by
    rw [DS.hd_step R.Ws hc, DS.hd_step R.Wt hc']
    by_cases z : p = p' ∧ s.stg p = 3 ∧ some 1 ∉ s.lev
    · rw [if_pos z, if_pos ⟨(ne p' q' h').mp z.1, by rw [e]; exact z.2.1, fun w => z.2.2 ((R.mem 1).mp w)⟩]
      exact R.cm _ _ (R.two (DS.ask_two R.Ws z.2.1))
    · rw [if_neg z, if_neg (fun w => z ⟨(ne p' q' h').mpr w.1, by rw [← e]; exact w.2.1, fun y => w.2.2 ((R.mem 1).mpr y)⟩)]
      exact R.hd p' q' h'
  have offHR : ∀ q', q' ∉ nu → (t.step q).hd q' = none := fun q' h' => by
    rw [DS.hd_step R.Wt hc', if_neg]
    · exact R.offH q' h'
    · rintro ⟨z, _⟩; exact h' (z ▸ List.mem_of_getElem? h)
  have stR : (t.step q).stps = (s.step p).stps := by rw [stps_step, stps_step, R.st]
  refine ⟨R.N, by rw [DS.len_step]; exact R.ls, by rw [DS.len_step]; exact R.lt, R.Ws.step hc, R.Wt.step hc', fun p' q' h' => ?_, fun p' q' h' => by rw [DS.cm_step, DS.cm_step]; exact R.cm p' q' h', fun p' q' h' => ?_, hdR, fun q' h' => by rw [DS.cm_step]; exact R.offC q' h', offHR, fun p' l h' => ?_, stR⟩
  · rcases (show s.stg p = 0 ∨ s.stg p = 1 ∨ s.stg p = 2 ∨ s.stg p = 3 by omega) with z | z | z | z <;> rw [z] at e
    · rw [DS.lv_step0 z hp, DS.lv_step0 e hq]
      by_cases y : p = p'
      · rw [if_pos y, if_pos ((ne p' q' h').mp y)]
      · rw [if_neg y, if_neg (fun w => y ((ne p' q' h').mpr w))]; exact R.lv p' q' h'
    · rw [DS.lv_step1 z, DS.lv_step1 e]; exact R.lv p' q' h'
    · rw [DS.lv_step2 z hp, DS.lv_step2 e hq, R.wr h]
      by_cases y : p = p'
      · rw [if_pos y, if_pos ((ne p' q' h').mp y)]
      · rw [if_neg y, if_neg (fun w => y ((ne p' q' h').mpr w))]; exact R.lv p' q' h'
    · rw [DS.lv_step3 z, DS.lv_step3 e]; exact R.lv p' q' h'
  · by_cases z : s.stg p = 1
    · rw [DS.sn_step1 z hps, DS.sn_step1 (by rw [e]; exact z) hqs]
      by_cases y : p = p'
      · rw [if_pos y, if_pos ((ne p' q' h').mp y), R.lev]; rfl
      · rw [if_neg y, if_neg (fun w => y ((ne p' q' h').mpr w))]; exact R.sn p' q' h'
    · rw [DS.sn_stepN z, DS.sn_stepN (by rw [e]; exact z)]; exact R.sn p' q' h'
  · by_cases z : s.stg p = 1
    · rw [DS.sn_step1 z hps] at h'
      split at h'
      · cases h'; exact R.ls
      · exact R.snl p' l h'
    · rw [DS.sn_stepN z] at h'; exact R.snl p' l h'
/-- lots of players, by other numbers -/
theorem RelD.lots (R : RelD nm nu s t) {f g : Nat → Bool} (hg : ∀ q, q ∉ nu → g q = false) (h : ∀ p q, nu[p]? = some q → g q = f p) : (List.range t.lev.length).filter g = ((List.range s.lev.length).filter f).map fun p => nu.getD p 0 := by
  have rs : ∀ n, (List.range n).Pairwise (· < ·) := fun n => List.pairwise_lt_range
  refine sorted_ext ((rs _).filter _) ?_ fun x => ?_
  · rw [List.pairwise_map]
    refine List.Pairwise.imp_of_mem ?_ ((rs s.lev.length).filter f)
    intro a b ha hb hab
    have ha := List.mem_range.mp (List.mem_filter.mp ha).1
    have hb := List.mem_range.mp (List.mem_filter.mp hb).1
    exact (R.N.mono (R.at ha) (R.at hb)).mp hab
  · rw [List.mem_filter, List.mem_range, List.mem_map]
    constructor
    · rintro ⟨h1, h2⟩
      by_cases z : x ∈ nu
      · obtain ⟨p, hp⟩ := List.getElem?_of_mem z
        have hpl : p < s.lev.length := by rw [R.ls]; exact get_lt hp
        refine ⟨p, List.mem_filter.mpr ⟨List.mem_range.mpr hpl, by rw [← h p x hp]; exact h2⟩, ?_⟩
        have := R.at hpl
        rw [hp] at this; exact (Option.some.inj this).symm
      · rw [hg x z] at h2; cases h2
    · rintro ⟨p, hp, rfl⟩
      have hp' := List.mem_filter.mp hp
      have hpl := List.mem_range.mp hp'.1
      have ha := R.at hpl
      exact ⟨by rw [R.lt]; exact R.N.five ha, by rw [h p _ ha]; exact hp'.2⟩
theorem RelD.held (R : RelD nm nu s t) : t.held = s.held.map fun p => nu.getD p 0 :=
  R.lots (fun q h => by rw [R.offL h]; decide) fun p q h => by rw [R.lv p q h]
theorem RelD.cameL (R : RelD nm nu s t) : t.cameL = s.cameL.map fun p => nu.getD p 0 :=
  R.lots (fun q h => by rw [R.offC q h]; rfl) fun p q h => by rw [R.cm p q h]; cases s.cm p <;> rfl
theorem held_lt {s : DS} : ∀ p ∈ s.held, p < s.lev.length := fun p hp => List.mem_range.mp (List.mem_filter.mp hp).1
theorem RelD.readyL (R : RelD nm nu s t) : t.readyL = s.readyL.map fun p => nu.getD p 0 := by
  unfold DS.readyL
  rw [R.held, List.filter_map]
  congr 1
  refine List.filter_congr fun p hp => ?_
  exact R.won (R.at (held_lt p hp))
theorem RelD.wins (R : RelD nm nu s t) : t.wins = s.wins.map fun p => nu.getD p 0 := by
  have er := R.readyL
  have rl : ∀ p ∈ s.readyL, p < s.lev.length := fun p hp => held_lt p (List.mem_filter.mp hp).1
  unfold DS.wins
  by_cases h2 : some 2 ∈ s.lev
  · rw [if_pos h2, if_pos ((R.mem 2).mpr h2)]
    obtain ⟨m1, m2, _⟩ := DS.two_lev (mem_getD.mp h2)
    have ht : nu.getD s.two 0 = t.two := by
      have a := R.two (mem_getD.mp h2)
      have b := R.at m1
      rw [b] at a; exact Option.some.inj a
    show [_] = [nu.getD (DS.minN s.two s.readyL) 0]
    congr 1
    obtain ⟨a1, a2⟩ := minN_spec s.readyL s.two
    have lt : ∀ p ∈ s.two :: s.readyL, p < s.lev.length := fun p hp => by
      rcases List.mem_cons.mp hp with z | z
      · rw [z]; exact m1
      · exact rl p z
    refine minN_of ?_ fun x hx => ?_
    · rw [er]
      rcases List.mem_cons.mp a1 with z | z
      · rw [z, ht]; exact List.mem_cons_self
      · exact List.mem_cons_of_mem _ (List.mem_map.mpr ⟨_, z, rfl⟩)
    · have hx' : ∃ p ∈ s.two :: s.readyL, nu.getD p 0 = x := by
        rcases List.mem_cons.mp hx with z | z
        · exact ⟨s.two, List.mem_cons_self, by rw [z, ht]⟩
        · rw [er] at z
          obtain ⟨p, hp, e⟩ := List.mem_map.mp z
          exact ⟨p, List.mem_cons_of_mem _ hp, e⟩
      obtain ⟨p, hp, rfl⟩ := hx'
      have h1 := R.at (lt _ a1)
      have h3 := R.at (lt p hp)
      rcases Nat.lt_or_ge (nu.getD p 0) (nu.getD (DS.minN s.two s.readyL) 0) with z | z
      · have := (R.N.mono h3 h1).mpr z
        have := a2 p hp
        omega
      · exact z
  · rw [if_neg h2, if_neg (fun w => h2 ((R.mem 2).mp w)), er]
    cases e : s.readyL with
    | nil => exact R.cameL
    | cons r rs =>
      show (t.cameL.filter fun p => decide (p < nu.getD r 0) && (t.sn p).isNone) ++ [nu.getD r 0] = List.map _ (_ ++ [r])
      have hr := R.at (rl r (by rw [e]; exact List.mem_cons_self))
      rw [List.map_append, R.cameL, List.filter_map]
      congr 2
      refine List.filter_congr fun p hp => ?_
      have hpl := List.mem_range.mp (List.mem_filter.mp hp).1
      have ha := R.at hpl
      show (decide (nu.getD p 0 < nu.getD r 0) && (t.sn (nu.getD p 0)).isNone) = _
      rw [R.sn p _ ha, decide_eq_decide.mpr (R.N.mono ha hr).symm]
      cases s.sn p <;> rfl
end
end Fp
/-! views of a stair are a row; weavings; walks over two tuples -/
namespace Fp
open PySem PySem.Spec PyProof.Rows L2
theorem walk_zipT {K : PySem.W.Frag} {a b : Addr} {xs ys : List V} {n : Nat} (hn : n = min xs.length ys.length) : Walk (RZ.ItzT K a b) n (fun H => SqT K H a xs ∧ SqT K H b ys) (YPair (fun i => xs[i]?) (fun i => ys[i]?)) := by
  subst hn
  refine ⟨fun i _ hi q => ?_, fun _ q => ⟨xs, ys, q.1, q.2, by omega⟩, fun i H v H' _ q y => ?_⟩
  · have h1 : i < xs.length := by omega
    have h2 : i < ys.length := by omega
    exact ⟨xs, ys, xs[i], ys[i], q.1, q.2, by simp [h1], by simp [h2]⟩
  · obtain ⟨T, x, z, h1, h2, h3, h4, h5⟩ := y
    exact ⟨T, x, z, h1, h2, h3, h4 xs q.1, h5 ys q.2⟩
def Sub (l m : List Nat) : Prop := ∀ x ∈ l, x ∈ m
instance (l m : List Nat) : Decidable (Sub l m) := inferInstanceAs (Decidable (∀ x ∈ l, x ∈ m))
namespace LS
section
variable {s : LS} {p q : Nat} {l m : List Nat}
theorem below_up (s : LS) (l : Int) : (s.below l).Pairwise (· < ·) := List.Pairwise.filter _ List.pairwise_lt_range
theorem below_mono {a b : Int} (h : a ≤ b) : Sub (s.below a) (s.below b) := fun x hx => by
  obtain ⟨h1, h2⟩ := mem_below.mp hx
  refine mem_below.mpr ⟨h1, ?_⟩
  cases e : s.lv x with
  | none => rw [e] at h2; cases h2
  | some y => rw [e] at h2; have := of_decide_eq_true (show decide (y ≤ a) = true from h2); exact decide_eq_true (by omega)
/-- what is known of a view -/
structure ViewOk (s : LS) (p : Nat) (l : List Nat) : Prop where
  up : l.Pairwise (· < ·)
  self : p ∈ l
  lt : ∀ x ∈ l, x < s.n
  len : l.length ≤ 5
theorem WF.view (W : s.WF) (h : s.vi p = some l) : ViewOk s p l := by
  obtain ⟨k, h1, h2, h3⟩ := W.vil p l h
  have := W.rng p _ h1
  have := W.n5
  refine ⟨by rw [h2]; exact below_up _ _, W.self h, fun x hx => ?_, by rw [h2, h3]; omega⟩
  rw [h2] at hx
  exact (mem_below.mp hx).1
theorem WF.vlt (W : s.WF) (h : s.vi p = some l) : p < s.n := (W.view h).lt p (W.view h).self
theorem WF.fits (W : s.WF) (h : s.vi p = some l) (h' : s.vi q = some m) : (q ∈ l → Sub m l) ∧ (q ∉ l → Sub l m) := by
  obtain ⟨k, h1, h2, _⟩ := W.vil p l h
  obtain ⟨j, j1, j2, _⟩ := W.vil q m h'
  have hq : q ∈ l ↔ j ≤ k := by
    rw [h2, mem_below]
    rw [le_some j1, decide_eq_true_iff]
    exact ⟨fun z => by have := z.2; omega, fun z => ⟨W.vlt h', by omega⟩⟩
  rw [hq, h2, j2]
  exact ⟨fun z => below_mono (by omega), fun z => below_mono (by omega)⟩
def woven (s : LS) (ws : List Nat) : LS := ws.foldl (fun s p => s.step p) s
theorem woven_snoc (ws : List Nat) (p : Nat) : s.woven (ws ++ [p]) = (s.woven ws).step p := List.foldl_append
theorem n_woven : ∀ {ws : List Nat} {s : LS}, (s.woven ws).n = s.n
  | [], _ => rfl
  | p :: ws, s => (n_woven (ws := ws) (s := s.step p)).trans n_step
theorem step_none (h : s.next p = none) : s.step p = s := by unfold LS.step; rw [h]
theorem ok_woven : ∀ {ws : List Nat} {s : LS}, s.WF → s.ROk → (∀ p ∈ ws, p < s.n) → (s.woven ws).WF ∧ (s.woven ws).ROk
  | [], _, W, R, _ => ⟨W, R⟩
  | p :: ws, s, W, R, h => by
    have hp := h p List.mem_cons_self
    have R' : (s.step p).ROk := by
      by_cases z : s.next p = none
      · rw [step_none z]; exact R
      · exact R.step W hp z
    have r := ok_woven (ws := ws) (s := s.step p) (W.step hp) R' fun q hq => by rw [n_step]; exact h q (List.mem_cons_of_mem _ hq)
    exact r
theorem step_run' (W : s.WF) (hp : p < s.n) : ∃ ds, (s.step p).run = s.run ++ ds ∧ ds.length ≤ 1 := by
  by_cases z : s.next p = none
  · exact ⟨[], by rw [step_none z]; simp, by decide⟩
  · obtain ⟨dd, e, _⟩ := step_run W hp z
    exact ⟨[dd], e, Nat.le_refl _⟩
theorem set_same (W : s.WF) (hp : p < s.n) (h : s.vi p = none) : s.vw.set p none = s.vw := by
  have hl : p < s.vw.length := by rw [W.lw]; exact hp
  have e : s.vw[p] = none := by
    have := getD_at hl
    rw [List.getElem?_eq_getElem hl] at this
    have h' : s.vw.getD p none = none := h
    rw [h'] at this
    exact Option.some.inj this
  refine List.ext_getElem? fun i => ?_
  rw [List.getElem?_set]
  by_cases z : p = i
  · subst z; rw [if_pos rfl, if_pos hl, List.getElem?_eq_getElem hl, e]
  · rw [if_neg z]
end
end LS
/-! ### the law's own stair -/
def sdict (n : Int) (l1 l2 l3 : Addr) : List (Key × V) := [(.inr "many", .int n), (.inr "shown", .ref l1), (.inr "looks", .ref l2), (.inr "views", .ref l3)]
section
variable {n : Int} {l1 l2 l3 o : Addr} {H : Hp}
theorem st_merge : mergeK [] (sdict n l1 l2 l3) = sdict n l1 l2 l3 := by kernel_rfl
theorem sg_many (h : H o = some (.dK (sdict n l1 l2 l3))) : DGet H o (.str "many") (some (.int n)) := by
  have := DGet.k (k := .inr "many") h; rw [show valV (sdict n l1 l2 l3) (.inr "many") = some (.int n) by kernel_rfl] at this; exact this
theorem sg_shown (h : H o = some (.dK (sdict n l1 l2 l3))) : DGet H o (.str "shown") (some (.ref l1)) := by
  have := DGet.k (k := .inr "shown") h; rw [show valV (sdict n l1 l2 l3) (.inr "shown") = some (.ref l1) by kernel_rfl] at this; exact this
theorem sg_looks (h : H o = some (.dK (sdict n l1 l2 l3))) : DGet H o (.str "looks") (some (.ref l2)) := by
  have := DGet.k (k := .inr "looks") h; rw [show valV (sdict n l1 l2 l3) (.inr "looks") = some (.ref l2) by kernel_rfl] at this; exact this
theorem sg_views (h : H o = some (.dK (sdict n l1 l2 l3))) : DGet H o (.str "views") (some (.ref l3)) := by
  have := DGet.k (k := .inr "views") h; rw [show valV (sdict n l1 l2 l3) (.inr "views") = some (.ref l3) by kernel_rfl] at this; exact this
end
structure StIn (H : Hp) (o l1 l2 l3 : Addr) (s : LS) (vv : List V) : Prop where
  dict : H o = some (.dK (sdict (s.n : Nat) l1 l2 l3))
  shown : H l1 = some (.lst (s.lev.map lvV))
  looks : H l2 = some (.lst (s.lk.map V.bl))
  views : H l3 = some (.lst vv)
  vwP : Paired (ViewAt H) vv s.vw
  nd : [o, l1, l2, l3].Nodup
def StAt (H : Hp) (o : Addr) (L : List Addr) (s : LS) : Prop := ∃ l1 l2 l3 vv, L = [o, l1, l2, l3] ∧ StIn H o l1 l2 l3 s vv
section
variable {H H' : Hp} {o : Addr} {L S : List Addr} {s : LS}
theorem StAt.but (h : StAt H o L s) (g : But S H H') (n : ∀ x ∈ S, x ∉ L) (tk : TK H H') : StAt H' o L s := by
  obtain ⟨l1, l2, l3, vv, rfl, h⟩ := h
  have w : ∀ x ∈ [o, l1, l2, l3], x ∉ S := fun x hx m => n x m hx
  exact ⟨l1, l2, l3, vv, rfl, g _ _ (w o (by simp)) h.dict, g _ _ (w l1 (by simp)) h.shown, g _ _ (w l2 (by simp)) h.looks, g _ _ (w l3 (by simp)) h.views, pr_imp (fun _ _ => ViewAt.mono tk) h.vwP, h.nd⟩
theorem StAt.same (h : StAt H o L s) (g : Same H H') : StAt H' o L s := h.but (S := []) (.of g) (fun _ m => by cases m) (.of g)
theorem StAt.kind (h : StAt H o L s) : ∀ x ∈ L, (∃ xs, H x = some (.lst xs)) ∨ ∃ kvs, H x = some (.dK kvs) := by
  obtain ⟨l1, l2, l3, vv, rfl, h⟩ := h
  intro x hx
  simp only [List.mem_cons, List.not_mem_nil, or_false] at hx
  rcases hx with rfl | rfl | rfl | rfl
  · exact .inr ⟨_, h.dict⟩
  · exact .inl ⟨_, h.shown⟩
  · exact .inl ⟨_, h.looks⟩
  · exact .inl ⟨_, h.views⟩
theorem StAt.tk (h : StAt H o L s) (g : But L H H') : TK H H' := TK.but g fun a ha z => by
  rcases h.kind a ha with ⟨xs, e⟩ | ⟨xs, e⟩ <;> rw [e] at z <;> exact z
end
/-! ### promises -/
def spLot : Sp := fun vs H Q _ => ∃ (a : Addr) (l : List Nat), vs = [.ref a] ∧ TT H a (natV l) ∧ l.Pairwise (· < ·) ∧ l.length ≤ 5 ∧ ∀ H', Same H H' → Q (.bl true) H'
def spLies : Sp := fun vs H Q _ => ∃ (a b : Addr) (l m : List Nat), vs = [.ref a, .ref b] ∧ TT H a (natV l) ∧ TT H b (natV m) ∧ l.length ≤ 5 ∧ Sub l m ∧ ∀ H', Same H H' → Q (.bl true) H'
def spFit : Sp := fun vs H Q _ => ∃ (t u a b : Addr) (p q : Nat) (l m : List Nat), vs = [.ref t, .ref u] ∧ H t = some (.tup [.int (p : Nat), .ref a]) ∧ H u = some (.tup [.int (q : Nat), .ref b]) ∧ TT H a (natV l) ∧ TT H b (natV m) ∧ l.length ≤ 5 ∧ m.length ≤ 5 ∧
  (q ∈ l → Sub m l) ∧ (q ∉ l → Sub l m) ∧ ∀ H', Same H H' → Q (.bl true) H'
def spIsView : Sp := fun vs H Q _ => ∃ (n p : Nat) (a : Addr) (l : List Nat), vs = [.int n, .int p, .ref a] ∧ TT H a (natV l) ∧ l.Pairwise (· < ·) ∧ l.length ≤ 5 ∧ p ∈ l ∧ (∀ x ∈ l, x < n) ∧ ∀ H', Same H H' → Q (.bl true) H'
def LS.any (s : LS) : Bool := s.vw.any (·.isSome)
def spAtOnce : Sp := fun vs H Q _ => ∃ (b : Addr) (vv : List V) (s : LS), vs = [.int (s.n : Nat), .ref b] ∧ TF H b vv ∧ Paired (ViewAt H) vv s.vw ∧ s.WF ∧ ∀ H', Same H H' → Q (.bl s.any) H'
def spWeaving : Sp := fun vs H Q _ => ∃ (a : Addr) (ws : List Nat) (n : Nat), vs = [.ref a, .int n] ∧ TT H a (natV ws) ∧ (∀ p ∈ ws, p < n) ∧ ws.length ≤ 1000 ∧ ∀ H', Same H H' → Q (.bl true) H'
def spWeave (K : PySem.W.Frag) (C : Addr) : Sp := fun vs H Q _ => ∃ (d a : Addr) (ws : List Nat) (s : LS), vs = [.ref d, .ref a] ∧ LvAt K C H d s ∧ s.WF ∧ TT H a (natV ws) ∧ (∀ p ∈ ws, p < s.n) ∧ ws.length ≤ 1000 ∧ s.run.length < 10000 ∧
  ∀ t ys ds H', But [d] H H' → LvAt K C H' d (s.woven ws) → H' t = some (.tup ys) → Paired (SD K H') ys ds → (s.woven ws).run = s.run ++ ds → Q (.ref t) H'
def spLLen (K : PySem.W.Frag) (C : Addr) : Sp := fun vs H Q _ => ∃ (d : Addr) (s : LS), vs = [.ref d] ∧ LvAt K C H d s ∧ Q (.int (s.run.length : Nat)) H
def spSNext : Sp := fun vs H Q _ => ∃ (o : Addr) (L : List Addr) (p : Nat) (s : LS), vs = [.ref o, .int p] ∧ StAt H o L s ∧ s.WF ∧ p < s.n ∧ ∀ y H', Same H H' → DueAt H' y (s.next p) → Q y H'
def spSStep (K : PySem.W.Frag) : Sp := fun vs H Q _ => ∃ (o : Addr) (L : List Addr) (p : Nat) (s : LS), vs = [.ref o, .int p] ∧ StAt H o L s ∧ s.WF ∧ p < s.n ∧ s.next p ≠ none ∧
  ∀ t dd H', But L H H' → StAt H' o L (s.step p) → (s.step p).run = s.run ++ [dd] → SD K H' (.ref t) dd → Q (.ref t) H'
def spSFresh : Sp := fun vs H Q _ => ∃ n : Nat, vs = [.int n] ∧ 1 ≤ n ∧ n ≤ 5 ∧ ∀ o L H', Same H H' → (∀ x ∈ L, H x = none) → StAt H' o L (LS.new n) → Q (.ref o) H'
def spSWoven (K : PySem.W.Frag) : Sp := fun vs H Q _ => ∃ (o a : Addr) (L : List Addr) (ws : List Nat) (s : LS), vs = [.ref o, .ref a] ∧ StAt H o L s ∧ s.WF ∧ TT H a (natV ws) ∧ (∀ p ∈ ws, p < s.n) ∧ ws.length ≤ 1000 ∧
  ∀ t ys ds H', But L H H' → StAt H' o L (s.woven ws) → H' t = some (.tup ys) → Paired (SD K H') ys ds → (s.woven ws).run = s.run ++ ds → Q (.ref t) H'
def spWvg : Sp := fun vs H Q _ => ∃ (pt : Addr) (n k m : Nat), vs = [.ref pt, .int n, .int k] ∧ 1 ≤ n ∧ n ≤ 5 ∧ k ≤ 30 ∧ PotAt H pt m ∧ m < 800000 ∧ ∀ t ws H', But [pt] H H' → PotAt H' pt (m + 100) → H' t = some (.tup (natV ws)) → (∀ p ∈ ws, p < n) → ws.length ≤ 100 → Q (.ref t) H'
def spLInt : Sp := fun vs H Q _ => ∃ x a b : Int, vs = [.int x, .int a, .int b] ∧ a ≤ x ∧ x ≤ b ∧ Q (.bl true) H
def spLotOf : Sp := fun vs H Q _ => ∃ (a : Addr) (l : List Nat) (n : Nat), vs = [.ref a, .int n] ∧ TT H a (natV l) ∧ l.Pairwise (· < ·) ∧ l.length ≤ 5 ∧ (∀ x ∈ l, x < n) ∧ ∀ H', Same H H' → Q (.bl true) H'
end Fp
/-! values of any kind, of which only tuples and integers are looked into; rows of truths -/
namespace Fp
open PySem PySem.Spec PyProof.Rows L2
inductive Dt where
  | non
  | bl (b : Bool)
  | int (i : Int)
  | oth
  | tup (ds : List Dt)
mutual
inductive DV (H : Hp) : V → Dt → Prop where
  | non : DV H .non .non
  | bl (b : Bool) : DV H (.bl b) (.bl b)
  | int (i : Int) : DV H (.int i) (.int i)
  | str (z : Str) : DV H (.str z) .oth
  | lst {a : Addr} {xs : List V} : H a = some (.lst xs) → DV H (.ref a) .oth
  | dct {a : Addr} {kvs : List (Key × V)} : H a = some (.dK kvs) → DV H (.ref a) .oth
  | tup {a : Addr} {xs : List V} {ds : List Dt} : H a = some (.tup xs) → DVs H xs ds → ds.length ≤ 1000 → DV H (.ref a) (.tup ds)
inductive DVs (H : Hp) : List V → List Dt → Prop where
  | nil : DVs H [] []
  | cons {v vs d ds} : DV H v d → DVs H vs ds → DVs H (v :: vs) (d :: ds)
end
/-- tuples stay, lists and dicts stay such -/
structure DKp (H H' : Hp) : Prop where
  t : ∀ {a xs}, H a = some (.tup xs) → H' a = some (.tup xs)
  l : ∀ {a xs}, H a = some (.lst xs) → ∃ ys, H' a = some (.lst ys)
  d : ∀ {a} {xs : List (Key × V)}, H a = some (.dK xs) → ∃ ys : List (Key × V), H' a = some (.dK ys)
theorem DKp.refl (H : Hp) : DKp H H := ⟨fun h => h, fun h => ⟨_, h⟩, fun h => ⟨_, h⟩⟩
theorem DKp.trans {H H1 H2 : Hp} (a : DKp H H1) (b : DKp H1 H2) : DKp H H2 := ⟨fun h => b.t (a.t h), fun h => by
  obtain ⟨_, h⟩ := a.l h
  exact b.l h, fun h => by
  obtain ⟨_, h⟩ := a.d h
  exact b.d h⟩
theorem DKp.of {H H' : Hp} (g : Same H H') : DKp H H' := ⟨fun h => g _ _ h, fun h => ⟨_, g _ _ h⟩, fun h => ⟨_, g _ _ h⟩⟩
theorem DKp.but {S : List Addr} {H H' : Hp} (g : But S H H') (h : ∀ a ∈ S, (∃ xs, H a = some (.lst xs)) ∧ ∃ ys, H' a = some (.lst ys)) : DKp H H' := by
  refine ⟨fun {a xs} e => ?_, fun {a xs} e => ?_, fun {a xs} e => ?_⟩
  · by_cases m : a ∈ S
    · obtain ⟨⟨_, z⟩, _⟩ := h a m
      rw [z] at e; cases e
    · exact g _ _ m e
  · by_cases m : a ∈ S
    · exact (h a m).2
    · exact ⟨_, g _ _ m e⟩
  · by_cases m : a ∈ S
    · obtain ⟨⟨_, z⟩, _⟩ := h a m
      rw [z] at e; cases e
    · exact ⟨_, g _ _ m e⟩
theorem DKp.pot {p : Addr} {n m : Nat} {H H' : Hp} (g : But [p] H H') (h : PotAt H p n) (h' : PotAt H' p m) : DKp H H' := DKp.but g fun a ha => by
  rw [List.mem_singleton.mp ha]
  exact ⟨h.there, h'.there⟩
theorem DKp.put {H : Hp} {a : Addr} {xs ys : List V} (h : H a = some (.lst xs)) : DKp H (upd H a (.lst ys)) := DKp.but (S := [a]) ((But.refl _ _).put (by simp)) fun b hb => by
  rw [List.mem_singleton.mp hb]
  exact ⟨⟨_, h⟩, _, upd_same⟩
mutual
theorem DV.kd {H H' : Hp} (g : DKp H H') : ∀ {v : V} {d : Dt}, DV H v d → DV H' v d
  | _, _, .non => .non
  | _, _, .bl b => .bl b
  | _, _, .int i => .int i
  | _, _, .str z => .str z
  | _, _, .lst h => by
    obtain ⟨_, h⟩ := g.l h
    exact .lst h
  | _, _, .dct h => by
    obtain ⟨_, h⟩ := g.d h
    exact .dct h
  | _, _, .tup h t l => .tup (g.t h) (DVs.kd g t) l
theorem DVs.kd {H H' : Hp} (g : DKp H H') : ∀ {vs : List V} {ds : List Dt}, DVs H vs ds → DVs H' vs ds
  | _, _, .nil => .nil
  | _, _, .cons h t => .cons (DV.kd g h) (DVs.kd g t)
end
theorem DV.same {H H' : Hp} (g : Same H H') {v : V} {d : Dt} (h : DV H v d) : DV H' v d := h.kd (.of g)
theorem DVs.same {H H' : Hp} (g : Same H H') {v : List V} {d : List Dt} (h : DVs H v d) : DVs H' v d := h.kd (.of g)
theorem DVs.len {H : Hp} : ∀ {vs : List V} {ds : List Dt}, DVs H vs ds → vs.length = ds.length
  | _, _, .nil => rfl
  | _, _, .cons _ t => congrArg (· + 1) (DVs.len t)
theorem DVs.at_ {H : Hp} {v : V} : ∀ {i : Nat} {vs : List V} {ds : List Dt}, DVs H vs ds → vs[i]? = some v → ∃ d, ds[i]? = some d ∧ DV H v d
  | 0, _, _, .cons h t, e => by cases e; exact ⟨_, rfl, h⟩
  | i + 1, _, _, .cons h t, e => DVs.at_ (i := i) t e
  | _, _, _, .nil, e => by simp at e
theorem DVs.get {H : Hp} {d : Dt} : ∀ {i : Nat} {vs : List V} {ds : List Dt}, DVs H vs ds → ds[i]? = some d → ∃ v, vs[i]? = some v ∧ DV H v d
  | 0, _, _, .cons h t, e => by cases e; exact ⟨_, rfl, h⟩
  | i + 1, _, _, .cons h t, e => DVs.get (i := i) t e
  | _, _, _, .nil, e => by simp at e
theorem DVs.app {H : Hp} : ∀ {vs ws : List V} {ds es : List Dt}, DVs H vs ds → DVs H ws es → DVs H (vs ++ ws) (ds ++ es)
  | _, _, _, _, .nil, t => t
  | _, _, _, _, .cons h r, t => .cons h (DVs.app r t)
theorem DVs.take {H : Hp} : ∀ {n : Nat} {vs : List V} {ds : List Dt}, DVs H vs ds → DVs H (vs.take n) (ds.take n)
  | 0, _, _, _ => by simp; exact .nil
  | n + 1, _, _, .nil => by simp; exact .nil
  | n + 1, _, _, .cons h t => .cons h (DVs.take t)
theorem DVs.drop {H : Hp} : ∀ {n : Nat} {vs : List V} {ds : List Dt}, DVs H vs ds → DVs H (vs.drop n) (ds.drop n)
  | 0, _, _, h => h
  | n + 1, _, _, .nil => by simp; exact .nil
  | n + 1, _ :: _, _ :: _, .cons h t => by
    rw [List.drop_succ_cons, List.drop_succ_cons]
    exact DVs.drop (n := n) t
theorem DVs.rev {H : Hp} : ∀ {vs : List V} {ds : List Dt}, DVs H vs ds → DVs H vs.reverse ds.reverse
  | _, _, .nil => .nil
  | _, _, .cons h t => by
    rw [List.reverse_cons, List.reverse_cons]
    exact DVs.app (DVs.rev t) (.cons h .nil)
theorem DVs.set {H : Hp} {v : V} {d : Dt} (h : DV H v d) : ∀ {n : Nat} {vs : List V} {ds : List Dt}, DVs H vs ds → DVs H (vs.set n v) (ds.set n d)
  | _, _, _, .nil => by simp; exact .nil
  | 0, _, _, .cons _ t => .cons h t
  | n + 1, _, _, .cons g t => .cons g (DVs.set h t)
/-! ### kinds -/
def Dt.isInt : Dt → Bool
  | .int _ => true
  | _ => false
def Dt.isBl : Dt → Bool
  | .bl _ => true
  | _ => false
def Dt.isTup : Dt → Bool
  | .tup _ => true
  | _ => false
def Dt.isNon : Dt → Bool
  | .non => true
  | _ => false
def Dt.toInt : Dt → Int
  | .int i => i
  | _ => 0
def Dt.wnn : Dt → Bool
  | .int i => decide (0 ≤ i)
  | _ => false
theorem DV.ty {K : PySem.W.Frag} {H : Hp} {v : V} {d : Dt} (h : DV H v d) : ∃ t, TyX K H v t ∧ PySem.W.kitOne K t (.type "int") = some (d.isInt || d.isBl) ∧ PySem.W.kitOne K t (.type "bool") = some d.isBl ∧ PySem.W.kitOne K t (.type "tuple") = some d.isTup := by
  cases h with
  | non => exact ⟨.type "NoneType", .base .non, by first | rfl | decide +kernel | kernel_rfl, by first | rfl | decide +kernel | kernel_rfl, by first | rfl | decide +kernel | kernel_rfl⟩
  | int i => exact ⟨.type "int", .base (.int i), by first | rfl | decide +kernel | kernel_rfl, by first | rfl | decide +kernel | kernel_rfl, by first | rfl | decide +kernel | kernel_rfl⟩
  | bl b => exact ⟨.type "bool", .base (.bl b), by first | rfl | decide +kernel | kernel_rfl, by first | rfl | decide +kernel | kernel_rfl, by first | rfl | decide +kernel | kernel_rfl⟩
  | str z => exact ⟨.type "str", .base (.str z), by first | rfl | decide +kernel | kernel_rfl, by first | rfl | decide +kernel | kernel_rfl, by first | rfl | decide +kernel | kernel_rfl⟩
  | tup h _ _ => exact ⟨.type "tuple", .base (.tup h), by first | rfl | decide +kernel | kernel_rfl, by first | rfl | decide +kernel | kernel_rfl, by first | rfl | decide +kernel | kernel_rfl⟩
  | lst h => exact ⟨.type "list", .base (.lst h), by first | rfl | decide +kernel | kernel_rfl, by first | rfl | decide +kernel | kernel_rfl, by first | rfl | decide +kernel | kernel_rfl⟩
  | dct h => exact ⟨.type "dict", .base (.dK h), by first | rfl | decide +kernel | kernel_rfl, by first | rfl | decide +kernel | kernel_rfl, by first | rfl | decide +kernel | kernel_rfl⟩
theorem DV.non_iff {H : Hp} {v : V} {d : Dt} (h : DV H v d) : decide (v = .non) = d.isNon := by
  cases h <;> simp [Dt.isNon]
theorem not_t {b : Bool} (h : (!b) = true) : b = false := by cases b <;> first | rfl | cases h
theorem not_f {b : Bool} (h : ¬ (!b) = true) : b = true := by cases b <;> first | rfl | exact absurd rfl h
/-! ### rows of truths -/
theorem all_getD {α : Type} {p : α → Bool} {x : α} : ∀ {l : List α}, ((List.range l.length).all fun i => p (l.getD i x)) = l.all p := by
  intro l
  rw [Bool.eq_iff_iff, List.all_eq_true, List.all_eq_true]
  constructor
  · intro h y hy
    obtain ⟨i, hi⟩ := List.mem_iff_getElem?.mp hy
    have hl := (List.getElem?_eq_some_iff.mp hi).1
    have := h i (List.mem_range.mpr hl)
    rw [List.getD_eq_getElem?_getD, hi] at this
    exact this
  · intro h i hi
    have hl := List.mem_range.mp hi
    have : l.getD i x = l[i] := by rw [List.getD_eq_getElem?_getD, List.getElem?_eq_getElem hl] <;> rfl
    rw [this]
    exact h _ (List.getElem_mem hl)
theorem all_id_map {α : Type} (f : α → Bool) (l : List α) : (l.map f).all id = l.all f := by rw [List.all_map]; rfl
section
variable {J : It} {n : Nat} {G : Hp → Prop} {Y : Nat → Hp → V → Hp → Prop}
/-- a comprehension of truths, each known -/
theorem lc_bools (w : Walk J n G Y) (f : Nat → Bool) {g : TG} {tt : L2.TT} {te : TE} {vs : List Nat} {σ : L2.St} {H1 : Hp} {D : Addr} {Qd : Hp → Prop} (hD : H1 D = none) (hn : n < 10000000) (hG : ∀ H, Same H1 H → G H)
    (hs : ∀ i x H H', i < n → Same H1 H → Y i H x H' → ∀ (Q4 : VK) (N : Hp → Prop), (∀ H4, Same H H4 → Q4 (.bl (f i)) H4) → g x (wipe σ vs) H' fun σ2 H2 => wipe σ2 vs = wipe σ vs ∧ tt σ2 H2 fun b H3 => if b = true then te σ2 H3 Q4 else N H3)
    (hd : ∀ H, Same H1 H → H D = some (.lst (((List.range n).map f).map V.bl)) → Qd H) :
    ∃ W : Nat → Nat → Hp → Prop, (∃ m, W 0 m (upd H1 D (.lst []))) ∧ ∀ i m H, W i m H →
      (J.stop i H ∧ Qd H) ∨ (J.go i H ∧ ∃ Nx : Hp → Prop, (∀ H', Nx H' → ∃ m', m' < m ∧ W (i + 1) m' H') ∧ ∀ x H', J.yld i H x H' → g x (wipe σ vs) H' fun σ2 H2 => wipe σ2 vs = wipe σ vs ∧ tt σ2 H2 fun b H3 =>
        if b = true then te σ2 H3 fun y H4 => ∃ acc, H4 D = some (.lst acc) ∧ acc.length < sizeLine ∧ Nx (upd H4 D (.lst (acc ++ [y]))) else Nx H3) := by
  refine lc_it w (fun i H => Same H1 H ∧ H D = some (.lst (((List.range i).map f).map V.bl))) ⟨same_new hD _, upd_same⟩ (fun i H _ z => hG H z.1) (fun i x H H' hi z y => ?_) fun H z => hd H z.1 z.2
  refine hs i x H H' hi z.1 y _ _ fun H4 g4 => ?_
  refine ⟨_, g4 _ _ z.2, szt (by rw [List.length_map, List.length_map, List.length_range]; omega), fun b o q => ?_, ?_⟩
  · rw [upd_ne (ne_of_none q hD)]; exact g4 _ _ (z.1 _ _ q)
  · rw [upd_same, List.range_succ, List.map_append, List.map_append] <;> rfl
end
section
variable {J : It} {n : Nat} {G : Hp → Prop} {Y : Nat → Hp → V → Hp → Prop}
/-- a comprehension of values, each known -/
theorem lc_vals (w : Walk J n G Y) (f : Nat → V) {g : TG} {tt : L2.TT} {te : TE} {vs : List Nat} {σ : L2.St} {H1 : Hp} {D : Addr} {Qd : Hp → Prop} (hD : H1 D = none) (hn : n < 10000000) (hG : ∀ H, Same H1 H → G H)
    (hs : ∀ i x H H', i < n → Same H1 H → Y i H x H' → ∀ (Q4 : VK) (N : Hp → Prop), (∀ H4, Same H H4 → Q4 (f i) H4) → g x (wipe σ vs) H' fun σ2 H2 => wipe σ2 vs = wipe σ vs ∧ tt σ2 H2 fun b H3 => if b = true then te σ2 H3 Q4 else N H3)
    (hd : ∀ H, Same H1 H → H D = some (.lst ((List.range n).map f)) → Qd H) :
    ∃ W : Nat → Nat → Hp → Prop, (∃ m, W 0 m (upd H1 D (.lst []))) ∧ ∀ i m H, W i m H →
      (J.stop i H ∧ Qd H) ∨ (J.go i H ∧ ∃ Nx : Hp → Prop, (∀ H', Nx H' → ∃ m', m' < m ∧ W (i + 1) m' H') ∧ ∀ x H', J.yld i H x H' → g x (wipe σ vs) H' fun σ2 H2 => wipe σ2 vs = wipe σ vs ∧ tt σ2 H2 fun b H3 =>
        if b = true then te σ2 H3 fun y H4 => ∃ acc, H4 D = some (.lst acc) ∧ acc.length < sizeLine ∧ Nx (upd H4 D (.lst (acc ++ [y]))) else Nx H3) := by
  refine lc_it w (fun i H => Same H1 H ∧ H D = some (.lst ((List.range i).map f))) ⟨same_new hD _, upd_same⟩ (fun i H _ z => hG H z.1) (fun i x H H' hi z y => ?_) fun H z => hd H z.1 z.2
  refine hs i x H H' hi z.1 y _ _ fun H4 g4 => ?_
  refine ⟨_, g4 _ _ z.2, szt (by rw [List.length_map, List.length_range]; omega), fun b o q => ?_, ?_⟩
  · rw [upd_ne (ne_of_none q hD)]; exact g4 _ _ (z.1 _ _ q)
  · rw [upd_same, List.range_succ, List.map_append] <;> rfl
end
/-- all pairs of one list and another: truths, each known -/
def rowsB (f : Nat → Nat → Bool) (n m : Nat) : List Bool := (List.range n).flatMap fun i => (List.range m).map (f i)
theorem rowsB_all (f : Nat → Nat → Bool) (n m : Nat) : (rowsB f n m).all id = (List.range n).all fun i => (List.range m).all (f i) := by
  unfold rowsB
  rw [List.all_flatMap]
  congr 1
  funext i
  exact all_id_map _ _
theorem rowsB_succ (f : Nat → Nat → Bool) (n m : Nat) : rowsB f (n + 1) m = rowsB f n m ++ (List.range m).map (f n) := by
  unfold rowsB
  rw [List.range_succ, List.flatMap_append]; simp
theorem rowsB_len (f : Nat → Nat → Bool) : ∀ n m : Nat, (rowsB f n m).length = n * m
  | 0, m => by simp [rowsB]
  | n + 1, m => by rw [rowsB_succ, List.length_append, rowsB_len f n m, List.length_map, List.length_range, Nat.succ_mul]
theorem lc2_bools {K : PySem.W.Frag} {a b D : Addr} {xs ys : List V} {s0 i0 i1 : Nat} {te : TE} {vs vs1 : List Nat} {σ : L2.St} {H1 : Hp} {Qd : Hp → Prop} (f : Nat → Nat → Bool) (hD : H1 D = none) (ha : H1 a = some (.lst xs)) (hb : H1 b = some (.lst ys)) (hn : xs.length * ys.length < 1000000)
    (hv : ∀ x, ((wipe σ vs).set i0 (some x))[s0]? = some (some (.ref b))) (hw : ∀ x, wipe ((wipe σ vs).set i0 (some x)) vs = wipe σ vs) (hw1 : ∀ x y, wipe ((wipe ((wipe σ vs).set i0 (some x)) vs1).set i1 (some y)) vs1 = wipe ((wipe σ vs).set i0 (some x)) vs1)
    (hs : ∀ i j x y H, xs[i]? = some x → ys[j]? = some y → Same H1 H → ∀ Q4 : VK, (∀ H4, Same H H4 → Q4 (.bl (f i j)) H4) → te ((wipe ((wipe σ vs).set i0 (some x)) vs1).set i1 (some y)) H Q4)
    (hd : ∀ H, Same H1 H → H D = some (.lst ((rowsB f xs.length ys.length).map V.bl)) → Qd H) :
    ∃ W : Nat → Nat → Hp → Prop, (∃ m, W 0 m (upd H1 D (.lst []))) ∧ ∀ i m H, W i m H →
      ((Itl K a).stop i H ∧ Qd H) ∨ ((Itl K a).go i H ∧ ∃ Nx : Hp → Prop, (∀ H', Nx H' → ∃ m', m' < m ∧ W (i + 1) m' H') ∧ ∀ x H', (Itl K a).yld i H x H' → gName i0 x (wipe σ vs) H' fun σ2 H2 => wipe σ2 vs = wipe σ vs ∧ tYes σ2 H2 fun b H3 =>
        if b = true then iList K (tVar s0) σ2 H3 fun J1 H4 => ∃ W1 : Nat → Nat → Hp → Prop, (∃ m, W1 0 m H4) ∧ ∀ j k H, W1 j k H →
          (J1.stop j H ∧ Nx H) ∨ (J1.go j H ∧ ∃ Nx1 : Hp → Prop, (∀ H', Nx1 H' → ∃ k', k' < k ∧ W1 (j + 1) k' H') ∧ ∀ x H', J1.yld j H x H' → gName i1 x (wipe σ2 vs1) H' fun σ3 H5 => wipe σ3 vs1 = wipe σ2 vs1 ∧ tYes σ3 H5 fun b H6 =>
            if b = true then te σ3 H6 fun y H7 => ∃ acc, H7 D = some (.lst acc) ∧ acc.length < sizeLine ∧ Nx1 (upd H7 D (.lst (acc ++ [y]))) else Nx1 H6)
        else Nx H3) := by
  have w1 := walk_list (K := K) (a := a) (xs := xs)
  have w2 := walk_list (K := K) (a := b) (xs := ys)
  refine ⟨fun i m H' => m = xs.length - i ∧ i ≤ xs.length ∧ Same H1 H' ∧ H' D = some (.lst ((rowsB f i ys.length).map V.bl)), ⟨_, rfl, Nat.zero_le _, same_new hD _, upd_same⟩, ?_⟩
  rintro i m H3 ⟨rfl, hi, g3, h3⟩
  by_cases hlt : i < xs.length
  rotate_left
  · have e : i = xs.length := by omega
    subst e
    exact .inl ⟨w1.stops H3 (.of (g3 _ _ ha)), hd _ g3 h3⟩
  refine .inr ⟨w1.goes i H3 hlt (.of (g3 _ _ ha)), fun H' => i + 1 ≤ xs.length ∧ Same H1 H' ∧ H' D = some (.lst ((rowsB f (i + 1) ys.length).map V.bl)), fun H' z => ⟨xs.length - (i + 1), by omega, rfl, z.1, z.2⟩, fun x H' hy => ?_⟩
  obtain ⟨rfl, hx⟩ := w1.yields i H3 x H' hlt (.of (g3 _ _ ha)) hy
  refine ⟨hw x, ?_⟩
  unfold tYes
  refine iteT ⟨_, hv x, b, rfl, ⟨_, .of (g3 _ _ hb)⟩, ?_⟩
  refine ⟨fun j m H' => m = ys.length - j ∧ j ≤ ys.length ∧ Same H1 H' ∧ H' D = some (.lst ((rowsB f i ys.length ++ (List.range j).map (f i)).map V.bl)), ⟨_, rfl, Nat.zero_le _, g3, by rw [h3]; simp⟩, ?_⟩
  rintro j m H4 ⟨rfl, hj, g4, h4⟩
  by_cases hjt : j < ys.length
  rotate_left
  · have e : j = ys.length := by omega
    subst e
    exact .inl ⟨w2.stops H4 (.of (g4 _ _ hb)), hlt, g4, by rw [h4, rowsB_succ]⟩
  refine .inr ⟨w2.goes j H4 hjt (.of (g4 _ _ hb)), fun H' => j + 1 ≤ ys.length ∧ Same H1 H' ∧ H' D = some (.lst ((rowsB f i ys.length ++ (List.range (j + 1)).map (f i)).map V.bl)), fun H' z => ⟨ys.length - (j + 1), by omega, rfl, z.1, z.2⟩, fun y H' hy => ?_⟩
  obtain ⟨rfl, hyy⟩ := w2.yields j H4 y H' hjt (.of (g4 _ _ hb)) hy
  refine ⟨hw1 x y, ?_⟩
  refine iteT ?_
  refine hs i j x y _ hx hyy g4 _ fun H5 g5 => ?_
  refine ⟨_, g5 _ _ h4, szt ?_, hjt, fun c o q => ?_, ?_⟩
  · rw [List.length_map, List.length_append, rowsB_len, List.length_map, List.length_range]
    have : i * ys.length ≤ xs.length * ys.length := Nat.mul_le_mul_right _ hi
    have : ys.length ≤ xs.length * ys.length := Nat.le_mul_of_pos_left _ (by omega)
    omega
  · rw [upd_ne (ne_of_none q hD)]; exact g5 _ _ (g4 _ _ q)
  · rw [upd_same, List.range_succ]
    simp
/-! ### slices and sums of tuples, whichever object tells them -/
section
variable {K : PySem.W.Frag} {a b : Addr} {xs ys : List V} {H : Hp} {Q : VK}
theorem slA_any {lo hi : Option Int} (h : H a = some (.tup xs)) (k : ∀ b H', Same H H' → H' b = some (.tup (cutV xs lo hi)) → Q (.ref b) H') : rSlA K (.ref a) lo hi H Q := by
  refine ⟨a, xs, rfl, .of h, fun z => k a H (Same.refl _) ?_, fun z p hp => k p _ (same_new hp _) upd_same⟩
  have e : cutV xs lo hi = xs := by
    unfold cutV
    rw [z.1, z.2, List.drop_zero]
    exact List.take_of_length_le (by omega)
  rw [e]; exact h
theorem noP_in {σ : L2.St} {k : Option Int → Hp → Prop} (h : k none H) : tNoPart σ H k := h
theorem catA_any (ha : H a = some (.tup xs)) (hb : H b = some (.tup ys)) (hl : xs.length + ys.length ≤ 10000000) (k : ∀ c H', Same H H' → H' c = some (.tup (xs ++ ys)) → Q (.ref c) H') : rCatA K (.ref a) (.ref b) H Q := by
  refine ⟨a, b, xs, ys, rfl, rfl, .of ha, .of hb, szl hl, fun z => k b H (Same.refl _) ?_, fun _ z => k a H (Same.refl _) ?_, fun _ _ p hp => k p _ (same_new hp _) upd_same⟩
  · rw [z]; exact hb
  · rw [z, List.append_nil]; exact ha
theorem cutA_from {n : Nat} : cutV xs (some ((n : Nat) : Int)) none = xs.drop n := by
  have h1 : HT.sIx xs.length 0 (some ((n : Nat) : Int)) = min n xs.length := HT.sIx_nat _ _ n
  have h2 : HT.sIx xs.length xs.length none = xs.length := rfl
  unfold cutV
  rw [h1, h2]
  by_cases c : n ≤ xs.length
  · rw [Nat.min_eq_left c]; exact List.take_of_length_le (by rw [List.length_drop]; omega)
  · rw [Nat.min_eq_right (by omega), List.drop_of_length_le (by omega : xs.length ≤ n), List.drop_length, List.take_nil]
theorem cutA_to {n : Nat} : cutV xs none (some ((n : Nat) : Int)) = xs.take n := by
  have h1 : HT.sIx xs.length xs.length (some ((n : Nat) : Int)) = min n xs.length := HT.sIx_nat _ _ n
  have h2 : HT.sIx xs.length 0 none = 0 := rfl
  unfold cutV
  rw [h1, h2, List.drop_zero, Nat.sub_zero]
  by_cases c : n ≤ xs.length
  · rw [Nat.min_eq_left c]
  · rw [Nat.min_eq_right (by omega), List.take_length, List.take_of_length_le (by omega)]
end
/-! ### None in a tuple -/
def rInT (K : PySem.W.Frag) (neg : Bool) : R2 := fun x y H Q => ∃ d ds, Dp K H x d ∧ Dp K H y (.tuple ds) ∧ SeqAt.shaped d = true ∧ SeqAt.shaped (.tuple ds) = true ∧ Q (.bl (if neg then !(ds.any fun z => PyData.eqv z d) else ds.any fun z => PyData.eqv z d)) H
section
variable {X : Cx}
theorem op_inT {K : PySem.W.Frag} (hu : X.A.units + 65 < cLine) (e : X.K = K := by rfl) : OpR X (compareOp .In) (rInT K false) := by
  subst e
  intro pins s σ H x y v u Q I rx ry h
  obtain ⟨d, ds, hd, he, sd, se, q⟩ := h
  obtain ⟨as, r1⟩ := Dp.reads I d x v hd rx
  obtain ⟨bs, r2⟩ := Dp.reads I (.tuple ds) y u he ry
  exact SeqAt.in_tuple_reads r2 r1 (SeqAt.canLay_of_shaped se) (SeqAt.canLay_of_shaped sd) (room_in_shaped sd hu) ⟨.bl _, H, I, rfl, q⟩
theorem op_notInT {K : PySem.W.Frag} (hu : X.A.units + 65 < cLine) (e : X.K = K := by rfl) : OpR X (compareOp .NotIn) (rInT K true) := by
  subst e
  intro pins s σ H x y v u Q I rx ry h
  obtain ⟨d, ds, hd, he, sd, se, q⟩ := h
  obtain ⟨as, r1⟩ := Dp.reads I d x v hd rx
  obtain ⟨bs, r2⟩ := Dp.reads I (.tuple ds) y u he ry
  exact SeqAt.notIn_tuple_reads r2 r1 (SeqAt.canLay_of_shaped se) (SeqAt.canLay_of_shaped sd) (room_in_shaped sd hu) ⟨.bl _, H, I, rfl, q⟩
end
end Fp
/-! rows of views, as data: what the program asks, what the law asks, and that both are one -/
namespace Fp
open PySem PySem.Spec PyProof.Rows L2
def adjLt (l : List Int) : Bool := (List.range (l.length - 1)).all fun i => decide (l.getD i 0 < l.getD (i + 1) 0)
theorem getD_lt {l : List Int} {i : Nat} (h : i < l.length) : l.getD i 0 = l[i] := by rw [List.getD_eq_getElem?_getD, List.getElem?_eq_getElem h] <;> rfl
theorem adjLt_iff : ∀ {l : List Int}, adjLt l = true ↔ l.Pairwise (· < ·)
  | [] => by simp [adjLt]
  | [a] => by simp [adjLt]
  | a :: b :: r => by
    have ih := adjLt_iff (l := b :: r)
    have e : adjLt (a :: b :: r) = (decide (a < b) && adjLt (b :: r)) := by
      unfold adjLt
      rw [show (a :: b :: r).length - 1 = r.length + 1 by simp, List.range_succ_eq_map, List.all_cons, List.all_map]
      simp [Function.comp_def]
    rw [e, Bool.and_eq_true, ih, decide_eq_true_iff]
    constructor
    · rintro ⟨h1, h2⟩
      refine List.pairwise_cons.mpr ⟨fun x hx => ?_, h2⟩
      rcases List.mem_cons.mp hx with rfl | hx
      · exact h1
      · exact Int.lt_trans h1 ((List.pairwise_cons.mp h2).1 x hx)
    · intro h
      exact ⟨(List.pairwise_cons.mp h).1 b (by simp), (List.pairwise_cons.mp h).2⟩
def lotOf : Dt → List Int
  | .tup ds => ds.map Dt.toInt
  | _ => []
def lotB : Dt → Bool
  | .tup ds => ds.all Dt.wnn && adjLt (ds.map Dt.toInt)
  | _ => false
def viewB (n h : Int) (d : Dt) : Bool := lotB d && (decide (h ∈ lotOf d) && decide ((lotOf d).getLastD 0 < n))
def fitB (p q : Int × List Int) : Bool := if q.1 ∈ p.2 then q.2.all (fun x => decide (x ∈ p.2)) else p.2.all (fun x => decide (x ∈ q.2))
/-- where a row has views -/
def thr (ds : List Dt) : List Nat := (List.range ds.length).filter fun i => !(ds.getD i .non).isNon
def vwAt (ds : List Dt) (i : Nat) : List Int := lotOf (ds.getD i .non)
def prs (ds : List Dt) : List (Int × List Int) := (thr ds).map fun i : Nat => (((i : Nat) : Int), vwAt ds i)
def vwsB (n : Int) (ds : List Dt) : Bool := (List.range ds.length).all fun i => (ds.getD i .non).isNon || viewB n i (ds.getD i .non)
def atB (n : Nat) : Dt → Bool
  | .tup ds => decide (ds.length = n) && (vwsB n ds && (decide (0 < (prs ds).length) && (prs ds).all fun p => (prs ds).all fun q => fitB p q))
  | _ => false
def hasNon : Dt → Bool
  | .tup ds => ds.any Dt.isNon
  | _ => false
def wholeB (n : Nat) (d : Dt) : Bool := atB n d && !hasNon d
/-- the law's own look -/
def inB (n : Int) (d : Dt) : Bool := d.isInt && decide (0 ≤ d.toInt ∧ d.toInt ≤ n)
def lotOfB (n : Int) : Dt → Bool
  | .tup ds => ds.all (inB (n - 1)) && adjLt (ds.map Dt.toInt)
  | _ => false
def withinB (l m : List Int) : Bool := l.all fun x => decide (x ∈ m)
def okPair (ds : List Dt) (i j : Nat) : Bool :=
  (withinB (vwAt ds i) (vwAt ds j) || withinB (vwAt ds j) (vwAt ds i)) && !(decide (((i : Nat) : Int) ∈ vwAt ds j) && !withinB (vwAt ds i) (vwAt ds j))
def lawVw (n : Int) (ds : List Dt) (i : Nat) : Bool := lotOfB n (ds.getD i .non) && decide ((i : Int) ∈ vwAt ds i)
def lawRowB (n : Nat) : Dt → Bool
  | .tup ds => (decide (ds.length = n) && !(ds.all Dt.isNon)) && ((thr ds).all (lawVw n ds) && (thr ds).all fun i => (thr ds).all fun j => okPair ds i j)
  | _ => false
theorem mem_thr {ds : List Dt} {i : Nat} : i ∈ thr ds ↔ i < ds.length ∧ (ds.getD i .non).isNon = false := by
  unfold thr
  rw [List.mem_filter, List.mem_range]
  simp
theorem last_lt {l : List Int} (hp : l.Pairwise (· < ·)) (x : Int) (hx : x ∈ l) : x ≤ l.getLastD 0 := by
  rcases List.eq_nil_or_concat l with rfl | ⟨l0, z, e⟩
  · cases hx
  · rw [List.concat_eq_append] at e
    subst e
    rw [List.getLastD_eq_getLast?, List.getLast?_append]
    simp only [List.getLast?_singleton, Option.some_or, Option.getD_some]
    rcases List.mem_append.mp hx with h | h
    · exact Int.le_of_lt ((List.pairwise_append.mp hp).2.2 x h z (by simp))
    · rw [List.mem_singleton.mp h]; exact Int.le_refl _
theorem last_mem {l : List Int} (h : l ≠ []) : l.getLastD 0 ∈ l := by
  rcases List.eq_nil_or_concat l with rfl | ⟨l0, z, e⟩
  · exact absurd rfl h
  · rw [List.concat_eq_append] at e
    subst e
    rw [List.getLastD_eq_getLast?, List.getLast?_append]
    simp
theorem wnn_iff {x : Dt} : x.wnn = true ↔ x.isInt = true ∧ 0 ≤ x.toInt := by
  cases x <;> simp [Dt.wnn, Dt.isInt, Dt.toInt]
theorem inB_iff {n : Int} {x : Dt} : inB n x = true ↔ x.isInt = true ∧ 0 ≤ x.toInt ∧ x.toInt ≤ n := by
  unfold inB
  rw [Bool.and_eq_true, decide_eq_true_iff]
theorem lotB_tup {es : List Dt} : lotB (.tup es) = true ↔ (∀ x ∈ es, x.isInt = true ∧ 0 ≤ x.toInt) ∧ (es.map Dt.toInt).Pairwise (· < ·) := by
  show (es.all Dt.wnn && adjLt (es.map Dt.toInt)) = true ↔ _
  rw [Bool.and_eq_true, List.all_eq_true, adjLt_iff]
  exact and_congr (forall_congr' fun x => forall_congr' fun _ => wnn_iff) Iff.rfl
theorem lotOfB_tup {n : Int} {es : List Dt} : lotOfB n (.tup es) = true ↔ (∀ x ∈ es, x.isInt = true ∧ 0 ≤ x.toInt ∧ x.toInt ≤ n - 1) ∧ (es.map Dt.toInt).Pairwise (· < ·) := by
  show (es.all (inB (n - 1)) && adjLt (es.map Dt.toInt)) = true ↔ _
  rw [Bool.and_eq_true, List.all_eq_true, adjLt_iff]
  exact and_congr (forall_congr' fun x => forall_congr' fun _ => inB_iff) Iff.rfl
theorem viewB_iff {n h : Int} {d : Dt} : viewB n h d = true ↔ lotB d = true ∧ h ∈ lotOf d ∧ (lotOf d).getLastD 0 < n := by
  unfold viewB
  rw [Bool.and_eq_true, Bool.and_eq_true, decide_eq_true_iff, decide_eq_true_iff]
theorem lawVw_iff {n : Int} {ds : List Dt} {i : Nat} : lawVw n ds i = true ↔ lotOfB n (ds.getD i .non) = true ∧ ((i : Nat) : Int) ∈ lotOf (ds.getD i .non) := by
  unfold lawVw vwAt
  rw [Bool.and_eq_true, decide_eq_true_iff]
theorem view_one {n h : Int} {d : Dt} : viewB n h d = true ↔ lotOfB n d = true ∧ h ∈ lotOf d := by
  rw [viewB_iff]
  cases d with
  | tup es =>
    rw [lotB_tup, lotOfB_tup]
    show _ ∧ h ∈ es.map Dt.toInt ∧ (es.map Dt.toInt).getLastD 0 < n ↔ _ ∧ h ∈ es.map Dt.toInt
    constructor
    · rintro ⟨⟨h1, h2⟩, h3, h4⟩
      refine ⟨⟨fun x hx => ?_, h2⟩, h3⟩
      have l := last_lt h2 x.toInt (List.mem_map.mpr ⟨_, hx, rfl⟩)
      obtain ⟨a, b⟩ := h1 x hx
      exact ⟨a, b, by omega⟩
    · rintro ⟨⟨h1, h2⟩, h3⟩
      refine ⟨⟨fun x hx => ⟨(h1 x hx).1, (h1 x hx).2.1⟩, h2⟩, h3, ?_⟩
      have hm := last_mem (l := es.map Dt.toInt) (fun z => by rw [z] at h3; cases h3)
      obtain ⟨x, hx, e⟩ := List.mem_map.mp hm
      have hw := (h1 x hx).2.2
      rw [← e]
      omega
  | non => exact ⟨fun z => (by cases z.1), fun z => (by cases z.1)⟩
  | bl _ => exact ⟨fun z => (by cases z.1), fun z => (by cases z.1)⟩
  | int _ => exact ⟨fun z => (by cases z.1), fun z => (by cases z.1)⟩
  | oth => exact ⟨fun z => (by cases z.1), fun z => (by cases z.1)⟩
theorem view_law {n : Int} {ds : List Dt} {i : Nat} : viewB n i (ds.getD i .non) = lawVw n ds i := by
  rw [Bool.eq_iff_iff, lawVw_iff, view_one]
theorem vws_thr {n : Int} {ds : List Dt} : vwsB n ds = (thr ds).all (lawVw n ds) := by
  unfold vwsB
  rw [Bool.eq_iff_iff, List.all_eq_true, List.all_eq_true]
  constructor
  · intro h i hi
    obtain ⟨h1, h2⟩ := mem_thr.mp hi
    have := h i (List.mem_range.mpr h1)
    rw [h2, Bool.false_or, view_law] at this
    exact this
  · intro h i hi
    cases e : (ds.getD i .non).isNon with
    | true => rfl
    | false =>
      rw [Bool.false_or, view_law]
      exact h i (mem_thr.mpr ⟨List.mem_range.mp hi, e⟩)
theorem within_iff {l m : List Int} : withinB l m = true ↔ ∀ x ∈ l, x ∈ m := by
  unfold withinB
  simp
theorem fit_iff {a b : Int} {l m : List Int} : fitB (a, l) (b, m) = true ↔ (b ∈ l → ∀ x ∈ m, x ∈ l) ∧ (b ∉ l → ∀ x ∈ l, x ∈ m) := by
  unfold fitB
  dsimp only
  by_cases h : b ∈ l
  · rw [if_pos h]; simp [h]
  · rw [if_neg h]; simp [h]
theorem pair_iff {ds : List Dt} {i j : Nat} : okPair ds i j = true ↔ ((∀ x ∈ vwAt ds i, x ∈ vwAt ds j) ∨ ∀ x ∈ vwAt ds j, x ∈ vwAt ds i) ∧ ((i : Int) ∈ vwAt ds j → ∀ x ∈ vwAt ds i, x ∈ vwAt ds j) := by
  unfold okPair
  rw [Bool.and_eq_true, Bool.or_eq_true, within_iff, within_iff]
  refine and_congr Iff.rfl ?_
  rw [Bool.not_eq_true', Bool.and_eq_false_iff, decide_eq_false_iff_not, Bool.not_eq_false', within_iff]
  by_cases h : (i : Int) ∈ vwAt ds j <;> simp [h]
/-- both looks are one -/
theorem fits_pairs {n : Int} {ds : List Dt} (hv : (thr ds).all (lawVw n ds) = true) : ((prs ds).all fun p => (prs ds).all fun q => fitB p q) = (thr ds).all fun i => (thr ds).all fun j => okPair ds i j := by
  have own : ∀ i ∈ thr ds, (i : Int) ∈ vwAt ds i := fun i hi => by
    have := List.all_eq_true.mp hv i hi
    unfold lawVw at this
    rw [Bool.and_eq_true, decide_eq_true_eq] at this
    exact this.2
  unfold prs
  rw [List.all_map, Bool.eq_iff_iff]
  simp only [List.all_eq_true, Function.comp_apply, List.all_map]
  constructor
  · intro h i hi j hj
    have a := fit_iff.mp (h i hi j hj)
    have b := fit_iff.mp (h j hj i hi)
    refine pair_iff.mpr ⟨?_, b.1⟩
    by_cases c : (j : Int) ∈ vwAt ds i
    · exact .inr (a.1 c)
    · exact .inl (a.2 c)
  · intro h i hi j hj
    have a := pair_iff.mp (h i hi j hj)
    have b := pair_iff.mp (h j hj i hi)
    refine fit_iff.mpr ⟨b.2, fun c => ?_⟩
    rcases a.1 with z | z
    · exact z
    · exact absurd (z _ (own j hj)) c
theorem law_row {n : Nat} (hn : 0 < n) : ∀ d, lawRowB n d = atB n d
  | .tup ds => by
    unfold lawRowB atB
    dsimp only
    by_cases hl : ds.length = n
    · rw [decide_eq_true hl, Bool.true_and, Bool.true_and, vws_thr]
      cases hv : (thr ds).all (lawVw n ds) with
      | false => rw [Bool.false_and, Bool.false_and, Bool.and_false]
      | true =>
        rw [Bool.true_and, Bool.true_and, fits_pairs hv]
        congr 1
        rw [Bool.eq_iff_iff, decide_eq_true_eq, Bool.not_eq_true', List.all_eq_false]
        unfold prs
        rw [List.length_map, List.length_pos_iff_exists_mem]
        constructor
        · rintro ⟨d, hd, h⟩
          obtain ⟨i, hi⟩ := List.mem_iff_getElem?.mp hd
          refine ⟨i, mem_thr.mpr ⟨(List.getElem?_eq_some_iff.mp hi).1, ?_⟩⟩
          rw [List.getD_eq_getElem?_getD, hi]
          simpa using h
        · rintro ⟨i, hi⟩
          obtain ⟨h1, h2⟩ := mem_thr.mp hi
          refine ⟨ds[i], List.getElem_mem h1, ?_⟩
          rw [List.getD_eq_getElem?_getD, List.getElem?_eq_getElem h1] at h2
          simp only [Option.getD_some] at h2
          rw [h2]; simp
    · rw [decide_eq_false hl]
      rfl
  | .non => rfl
  | .bl _ => rfl
  | .int _ => rfl
  | .oth => rfl
end Fp
namespace Fp
open PySem PySem.Spec PyProof.Rows L2
def top (i : Nat) : Stmt := PySem.Challenge.pw_fewplaymany_k30_whole_what_is_no_row_of.main.body.getD i (.Pass ⟨0, 0, 0, 0⟩)
structure RTx (mg : Str → Option Value) : Prop where
  isinstance : mg "isinstance" = none
  int : mg "int" = none
  bool : mg "bool" = none
  tuple : mg "tuple" = none
  list : mg "list" = none
  all : mg "all" = none
  any : mg "any" = none
  len : mg "len" = none
  sum : mg "sum" = none
  abs : mg "abs" = none
  max : mg "max" = none
  min : mg "min" = none
  range : mg "range" = none
  repr : mg "repr" = none
  set : mg "set" = none
  sorted : mg "sorted" = none
  zip : mg "zip" = none
  enumerate : mg "enumerate" = none
  c_MOST_HANDS : ∃ t, mg "MOST_HANDS" = some (.int 5 t)
def spWhD : Sp := fun vs H Q _ => ∃ v d, vs = [v] ∧ DV H v d ∧ Q (.bl d.isInt) H
def spLotD : Sp := fun vs H Q _ => ∃ v d, vs = [v] ∧ DV H v d ∧ ∀ H', Same H H' → Q (.bl (lotB d)) H'
def spViewD : Sp := fun vs H Q _ => ∃ (n h : Int) (v : V) (d : Dt), vs = [.int n, .int h, v] ∧ DV H v d ∧ ∀ H', Same H H' → Q (.bl (viewB n h d)) H'
def spLiesD : Sp := fun vs H Q _ => ∃ (a b : Addr) (l m : List Int), vs = [.ref a, .ref b] ∧ H a = some (.tup (l.map V.int)) ∧ H b = some (.tup (m.map V.int)) ∧ l.length ≤ 1000 ∧ ∀ H', Same H H' → Q (.bl (withinB l m)) H'
def spFitD : Sp := fun vs H Q _ => ∃ (t u a b : Addr) (p q : Int) (l m : List Int), vs = [.ref t, .ref u] ∧ H t = some (.tup [.int p, .ref a]) ∧ H u = some (.tup [.int q, .ref b]) ∧ H a = some (.tup (l.map V.int)) ∧ H b = some (.tup (m.map V.int)) ∧ l.length ≤ 1000 ∧ m.length ≤ 1000 ∧ ∀ H', Same H H' → Q (.bl (fitB (p, l) (q, m))) H'
def spChkD : Sp := fun vs H Q _ => ∃ n : Nat, vs = [.int n] ∧ 1 ≤ n ∧ n ≤ 5 ∧ Q .non H
def spAtD : Sp := fun vs H Q _ => ∃ (n : Nat) (v : V) (d : Dt), vs = [.int n, v] ∧ 1 ≤ n ∧ n ≤ 5 ∧ DV H v d ∧ ∀ H', Same H H' → Q (.bl (atB n d)) H'
def spRowD : Sp := fun vs H Q _ => ∃ (n : Nat) (v : V) (d : Dt), vs = [.int n, v] ∧ 1 ≤ n ∧ n ≤ 5 ∧ DV H v d ∧ ∀ H', Same H H' → Q (.bl (wholeB n d)) H'
theorem int_flat : ∀ l : List Int, (l.map V.int).all flatV = true
  | [] => rfl
  | a :: l => by
    show (flatV (V.int a) && (l.map V.int).all flatV) = true
    rw [int_flat l]; rfl
theorem inV_int (p : Int) (l : List Int) : inV (.int p) (l.map V.int) = decide (p ∈ l) := by
  unfold inV
  rw [List.any_map, Bool.eq_iff_iff, List.any_eq_true, decide_eq_true_iff]
  have e : ∀ a b : Int, eqV (V.int a) (V.int b) = true ↔ a = b := fun a b => by
    show (a == b) = true ↔ a = b
    rw [beq_iff_eq]
  constructor
  · rintro ⟨x, hx, h⟩
    have := (e x p).mp h
    rw [← this]; exact hx
  · intro h
    exact ⟨p, h, (e p p).mpr rfl⟩
theorem inI (p : Int) (l : List Int) : (if false = true then !inV (.int p) (l.map V.int) else inV (.int p) (l.map V.int)) = decide (p ∈ l) := by rw [inV_int]; rfl
theorem op_in_seqK {X : Cx} {K : PySem.W.Frag} (e : X.K = K := by rfl) : OpR X (compareOp .In) (rIn K false) := by subst e; exact op_in_seq
/-- a lot's values -/
theorem DVs.ints {H : Hp} : ∀ {xs : List V} {ds : List Dt}, DVs H xs ds → (∀ x ∈ ds, x.isInt = true) → xs = (ds.map Dt.toInt).map V.int
  | _, _, .nil, _ => rfl
  | _, _, .cons h t, k => by
    have e := DVs.ints t fun x hx => k x (List.mem_cons_of_mem _ hx)
    have i := k _ List.mem_cons_self
    cases h with
    | int i => rw [e]; rfl
    | _ => cases i
theorem DV.lot {H : Hp} {v : V} {d : Dt} (h : DV H v d) (l : lotB d = true) : ∃ a, v = .ref a ∧ H a = some (.tup ((lotOf d).map V.int)) ∧ (lotOf d).length ≤ 1000 := by
  cases h with
  | @tup a xs ds ha t hl =>
    have := DVs.ints t fun x hx => ((lotB_tup.mp l).1 x hx).1
    rw [this] at ha
    exact ⟨a, rfl, ha, by show (ds.map Dt.toInt).length ≤ _; rw [List.length_map]; exact hl⟩
  | _ => cases l
section
variable {P : Program} {w : World} {K : PySem.W.Frag} {mg : Str → Option Value} {base : Heap} {f : Addr} {fd : FuncData} {C : Addr}
abbrev s_is_whole : Stmt := top 5
theorem sc_is_whole : FnScope ["value"] ["value"] (defScope s_is_whole) := ⟨rfl, rfl, rfl, by decide +kernel, rfl, by decide +kernel, by decide +kernel⟩
theorem ok_is_whole (F : Fun K "is_whole" "is_whole" s_is_whole f fd) (T : RTx mg) : FnOk P w K mg base CX0 1 f fd ["value"] spWhD := by
  refine F.ok sc_is_whole (fun vs H Q E h => ?_) (fun cdv A outer s H vs Q E hr h => ?_)
  · obtain ⟨v, d, rfl, _⟩ := h
    rfl
  obtain ⟨v, d, rfl, hd, q⟩ := h
  refine ⟨_, (pss_one (ps_ret (pe_and (pe_callB call_isi rfl T.isinstance (by decide +kernel) (pa_cons (pv 0) (pa_cons (pe_bltn (v := .ty "int") rfl T.int boot_int rfl) pa_nil))) (pe_one (pe_not (pe_callB call_isi rfl T.isinstance (by decide +kernel) (pa_cons (pv 0) (pa_cons (pe_bltn (v := .ty "bool") rfl T.bool boot_bool rfl) pa_nil)))))))), ?_⟩
  obtain ⟨t, ty, k1, k2, _⟩ := hd.ty (K := K)
  refine ⟨_, rfl, _, _, _, _, _, rfl, .ty "int", ty, k1, _, rfl, ite2 (fun c => ?_) (fun c => ?_)⟩
  · refine ⟨_, rfl, _, _, _, _, _, rfl, .ty "bool", ty, k2, _, rfl, ?_⟩
    have e : d.isInt = !d.isBl := by cases d <;> first | rfl | cases c
    rw [e] at q
    exact q
  · have e : d.isInt = false := by cases d <;> first | rfl | exact absurd rfl c
    rw [e] at q
    exact q
abbrev s_check_many : Stmt := top 15
theorem sc_check_many : FnScope ["many"] ["many"] (defScope s_check_many) := ⟨rfl, rfl, rfl, by decide +kernel, rfl, by decide +kernel, by decide +kernel⟩
theorem ok_check_many (F : Fun K "check_many" "check_many" s_check_many f fd) (T : RTx mg) (G_is_whole : Fd P w K mg base CX0 "is_whole" 1 ["value"] spWhD) : FnOk P w K mg base CX0 2 f fd ["many"] spChkD := by
  refine F.ok sc_check_many (fun vs H Q E h => ?_) (fun cdv A outer s H vs Q E hr h => ?_)
  · obtain ⟨n, rfl, _⟩ := h
    rfl
  obtain ⟨n, rfl, h1, h5, k⟩ := h
  refine ⟨_, (pss_one (ps_if (PW.pt (pw_or (pt_not (pt_val (pe_fd G_is_whole (hr.mono (by first | decide | omega)) rfl (pa_cons (pv 0) pa_nil)))) (pw_or1 (pt_not (pt_chain op_le op_le pe_int (pv 0) (pe_cI T.c_MOST_HANDS)))))) (pss_one (ps_no)) pss_nil)), ?_⟩
  have hn : (1 : Int) ≤ n ∧ (n : Int) ≤ 5 := by omega
  refine ⟨_, rfl, _, _, rfl, .int n, _, rfl, iteF ⟨_, rfl, _, _, rfl, rfl, _, rfl, ite_yes (decide_eq_true hn.1) ⟨_, _, rfl, rfl, _, rfl, ?_⟩⟩⟩
  rw [decide_eq_true hn.2]
  exact iteF k
abbrev s_is_lot : Stmt := top 6
theorem sc_is_lot : FnScope ["value", "one", "other", "thing"] ["value"] (defScope s_is_lot) := ⟨rfl, rfl, rfl, by decide +kernel, rfl, by decide +kernel, by decide +kernel⟩
theorem ok_is_lot (F : Fun K "is_lot" "is_lot" s_is_lot f fd) (T : RTx mg) (G_is_whole : Fd P w K mg base CX0 "is_whole" 1 ["value"] spWhD) : FnOk P w K mg base CX0 2 f fd ["value"] spLotD := by
  refine F.ok sc_is_lot (fun vs H Q E h => ?_) (fun cdv A outer s H vs Q E hr h => ?_)
  · obtain ⟨v, d, rfl, _⟩ := h
    rfl
  obtain ⟨v, d, rfl, hd, k⟩ := h
  refine ⟨_, (pss_cons (ps_if (pt_not (pt_val (pe_callB call_isi rfl T.isinstance (by decide +kernel) (pa_cons (pv 0) (pa_cons (pe_bltn (v := .ty "tuple") rfl T.tuple boot_tuple rfl) pa_nil))))) (pss_one (ps_ret pe_bl)) pss_nil)
  (pss_cons (ps_if (pt_not (pt_val (pe_callB (cr_all rfl) rfl T.all (by decide +kernel) (pa_cons (pe_lc (own := [("thing", 3)]) (g := (gName 3)) (tt := tYes) rfl sc_is_lot.nd (pi_tup (pv 0)) (blkOk_by (own := [("thing", 3)]) (N := ["value", "one", "other", "thing"]) (sc := defScope s_is_lot) (by decide +kernel)) (fun _ _ _ _ _ => (pg_name (i := 3) sc_is_lot.nd rfl (Or.inl rfl))) (fun _ _ _ _ _ => pts_nil) (fun _ _ _ _ _ => (pe_and (pe_fd G_is_whole (hr.mono (by first | decide | omega)) rfl (pa_cons (pv 3) pa_nil)) (pe_one (pe_cmpR op_ge (pv 3) pe_int (nomark _)))))) pa_nil)))) (pss_one (ps_ret pe_bl)) pss_nil)
  (pss_one (ps_ret (pe_callB (cr_all rfl) rfl T.all (by decide +kernel) (pa_cons (pe_lc (own := [("one", 1), ("other", 2)]) (g := (gTup K 2 (gCons (gName 1) (gCons (gName 2) gNil)))) (tt := tYes) rfl sc_is_lot.nd (RZ.pi_zipA rfl T.zip (pa_cons (pv 0) (pa_cons (pe_slice sl_tupA (pv 0) (po_some pe_int) po_none) pa_nil))) (blkOk_by (own := [("one", 1), ("other", 2)]) (N := ["value", "one", "other", "thing"]) (sc := defScope s_is_lot) (by decide +kernel)) (fun _ _ _ _ _ => (pg_tup rfl (pgs_cons (pg_name (i := 1) sc_is_lot.nd rfl (Or.inl rfl)) (pgs_cons (pg_name (i := 2) sc_is_lot.nd rfl (Or.inl rfl)) pgs_nil)))) (fun _ _ _ _ _ => pts_nil) (fun _ _ _ _ _ => (pe_cmpR op_lt (pv 1) (pv 2) (nomark _)))) pa_nil)))))), ?_⟩
  obtain ⟨t, ty, _, _, k3⟩ := hd.ty (K := K)
  refine ⟨_, rfl, _, _, _, _, _, rfl, .ty "tuple", ty, k3, _, rfl, ite2 (fun c => ?_) (fun c => ?_)⟩
  · have e : lotB d = false := by cases d <;> first | rfl | cases c
    rw [e] at k
    exact k _ (Same.refl _)
  cases hd with
  | @tup a xs ds ha hds hl =>
    have hxl := hds.len
    refine ⟨_, rfl, a, rfl, ⟨_, .of ha⟩, fun D hD => ?_⟩
    refine lc_bools walk_tup (fun i => (ds.getD i .non).wnn) hD (by omega) (fun H' g => .of (g _ _ ha)) (fun i x H1 H2 hi g y Q4 N kk => ?_) fun H1 g1 h1 => ?_
    · obtain ⟨rfl, hx⟩ := y
      obtain ⟨dx, hdx, vx⟩ := DVs.at_ hds hx
      have eg : ds.getD i .non = dx := by rw [List.getD_eq_getElem?_getD, hdx] <;> rfl
      rw [eg] at kk
      have vx1 := vx.same g
      refine ⟨rfl, ?_⟩
      unfold tYes
      refine iteT ?_
      refine ⟨_, rfl, _, _, rfl, vx1, _, rfl, ite2 (fun c => ?_) (fun c => ?_)⟩
      · cases vx1 with
        | int z => exact ⟨_, rfl, _, _, rfl, rfl, kk _ (Same.refl _)⟩
        | _ => cases c
      · have e : dx.wnn = false := by cases dx <;> first | rfl | exact absurd rfl c
        rw [e] at kk
        exact kk _ (Same.refl _)
    refine ⟨D, _, rfl, .of h1, _, rfl, ?_⟩
    rw [all_id_map, hxl, all_getD]
    refine ite2 (fun c2 => ?_) (fun c2 => ?_)
    · have e : lotB (.tup ds) = false := by
        show (ds.all Dt.wnn && adjLt (ds.map Dt.toInt)) = false
        rw [show ds.all Dt.wnn = false by simpa using c2]; rfl
      rw [e] at k
      exact k _ g1
    have hw : ds.all Dt.wnn = true := by simpa using c2
    have ei : xs = (ds.map Dt.toInt).map V.int := DVs.ints hds fun x hx => (wnn_iff.mp (List.all_eq_true.mp hw x hx)).1
    have el : lotB (.tup ds) = adjLt (ds.map Dt.toInt) := by
      show (ds.all Dt.wnn && adjLt (ds.map Dt.toInt)) = _
      rw [hw]; rfl
    generalize hg : ds.map Dt.toInt = l at ei el
    have hll : l.length ≤ 1000 := by rw [← hg, List.length_map]; exact hl
    subst ei
    rw [el] at k
    have ha1 := g1 _ _ ha
    refine ⟨_, rfl, _, rfl, 1, rfl, ?_⟩
    refine noP_in ?_
    refine slA_any ha1 fun b H2 g2 hb => ?_
    rw [show (1 : Int) = ((1 : Nat) : Int) from rfl, cutA_from, ← List.map_drop] at hb
    refine ⟨a, b, l.map V.int, (l.drop 1).map V.int, rfl, .inr ⟨.of (g2 _ _ ha1), .of hb, fun D2 hD2 => ?_⟩⟩
    have wz := walk_zipT (K := K) (a := a) (b := b) (xs := l.map V.int) (ys := (l.drop 1).map V.int) (n := l.length - 1) (by rw [List.length_map, List.length_map, List.length_drop]; omega)
    refine lc_bools wz (fun i => decide (l.getD i 0 < l.getD (i + 1) 0)) hD2 (by omega) (fun H' g => ⟨.of (g _ _ (g2 _ _ ha1)), .of (g _ _ hb)⟩) (fun i x H3 H4 hi g y Q4 N kk => ?_) fun H3 g3 h3 => ?_
    · obtain ⟨T', x1, x2, rfl, nT, rfl, e1, e2⟩ := y
      have e1 : (l.map V.int)[i]? = some x1 := e1
      have e2 : ((l.drop 1).map V.int)[i]? = some x2 := e2
      rw [List.getElem?_map, List.getElem?_eq_getElem (by omega)] at e1
      rw [List.getElem?_map, List.getElem?_drop, Nat.add_comm, List.getElem?_eq_getElem (by omega)] at e2
      cases e1
      cases e2
      rw [getD_lt (by omega), getD_lt (by omega)] at kk
      have g4 := same_new nT (.tup [V.int l[i], V.int l[i + 1]])
      exact ⟨T', _, rfl, .of upd_same, rfl, _, _, rfl, _, _, rfl, rfl, rfl, _, rfl, _, rfl, _, _, rfl, rfl, kk _ g4⟩
    refine ⟨D2, _, rfl, .of h3, ?_⟩
    rw [all_id_map]
    exact k _ ((g1.trans g2).trans g3)
  | _ => exact absurd rfl c
abbrev s_lies_in : Stmt := top 9
theorem sc_lies_in : FnScope ["lot", "other", "word"] ["lot", "other"] (defScope s_lies_in) := ⟨rfl, rfl, rfl, by decide +kernel, rfl, by decide +kernel, by decide +kernel⟩
theorem ok_lies_in (F : Fun K "lies_in" "lies_in" s_lies_in f fd) (T : RTx mg) : FnOk P w K mg base CX0 1 f fd ["lot", "other"] spLiesD := by
  refine F.ok sc_lies_in (fun vs H Q E h => ?_) (fun cdv A outer s H vs Q E hr h => ?_)
  · obtain ⟨a, b, l, m, rfl, _⟩ := h
    rfl
  obtain ⟨a, b, l, m, rfl, ha, hb, hl, k⟩ := h
  refine ⟨_, (pss_one (ps_ret (pe_callB (cr_all rfl) rfl T.all (by decide +kernel) (pa_cons (pe_lc (own := [("word", 2)]) (g := (gName 2)) (tt := tYes) rfl sc_lies_in.nd (pi_tup (pv 0)) (blkOk_by (own := [("word", 2)]) (N := ["lot", "other", "word"]) (sc := defScope s_lies_in) (by decide +kernel)) (fun _ _ _ _ _ => (pg_name (i := 2) sc_lies_in.nd rfl (Or.inl rfl))) (fun _ _ _ _ _ => pts_nil) (fun _ _ _ _ _ => (pe_cmpR op_in_seqK (pv 2) (pv 1) rfl))) pa_nil)))), ?_⟩
  refine ⟨_, rfl, a, rfl, ⟨_, .of ha⟩, fun D hD => ?_⟩
  refine lc_bools walk_tup (fun i => decide (l.getD i 0 ∈ m)) hD (by rw [List.length_map]; omega) (fun H' g => .of (g _ _ ha)) (fun i x H1 H2 hi g y Q4 N kk => ?_) fun H1 g1 h1 => ?_
  · obtain ⟨rfl, hx⟩ := y
    rw [List.length_map] at hi
    rw [List.getElem?_map, List.getElem?_eq_getElem hi] at hx
    cases hx
    rw [getD_lt hi] at kk
    refine ⟨rfl, _, rfl, _, rfl, b, _, rfl, .inr (.of (g _ _ hb)), rfl, int_flat m, ?_⟩
    rw [inI]
    exact kk _ (Same.refl _)
  refine ⟨D, _, rfl, .of h1, ?_⟩
  rw [all_id_map, List.length_map, all_getD (p := fun x => decide (x ∈ m)) (x := (0 : Int))]
  exact k _ g1
abbrev s_fit : Stmt := top 18
theorem sc_fit : FnScope ["one", "other", "view", "beside"] ["one", "other"] (defScope s_fit) := ⟨rfl, rfl, rfl, by decide +kernel, rfl, by decide +kernel, by decide +kernel⟩
theorem ok_fit (F : Fun K "fit" "fit" s_fit f fd) (G_lies_in : Fd P w K mg base CX0 "lies_in" 1 ["lot", "other"] spLiesD) : FnOk P w K mg base CX0 2 f fd ["one", "other"] spFitD := by
  refine F.ok sc_fit (fun vs H Q E h => ?_) (fun cdv A outer s H vs Q E hr h => ?_)
  · obtain ⟨t, u, a, b, p, q, l, m, rfl, _⟩ := h
    rfl
  obtain ⟨t, u, a, b, p, q, l, m, rfl, ht, hu, ha, hb, hl, hm, k⟩ := h
  refine ⟨_, (pss_cons (ps_par (i := 2) (j := 3) (by rfl) sc_fit.nd rfl rfl (by decide) rfl rfl (pa_cons (pe_ix ix_tup (pv 0) pe_int (fun _ _ => rfl)) (pa_cons (pe_ix ix_tup (pv 1) pe_int (fun _ _ => rfl)) pa_nil)) (by rfl))
  (pss_cons (ps_if (pt_cmpR op_in_seqK (pe_ix ix_tup (pv 1) pe_int (fun _ _ => rfl)) (pv 2) rfl) (pss_one (ps_ret (pe_fd G_lies_in (hr.mono (by first | decide | omega)) rfl (pa_cons (pv 3) (pa_cons (pv 2) pa_nil))))) pss_nil)
  (pss_one (ps_ret (pe_fd G_lies_in (hr.mono (by first | decide | omega)) rfl (pa_cons (pv 2) (pa_cons (pv 3) pa_nil))))))), ?_⟩
  refine ⟨_, rfl, t, _, _, _, rfl, rfl, .of ht, atI_nat (j := 1) rfl, _, rfl, u, _, _, _, rfl, rfl, .of hu, atI_nat (j := 1) rfl, _, _, rfl, ?_⟩
  refine ⟨_, rfl, u, _, _, _, rfl, rfl, .of hu, atI_nat (j := 0) rfl, _, rfl, a, _, rfl, .inr (.of ha), rfl, int_flat l, _, rfl, ?_⟩
  rw [inI]
  unfold fitB at k
  dsimp only at k
  by_cases hq : q ∈ l
  · rw [decide_eq_true hq]
    rw [if_pos hq] at k
    exact iteT ⟨_, rfl, _, rfl, b, a, m, l, rfl, hb, ha, hm, k⟩
  · rw [decide_eq_false hq]
    rw [if_neg hq] at k
    exact iteF ⟨_, rfl, _, rfl, a, b, l, m, rfl, ha, hb, hl, k⟩
abbrev s_is_view : Stmt := top 17
theorem sc_is_view : FnScope ["many", "hand", "value"] ["many", "hand", "value"] (defScope s_is_view) := ⟨rfl, rfl, rfl, by decide +kernel, rfl, by decide +kernel, by decide +kernel⟩
theorem ok_is_view (F : Fun K "is_view" "is_view" s_is_view f fd) (G_is_lot : Fd P w K mg base CX0 "is_lot" 2 ["value"] spLotD) : FnOk P w K mg base CX0 3 f fd ["many", "hand", "value"] spViewD := by
  refine F.ok sc_is_view (fun vs H Q E h => ?_) (fun cdv A outer s H vs Q E hr h => ?_)
  · obtain ⟨n, p, v, d, rfl, _⟩ := h
    rfl
  obtain ⟨n, p, v, d, rfl, hd, k⟩ := h
  refine ⟨_, (pss_one (ps_ret (pe_and (pe_fd G_is_lot (hr.mono (by first | decide | omega)) rfl (pa_cons (pv 2) pa_nil)) (pe_and (pe_cmpR op_in_seqK (pv 1) (pv 2) rfl) (pe_one (pe_cmpR op_lt (pe_ix ix_tup (pv 2) (pe_un un_neg pe_int) (fun _ _ => rfl)) (pv 0) (nomark _))))))), ?_⟩
  refine ⟨_, rfl, v, d, rfl, hd, fun H1 g1 => ?_⟩
  refine ⟨_, rfl, ite2 (fun c => ?_) (fun c => ?_)⟩
  rotate_left
  · have c : lotB d = false := by simpa using c
    have e : viewB n p d = false := by unfold viewB; rw [c]; rfl
    rw [e] at k
    exact k _ g1
  obtain ⟨a, rfl, ha, hl⟩ := hd.lot c
  have ha1 := g1 _ _ ha
  unfold viewB at k
  rw [c, Bool.true_and] at k
  generalize lotOf d = l at k ha ha1 hl
  refine ⟨_, rfl, _, rfl, a, _, rfl, .inr (.of ha1), rfl, int_flat l, ?_⟩
  rw [inI]
  refine ⟨_, rfl, ite2 (fun c2 => ?_) (fun c2 => ?_)⟩
  rotate_left
  · have c2 : decide (p ∈ l) = false := by simpa using c2
    rw [c2] at k
    exact k _ g1
  rw [c2, Bool.true_and] at k
  have hp := of_decide_eq_true c2
  rcases List.eq_nil_or_concat l with rfl | ⟨l0, z, e⟩
  · cases hp
  rw [List.concat_eq_append] at e
  subst e
  have hsq : SqT K H1 a (l0.map V.int ++ [.int z]) := .of (by rw [ha1, List.map_append]; rfl)
  refine ⟨_, rfl, 1, rfl, a, _, _, _, rfl, rfl, hsq, atI_last _ _, _, rfl, _, _, rfl, rfl, ?_⟩
  have ez : (l0 ++ [z]).getLastD 0 = z := by rw [List.getLastD_eq_getLast?, List.getLast?_append]; rfl
  rw [ez] at k
  exact k _ g1
/-- a pair of a hand and its view -/
def PrV (H : Hp) (v : V) (p : Int × List Int) : Prop := ∃ t a, v = .ref t ∧ H t = some (.tup [.int p.1, .ref a]) ∧ H a = some (.tup (p.2.map V.int)) ∧ p.2.length ≤ 1000
theorem PrV.kd {H H' : Hp} (g : DKp H H') {v : V} {p : Int × List Int} (h : PrV H v p) : PrV H' v p := by
  obtain ⟨t, a, e, h1, h2, h3⟩ := h
  exact ⟨t, a, e, g.t h1, g.t h2, h3⟩
def prsI (ds : List Dt) (i : Nat) : List (Int × List Int) := ((List.range i).filter fun j => !(ds.getD j .non).isNon).map fun j : Nat => (((j : Nat) : Int), vwAt ds j)
theorem prsI_len (ds : List Dt) (i : Nat) : (prsI ds i).length ≤ i := by
  unfold prsI
  rw [List.length_map]
  exact Nat.le_trans (List.length_filter_le _ _) (by rw [List.length_range]; exact Nat.le_refl _)
theorem prsI_yes {ds : List Dt} {i : Nat} (h : (ds.getD i .non).isNon = false) : prsI ds (i + 1) = prsI ds i ++ [((i : Int), vwAt ds i)] := by
  have e : ([i].filter fun j => !(ds.getD j .non).isNon) = [i] := by rw [List.filter_cons, h]; rfl
  unfold prsI
  rw [List.range_succ, List.filter_append, List.map_append, e]
  rfl
theorem prsI_no {ds : List Dt} {i : Nat} (h : (ds.getD i .non).isNon = true) : prsI ds (i + 1) = prsI ds i := by
  have e : ([i].filter fun j => !(ds.getD j .non).isNon) = [] := by rw [List.filter_cons, h]; rfl
  unfold prsI
  rw [List.range_succ, List.filter_append, List.map_append, e, List.map_nil, List.append_nil]
abbrev s_is_at_once : Stmt := top 16
theorem sc_is_at_once : FnScope ["many", "value", "pairs", "hand", "view", "one", "other"] ["many", "value"] (defScope s_is_at_once) := ⟨rfl, rfl, rfl, by decide +kernel, rfl, by decide +kernel, by decide +kernel⟩
theorem ok_is_at_once (F : Fun K "is_at_once" "is_at_once" s_is_at_once f fd) (T : RTx mg) (G_check_many : Fd P w K mg base CX0 "check_many" 2 ["many"] spChkD) (G_is_view : Fd P w K mg base CX0 "is_view" 3 ["many", "hand", "value"] spViewD) (G_fit : Fd P w K mg base CX0 "fit" 2 ["one", "other"] spFitD) : FnOk P w K mg base CX0 4 f fd ["many", "value"] spAtD := by
  refine F.ok sc_is_at_once (fun vs H Q E h => ?_) (fun cdv A outer s0 H vs Q E hr h => ?_)
  · obtain ⟨n, v, d, rfl, _⟩ := h
    rfl
  obtain ⟨n, v, d, rfl, h1, h5, hd, k⟩ := h
  refine ⟨_, (pss_cons (ps_expr (pe_fd G_check_many (hr.mono (by first | decide | omega)) rfl (pa_cons (pv 0) pa_nil)))
  (pss_cons (ps_if (PW.pt (pw_or (pt_not (pt_val (pe_callB call_isi rfl T.isinstance (by decide +kernel) (pa_cons (pv 1) (pa_cons (pe_bltn (v := .ty "tuple") rfl T.tuple boot_tuple rfl) pa_nil))))) (pw_or1 (pt_cmpR op_ne (pe_callB call_len rfl T.len (by decide +kernel) (pa_cons (pv 1) pa_nil)) (pv 0) (nomark _))))) (pss_one (ps_ret pe_bl)) pss_nil)
  (pss_cons (ps_if (pt_not (pt_val (pe_callB (cr_all rfl) rfl T.all (by decide +kernel) (pa_cons (pe_lc (own := [("hand", 3), ("view", 4)]) (g := (gTup K 2 (gCons (gName 3) (gCons (gName 4) gNil)))) (tt := tYes) rfl sc_is_at_once.nd (pi_enumT rfl T.enumerate (pa_cons (pv 1) pa_nil)) (blkOk_by (own := [("hand", 3), ("view", 4)]) (N := ["many", "value", "pairs", "hand", "view", "one", "other"]) (sc := defScope s_is_at_once) (by decide +kernel)) (fun _ _ _ _ _ => (pg_tup rfl (pgs_cons (pg_name (i := 3) sc_is_at_once.nd rfl (Or.inl rfl)) (pgs_cons (pg_name (i := 4) sc_is_at_once.nd rfl (Or.inl rfl)) pgs_nil)))) (fun _ _ _ _ _ => pts_nil) (fun _ _ _ _ _ => (pe_or (pe_cmpR op_isN (pv 4) pe_non (nomark _)) (pe_one (pe_fd G_is_view (hr.mono (by first | decide | omega)) rfl (pa_cons (pv 0) (pa_cons (pv 3) (pa_cons (pv 4) pa_nil)))))))) pa_nil)))) (pss_one (ps_ret pe_bl)) pss_nil)
  (pss_cons (ps_set (i := 2) sc_is_at_once.nd rfl (Or.inr rfl) (pe_lc (own := [("hand", 3), ("view", 4)]) (g := (gTup K 2 (gCons (gName 3) (gCons (gName 4) gNil))))  rfl sc_is_at_once.nd (pi_enumT rfl T.enumerate (pa_cons (pv 1) pa_nil)) (blkOk_by (own := [("hand", 3), ("view", 4)]) (N := ["many", "value", "pairs", "hand", "view", "one", "other"]) (sc := defScope s_is_at_once) (by decide +kernel)) (fun _ _ _ _ _ => (pg_tup rfl (pgs_cons (pg_name (i := 3) sc_is_at_once.nd rfl (Or.inl rfl)) (pgs_cons (pg_name (i := 4) sc_is_at_once.nd rfl (Or.inl rfl)) pgs_nil)))) (fun _ _ _ _ _ => (pts_one (pt_cmpR op_notN (pv 4) pe_non (nomark _)))) (fun _ _ _ _ _ => (pe_tup (pa_cons (pv 3) (pa_cons (pv 4) pa_nil))))))
  (pss_one (ps_ret (pe_and (pe_cmpR op_gt (pe_callB call_len rfl T.len (by decide +kernel) (pa_cons (pv 2) pa_nil)) pe_int (nomark _)) (pe_one (pe_callB (cr_all rfl) rfl T.all (by decide +kernel) (pa_cons (pe_lc2 (own := [("one", 5), ("other", 6)]) (vs1 := [6]) (g := gName 5) (g1 := gName 6) (tt := tYes) (tt1 := tYes) (wi1 := iList K (tVar 2)) rfl sc_is_at_once.nd (pi_list (pv 2)) (blkOk_by (own := [("one", 5), ("other", 6)]) (N := ["many", "value", "pairs", "hand", "view", "one", "other"]) (sc := defScope s_is_at_once) (by decide +kernel)) (by decide) (fun _ _ _ _ _ => (pg_name (i := 5) sc_is_at_once.nd rfl (Or.inl rfl))) (fun _ _ _ _ _ => pts_nil) (fun _ _ _ _ _ => (pi_list (pv 2))) (fun _ _ _ _ _ => (pg_name (i := 6) sc_is_at_once.nd rfl (Or.inl rfl))) (fun _ _ _ _ _ => pts_nil) (fun _ _ _ _ _ => (pe_fd G_fit (hr.mono (by first | decide | omega)) rfl (pa_cons (pv 5) (pa_cons (pv 6) pa_nil))))) pa_nil)))))))))), ?_⟩
  refine ⟨_, rfl, n, rfl, h1, h5, ?_⟩
  obtain ⟨t, ty, _, _, k3⟩ := hd.ty (K := K)
  refine ⟨_, rfl, _, _, _, _, _, rfl, .ty "tuple", ty, k3, _, rfl, ite2 (fun c => ?_) (fun c => ?_)⟩
  · have e : atB n d = false := by cases d <;> first | rfl | cases c
    rw [e] at k
    exact k _ (Same.refl _)
  cases hd with
  | @tup b vv ds hb hds hl =>
    have hvl := hds.len
    refine ⟨_, rfl, _, vv.length, rfl, (show LenV K (.ref b) H vv.length from .inr ⟨_, .of hb, rfl⟩), _, rfl, ?_⟩
    refine ⟨rfl, _, rfl, ite2 (fun c2 => ?_) (fun c2 => ?_)⟩
    · have e : atB n (.tup ds) = false := by
        unfold atB
        dsimp only
        have : ¬ ds.length = n := fun z => by rw [hvl, z] at c2; simp at c2
        rw [decide_eq_false this]; rfl
      rw [e] at k
      exact k _ (Same.refl _)
    have hn : ds.length = n := by
      have : ((vv.length : Nat) : Int) = (n : Int) := by simpa using c2
      omega
    have k' : ∀ H', Same H H' → Q (.bl (vwsB n ds && (decide (0 < (prs ds).length) && (prs ds).all fun p => (prs ds).all fun q => fitB p q))) H' := fun H' g => by
      have e : atB n (.tup ds) = (vwsB n ds && (decide (0 < (prs ds).length) && (prs ds).all fun p => (prs ds).all fun q => fitB p q)) := by
        unfold atB
        dsimp only
        rw [decide_eq_true hn, Bool.true_and]
      rw [← e]
      exact k _ g
    clear k
    refine ⟨_, rfl, b, vv, rfl, .of hb, fun D hD => ?_⟩
    refine lc_bools walk_enumT (fun i => (ds.getD i .non).isNon || viewB n i (ds.getD i .non)) hD (by omega) (fun H' g => .of (g _ _ hb)) (fun i y0 H1 H2 hi g y Q4 N kk => ?_) fun H1 g1 e1 => ?_
    · obtain ⟨T', y, rfl, hT, rfl, hy⟩ := y
      obtain ⟨dy, hdy, vy⟩ := DVs.at_ hds hy
      have eg : ds.getD i .non = dy := by rw [List.getD_eq_getElem?_getD, hdy] <;> rfl
      rw [eg] at kk
      have g2 := same_new hT (.tup [.int (0 + (i : Nat)), y])
      refine ⟨T', _, rfl, .of upd_same, rfl, _, _, rfl, _, _, rfl, rfl, rfl, ?_⟩
      unfold tYes
      refine iteT ?_
      refine ⟨_, rfl, rfl, _, rfl, ?_⟩
      have en := vy.non_iff
      cases hnon : dy.isNon with
      | true =>
        rw [hnon] at en kk
        refine ite_yes en ?_
        exact kk _ g2
      | false =>
        rw [hnon] at en kk
        refine ite_no en ?_
        refine ⟨_, rfl, _, rfl, _, rfl, n, i, y, dy, (by rw [Int.zero_add]; rfl), vy.same (g.trans g2), fun H3 g3 => ?_⟩
        exact kk _ (g2.trans g3)
    refine ⟨D, _, rfl, .of e1, _, rfl, ?_⟩
    rw [all_id_map, hvl]
    refine ite2 (fun c3 => ?_) (fun c3 => ?_)
    · have e : vwsB n ds = false := not_t c3
      rw [e] at k'
      exact k' _ g1
    have hvw : vwsB n ds = true := not_f c3
    rw [hvw] at k'
    have vlot : ∀ i, i < ds.length → (ds.getD i .non).isNon = false → lotB (ds.getD i .non) = true := fun i hi hn => by
      have := List.all_eq_true.mp hvw i (List.mem_range.mpr hi)
      rw [hn, Bool.false_or] at this
      exact (viewB_iff.mp this).1
    have hb1 := g1 _ _ hb
    have hds1 := hds.same g1
    refine ⟨_, rfl, b, vv, rfl, .of hb1, fun D1 hD1 => ?_⟩
    refine lc_it (walk_enumT (xs := vv)) (fun i H' => Same H1 H' ∧ ∃ acc, H' D1 = some (.lst acc) ∧ Paired (PrV H') acc (prsI ds i)) ⟨same_new hD1 _, [], upd_same, .nil⟩ (fun i H' _ z => .of (z.1 _ _ hb1)) ?_ ?_
    · rintro i y0 H2 H3 hi ⟨g2, acc, h2, hp⟩ ⟨T', y, rfl, hT, rfl, hy⟩
      obtain ⟨dy, hdy, vy⟩ := DVs.at_ hds1 hy
      have eg : ds.getD i .non = dy := by rw [List.getD_eq_getElem?_getD, hdy] <;> rfl
      have g3 := same_new hT (.tup [.int (0 + (i : Nat)), y])
      have h3 := g3 _ _ h2
      refine ⟨T', _, rfl, .of upd_same, rfl, _, _, rfl, _, _, rfl, rfl, rfl, ?_⟩
      refine ⟨_, rfl, rfl, _, rfl, ?_⟩
      have en := vy.non_iff
      cases hnon : dy.isNon with
      | true =>
        rw [hnon] at en
        refine ite_no (by rw [en]; rfl) ?_
        rw [← eg] at hnon
        exact ⟨g2.trans g3, acc, h3, by rw [prsI_no hnon]; exact pr_imp (fun _ _ => PrV.kd (.of g3)) hp⟩
      | false =>
        rw [hnon] at en
        refine ite_yes (by rw [en]; rfl) ?_
        rw [← eg] at hnon vy
        have hl2 := vlot i (by omega) hnon
        obtain ⟨a, rfl, ha, hla⟩ := (vy.same (g2.trans g3)).lot hl2
        refine ⟨_, rfl, _, rfl, szl (by show 2 ≤ _; decide), fun t nt => ?_⟩
        have g4 := same_new nt (.tup [.int (0 + (i : Nat)), .ref a])
        have h4 := g4 _ _ h3
        have hal : acc.length ≤ 5 := by
          rw [pr_len hp]
          have := prsI_len ds i
          omega
        have kp : DKp H2 (upd (upd (upd H2 T' (.tup [.int (0 + (i : Nat)), .ref a])) t (.tup [.int (0 + (i : Nat)), .ref a])) D1 (.lst (acc ++ [.ref t]))) := (DKp.of (g3.trans g4)).trans (.put h4)
        refine ⟨acc, h4, szt (by omega), fun o u ho => ?_, acc ++ [.ref t], upd_same, ?_⟩
        · rw [upd_ne (ne_of_none ho hD1)]; exact g4 _ _ (g3 _ _ (g2 _ _ ho))
        · rw [prsI_yes hnon]
          refine pr_snoc ⟨t, a, rfl, ?_, ?_, hla⟩ (pr_imp (fun _ _ => PrV.kd kp) hp)
          · have nt1 : t ≠ D1 := fun z => by rw [z, h3] at nt; cases nt
            rw [upd_ne nt1, upd_same]
            show _ = some (HO.tup [.int (i : Int), .ref a])
            rw [Int.zero_add]
          · exact (DKp.put h4).t (g4 _ _ ha)
    rintro H2 ⟨g2, acc, h2, hp⟩
    rw [hvl] at hp
    have hp : Paired (PrV H2) acc (prs ds) := hp
    have hal := pr_len hp
    have eI : decide ((0 : Int) < (acc.length : Int)) = decide (0 < (prs ds).length) := decide_eq_decide.mpr (by omega)
    refine ⟨_, rfl, _, acc.length, rfl, (show LenV K (.ref D1) H2 acc.length from .inl ⟨_, .of h2, rfl⟩), _, _, rfl, rfl, _, rfl, ?_⟩
    refine ite2 (fun z => ?_) (fun z => ?_)
    rotate_left
    · rw [show decide (0 < (prs ds).length) = false by rw [← eI]; simpa using z] at k'
      exact k' _ (g1.trans g2)
    rw [show decide (0 < (prs ds).length) = true by rw [← eI]; exact z] at k'
    have acn : acc.length ≤ 5 := by
      rw [hal]
      have : (prs ds).length ≤ ds.length := prsI_len ds ds.length
      omega
    refine ⟨_, rfl, D1, rfl, ⟨_, .of h2⟩, fun D3 hD3 => ?_⟩
    refine lc2_bools (f := fun i j => fitB ((prs ds).getD i (0, [])) ((prs ds).getD j (0, []))) hD3 h2 h2 (by have := Nat.mul_le_mul acn acn; omega) (fun _ => rfl) (fun _ => rfl) (fun _ _ => rfl) (fun i j x y H3 hx hy g3 Q4 kk => ?_) fun H3 g3 h3 => ?_
    · have gx : ∀ {i : Nat} {x : V}, acc[i]? = some x → PrV H3 x ((prs ds).getD i (0, [])) := fun {i x} hx => by
        have hi : i < (prs ds).length := by rw [← hal]; exact get_lt hx
        obtain ⟨x', e1, e2⟩ := pr_at hp (List.getElem?_eq_getElem hi)
        rw [hx] at e1
        cases e1
        rw [List.getD_eq_getElem?_getD, List.getElem?_eq_getElem hi]
        exact e2.kd (.of g3)
      obtain ⟨t, a, rfl, t1, t2, t3⟩ := gx hx
      obtain ⟨u, c, rfl, u1, u2, u3⟩ := gx hy
      exact ⟨_, rfl, _, rfl, t, u, a, c, _, _, _, _, rfl, t1, u1, t2, u2, t3, u3, kk⟩
    refine ⟨D3, _, rfl, .of h3, ?_⟩
    rw [rowsB_all, hal]
    have e2 : ((List.range (prs ds).length).all fun i => (List.range (prs ds).length).all fun j => fitB ((prs ds).getD i (0, [])) ((prs ds).getD j (0, []))) = (prs ds).all fun p => (prs ds).all fun q => fitB p q := by
      rw [← all_getD (p := fun p => (prs ds).all fun q => fitB p q) (x := ((0 : Int), ([] : List Int)))]
      congr 1
      funext i
      exact all_getD (p := fun q => fitB ((prs ds).getD i (0, [])) q)
    rw [e2]
    exact k' _ ((g1.trans g2).trans g3)
  | _ => exact absurd rfl c
end
end Fp
/-! values without truths and texts: compared -/
namespace Fp
open PySem PySem.Spec PyProof.Rows L2
/-- None, integers, tuples of such, at most so deep -/
def pl : Nat → Dt → Bool
  | _, .non => true
  | _, .int _ => true
  | k + 1, .tup ds => ds.all (pl k)
  | _, _ => false
def toP : Nat → Dt → PyData
  | _, .non => .none
  | _, .int i => .int i
  | k + 1, .tup ds => .tuple (ds.map (toP k))
  | _, _ => .none
theorem pl_tup {k : Nat} {ds : List Dt} : pl (k + 1) (.tup ds) = true ↔ ∀ d ∈ ds, pl k d = true := by
  show ds.all (pl k) = true ↔ _
  rw [List.all_eq_true]
theorem pl_up : ∀ {k : Nat} {d : Dt}, pl k d = true → pl (k + 1) d = true
  | _, .non, _ => by unfold pl; rfl
  | _, .int _, _ => by unfold pl; rfl
  | 0, .tup ds, h => by cases h
  | k + 1, .tup ds, h => pl_tup.mpr fun d hd => pl_up (pl_tup.mp h d hd)
  | 0, .bl _, h => by cases h
  | k + 1, .bl _, h => by cases h
  | 0, .oth, h => by cases h
  | k + 1, .oth, h => by cases h
theorem toP_depth : ∀ {k : Nat} {d : Dt}, (toP k d).depth ≤ k
  | 0, .non => by simp [toP, PyData.depth]
  | 0, .int _ => by simp [toP, PyData.depth]
  | 0, .tup _ => by simp [toP, PyData.depth]
  | 0, .bl _ => by simp [toP, PyData.depth]
  | 0, .oth => by simp [toP, PyData.depth]
  | k + 1, .non => by simp [toP, PyData.depth]
  | k + 1, .int _ => by simp [toP, PyData.depth]
  | k + 1, .bl _ => by simp [toP, PyData.depth]
  | k + 1, .oth => by simp [toP, PyData.depth]
  | k + 1, .tup ds => by
    show PyData.depth (.tuple (ds.map (toP k))) ≤ k + 1
    simp only [PyData.depth]
    have : ∀ l : List Dt, PyData.depthAll (l.map (toP k)) ≤ k := fun l => by
      induction l with
      | nil => simp [PyData.depthAll]
      | cons a r ih =>
        rw [List.map_cons]
        simp only [PyData.depthAll]
        have := toP_depth (k := k) (d := a)
        omega
    have := this ds
    omega
theorem toP_lay : ∀ {k : Nat} {d : Dt}, (toP k d).canLay0 = true
  | 0, .non => by simp [toP, PyData.canLay0]
  | 0, .int _ => by simp [toP, PyData.canLay0]
  | 0, .tup _ => by simp [toP, PyData.canLay0]
  | 0, .bl _ => by simp [toP, PyData.canLay0]
  | 0, .oth => by simp [toP, PyData.canLay0]
  | k + 1, .non => by simp [toP, PyData.canLay0]
  | k + 1, .int _ => by simp [toP, PyData.canLay0]
  | k + 1, .bl _ => by simp [toP, PyData.canLay0]
  | k + 1, .oth => by simp [toP, PyData.canLay0]
  | k + 1, .tup ds => by
    show PyData.canLay0 (.tuple (ds.map (toP k))) = true
    simp only [PyData.canLay0]
    induction ds with
    | nil => simp [PyData.canLayAll0]
    | cons a r ih =>
      rw [List.map_cons]
      simp only [PyData.canLayAll0, Bool.and_eq_true]
      exact ⟨toP_lay, ih⟩
theorem toP_shaped {k : Nat} {d : Dt} (hk : k ≤ 64) : SeqAt.shaped (toP k d) = true := by
  unfold SeqAt.shaped
  rw [toP_lay, Bool.true_and]
  exact decide_eq_true (Nat.le_trans toP_depth hk)
theorem dps_map {K : PySem.W.Frag} {H : Hp} {f : Dt → PyData} : ∀ {xs : List V} {ds : List Dt}, DVs H xs ds → (∀ d ∈ ds, ∀ v, DV H v d → Dp K H v (f d)) → DpAll K H xs (ds.map f)
  | _, _, .nil, _ => .nil
  | _, _, .cons h t, g => .cons (g _ List.mem_cons_self _ h) (dps_map t fun d hd => g d (List.mem_cons_of_mem _ hd))
theorem DV.dp {K : PySem.W.Frag} {H : Hp} : ∀ {k : Nat} {v : V} {d : Dt}, DV H v d → pl k d = true → Dp K H v (toP k d) := by
  intro k
  induction k with
  | zero =>
    intro v d h p
    cases h with
    | non => exact .non
    | int i => exact .int i
    | _ => cases p
  | succ k ih =>
    intro v d h p
    cases h with
    | non => exact .non
    | int i => exact .int i
    | @tup a xs ds ha hds hl => exact .tup (.of ha) (dps_map hds fun d hd v hv => ih hv (pl_tup.mp p d hd))
    | _ => cases p
theorem eqvAll_map {f : Dt → PyData} : ∀ {ds es : List Dt}, (∀ d ∈ ds, ∀ e ∈ es, (PyData.eqv (f d) (f e) = true ↔ d = e)) → (PyData.eqvAll (ds.map f) (es.map f) = true ↔ ds = es)
  | [], [], _ => by simp [PyData.eqvAll]
  | [], _ :: _, _ => by simp [PyData.eqvAll]
  | _ :: _, [], _ => by simp [PyData.eqvAll]
  | a :: r, b :: s, g => by
    have ih := eqvAll_map (ds := r) (es := s) fun d hd e he => g d (List.mem_cons_of_mem _ hd) e (List.mem_cons_of_mem _ he)
    rw [List.map_cons, List.map_cons]
    simp only [PyData.eqvAll, Bool.and_eq_true, List.cons.injEq]
    rw [ih, g a (by simp) b (by simp)]
theorem eqv_iff : ∀ {k : Nat} {d e : Dt}, pl k d = true → pl k e = true → (PyData.eqv (toP k d) (toP k e) = true ↔ d = e) := by
  intro k
  induction k with
  | zero =>
    intro d e hd he
    cases d <;> cases e <;> first | (simp [toP, PyData.eqv]; done) | (cases hd; done) | (cases he; done)
  | succ k ih =>
    intro d e hd he
    cases d with
    | tup ds =>
      cases e with
      | tup es =>
        show PyData.eqv (.tuple (ds.map (toP k))) (.tuple (es.map (toP k))) = true ↔ _
        simp only [PyData.eqv, Dt.tup.injEq]
        exact eqvAll_map fun d h e h' => ih (pl_tup.mp hd d h) (pl_tup.mp he e h')
      | _ => first | (simp [toP, PyData.eqv]; done) | (cases he; done)
    | _ => cases e <;> first | (simp [toP, PyData.eqv]; done) | (cases hd; done) | (cases he; done)
/-- whether two such values are one -/
def rNeP (K : PySem.W.Frag) : R2 := fun x y H Q => ∃ d e, DV H x d ∧ DV H y e ∧ pl 3 d = true ∧ pl 3 e = true ∧ ∀ b : Bool, (b = true ↔ d ≠ e) → Q (.bl b) H
def rEqP (K : PySem.W.Frag) : R2 := fun x y H Q => ∃ d e, DV H x d ∧ DV H y e ∧ pl 3 d = true ∧ pl 3 e = true ∧ ∀ b : Bool, (b = true ↔ d = e) → Q (.bl b) H
theorem op_neP {X : Cx} {K : PySem.W.Frag} (hu : X.A.units + 64 < cLine) (e : X.K = K := by rfl) : OpR X (compareOp .NotEq) (rNeP K) := by
  subst e
  intro pins s σ H x y v u Q I rx ry h
  obtain ⟨d, e, hd, he, pd, pe, q⟩ := h
  refine op_neD hu pins s σ H x y v u Q I rx ry ⟨_, _, hd.dp pd, he.dp pe, toP_shaped (by decide), toP_shaped (by decide), q _ ?_⟩
  rw [Bool.not_eq_true', ← Bool.not_eq_true, eqv_iff pd pe]
theorem op_eqP {X : Cx} {K : PySem.W.Frag} (hu : X.A.units + 64 < cLine) (e : X.K = K := by rfl) : OpR X (compareOp .Eq) (rEqP K) := by
  subst e
  intro pins s σ H x y v u Q I rx ry h
  obtain ⟨d, e, hd, he, pd, pe, q⟩ := h
  exact op_eqD hu pins s σ H x y v u Q I rx ry ⟨_, _, hd.dp pd, he.dp pe, toP_shaped (by decide), toP_shaped (by decide), q _ (eqv_iff pd pe)⟩
/-- None in a tuple -/
def rNoneInT (K : PySem.W.Frag) (neg : Bool) : R2 := fun x y H Q => ∃ ds, x = .non ∧ DV H y (.tup ds) ∧ pl 3 (.tup ds) = true ∧ Q (.bl (if neg then !(ds.any Dt.isNon) else ds.any Dt.isNon)) H
theorem non_any {k : Nat} {ds : List Dt} : (ds.map (toP k)).any (fun z => PyData.eqv z .none) = ds.any Dt.isNon ∨ ¬ ∀ d ∈ ds, pl k d = true := by
  by_cases h : ∀ d ∈ ds, pl k d = true
  · left
    rw [List.any_map, Bool.eq_iff_iff, List.any_eq_true, List.any_eq_true]
    have e : ∀ d ∈ ds, (((fun z => PyData.eqv z .none) ∘ toP k) d = true ↔ d.isNon = true) := fun d hd => by
      show PyData.eqv (toP k d) .none = true ↔ _
      have hp := h d hd
      cases d <;> cases k <;> first | (simp [toP, PyData.eqv, Dt.isNon]; done) | (cases hp; done)
    constructor
    · rintro ⟨d, hd, q⟩
      exact ⟨d, hd, (e d hd).mp q⟩
    · rintro ⟨d, hd, q⟩
      exact ⟨d, hd, (e d hd).mpr q⟩
  · exact .inr h
theorem op_noneIn' {X : Cx} {K : PySem.W.Frag} (hu : X.A.units + 65 < cLine) (e : X.K = K := by rfl) : OpR X (compareOp .In) (rNoneInT K false) := by
  intro pins s σ H x y v u Q I rx ry h
  obtain ⟨ds, rfl, hd, pd, q⟩ := h
  refine op_inT hu e pins s σ H _ y v u Q I rx ry ⟨_, ds.map (toP 2), .non, hd.dp pd, rfl, toP_shaped (k := 3) (d := .tup ds) (by decide), ?_⟩
  rcases non_any (k := 2) (ds := ds) with z | z
  · rw [z]; exact q
  · exact absurd (pl_tup.mp pd) z
theorem op_noneNotIn' {X : Cx} {K : PySem.W.Frag} (hu : X.A.units + 65 < cLine) (e : X.K = K := by rfl) : OpR X (compareOp .NotIn) (rNoneInT K true) := by
  intro pins s σ H x y v u Q I rx ry h
  obtain ⟨ds, rfl, hd, pd, q⟩ := h
  refine op_notInT hu e pins s σ H _ y v u Q I rx ry ⟨_, ds.map (toP 2), .non, hd.dp pd, rfl, toP_shaped (k := 3) (d := .tup ds) (by decide), ?_⟩
  rcases non_any (k := 2) (ds := ds) with z | z
  · rw [z]; exact q
  · exact absurd (pl_tup.mp pd) z
/-- t == (), t any tuple -/
def rEqE (K : PySem.W.Frag) : R2 := fun x y H Q => ∃ a b xs, x = .ref a ∧ y = .ref b ∧ H a = some (.tup xs) ∧ H b = some (.tup []) ∧ Q (.bl xs.isEmpty) H
theorem op_eqE {X : Cx} {K : PySem.W.Frag} (hu : X.A.units + 64 < cLine) (e : X.K = K := by rfl) : OpR X (compareOp .Eq) (rEqE K) := by
  subst e
  intro pins s σ H x y v u Q I rx ry h
  obtain ⟨a, b, xs, rfl, rfl, ha, hb, q⟩ := h
  cases rx
  cases ry
  obtain ⟨its, r, ht, _⟩ := I.tuple (xs := xs) (.of ha)
  obtain ⟨its2, r2, ht2, _⟩ := I.tuple (xs := []) (.of hb)
  cases r2
  refine SeqAt.eq_tupleAt (e := fun _ => true) ht ht2 (by omega) (fun j _ h2 => absurd h2 (by simp)) ⟨.bl xs.isEmpty, H, I, ?_, q⟩
  have hl := r.length
  cases xs with
  | nil => cases r; rfl
  | cons x t =>
    cases r
    show Value.bool _ = Value.bool false
    simp
/-! ### good rows -/
theorem lot_data {d : Dt} (h : lotB d = true) : d = .tup ((lotOf d).map Dt.int) ∧ pl 1 d = true := by
  cases d with
  | tup es =>
    have hw := (lotB_tup.mp h).1
    have e : es = (es.map Dt.toInt).map Dt.int := by
      rw [List.map_map]
      refine (List.map_id es).symm.trans (List.map_congr_left fun x hx => ?_)
      have := (hw x hx).1
      cases x with
      | int i => rfl
      | _ => cases this
    refine ⟨congrArg Dt.tup e, pl_tup.mpr fun x hx => ?_⟩
    have := (hw x hx).1
    cases x with
    | int i => rfl
    | _ => cases this
  | _ => cases h
theorem at_tup {n : Nat} {d : Dt} (h : atB n d = true) : ∃ ds, d = .tup ds ∧ ds.length = n ∧ vwsB n ds = true := by
  cases d with
  | tup ds =>
    unfold atB at h
    dsimp only at h
    rw [Bool.and_eq_true, Bool.and_eq_true, decide_eq_true_eq] at h
    exact ⟨ds, rfl, h.1, h.2.1⟩
  | _ => cases h
theorem at_pl {n : Nat} {d : Dt} (h : atB n d = true) : pl 2 d = true := by
  obtain ⟨ds, rfl, hl, hv⟩ := at_tup h
  refine pl_tup.mpr fun x hx => ?_
  obtain ⟨i, hi⟩ := List.mem_iff_getElem?.mp hx
  have hil := (List.getElem?_eq_some_iff.mp hi).1
  have := List.all_eq_true.mp hv i (List.mem_range.mpr hil)
  rw [List.getD_eq_getElem?_getD, hi] at this
  simp only [Option.getD_some] at this
  rcases Bool.or_eq_true_iff.mp this with z | z
  · cases x with
    | non => rfl
    | _ => cases z
  · exact (lot_data (viewB_iff.mp z).1).2
end Fp
/-! chains of rows: the mathematics -/
namespace Fp
open PySem PySem.Spec PyProof.Rows L2
theorem srt_eq : ∀ {l m : List Int}, l.Pairwise (· < ·) → m.Pairwise (· < ·) → (∀ x, x ∈ l ↔ x ∈ m) → l = m
  | [], [], _, _, _ => rfl
  | [], b :: m, _, _, h => absurd ((h b).mpr (by simp)) (by simp)
  | a :: l, [], _, _, h => absurd ((h a).mp (by simp)) (by simp)
  | a :: l, b :: m, h1, h2, h => by
    obtain ⟨p1, q1⟩ := List.pairwise_cons.mp h1
    obtain ⟨p2, q2⟩ := List.pairwise_cons.mp h2
    have e : a = b := by
      have ha := (h a).mp (by simp)
      have hb := (h b).mpr (by simp)
      rcases List.mem_cons.mp ha with z | z
      · exact z
      · rcases List.mem_cons.mp hb with y | y
        · exact y.symm
        · have := p2 a z
          have := p1 b y
          omega
    subst e
    rw [srt_eq q1 q2 fun x => ?_]
    constructor
    · intro hx
      have hl := p1 x hx
      rcases List.mem_cons.mp ((h x).mp (List.mem_cons_of_mem _ hx)) with z | z
      · omega
      · exact z
    · intro hx
      have hl := p2 x hx
      rcases List.mem_cons.mp ((h x).mpr (List.mem_cons_of_mem _ hx)) with z | z
      · omega
      · exact z
theorem srt_nodup {l : List Int} (h : l.Pairwise (· < ·)) : l.Nodup := h.imp fun h => by omega
theorem nodup_le {α : Type} [DecidableEq α] : ∀ {l m : List α}, l.Nodup → (∀ x ∈ l, x ∈ m) → l.length ≤ m.length
  | [], _, _, _ => Nat.zero_le _
  | a :: l, m, h, s => by
    obtain ⟨h1, h2⟩ := List.nodup_cons.mp h
    have ha := s a (by simp)
    have := nodup_le (m := m.erase a) h2 fun y hy => (List.mem_erase_of_ne (fun (e : y = a) => h1 (by rw [← e]; exact hy))).mpr (s y (List.mem_cons_of_mem _ hy))
    rw [List.length_erase_of_mem ha] at this
    have := List.length_pos_of_mem ha
    rw [List.length_cons]
    omega
/-- a subset that is no smaller is the whole -/
theorem sub_eq {l m : List Int} (hl : l.Nodup) (h : ∀ x ∈ l, x ∈ m) (hm : m.length ≤ l.length) : ∀ x ∈ m, x ∈ l := by
  intro x hx
  refine Classical.byContradiction fun n => ?_
  have := nodup_le (m := m.erase x) hl fun y hy => (List.mem_erase_of_ne (fun (e : y = x) => n (by rw [← e]; exact hy))).mpr (h y hy)
  rw [List.length_erase_of_mem hx] at this
  have : 0 < m.length := List.length_pos_of_mem hx
  omega
abbrev Row' := List (List Int)
structure RowOk (n : Nat) (r : Row') : Prop where
  len : r.length = n
  up : ∀ (i : Nat) (l : List Int), r[i]? = some l → List.Pairwise (· < ·) l
  rng : ∀ (i : Nat) (l : List Int), r[i]? = some l → ∀ x ∈ l, 0 ≤ x ∧ x < n
  self : ∀ (i : Nat) (l : List Int), r[i]? = some l → (i : Int) ∈ l
  cmp : ∀ (i j : Nat) (l m : List Int), r[i]? = some l → r[j]? = some m → (∀ x ∈ l, x ∈ m) ∨ ∀ x ∈ m, x ∈ l
  fit : ∀ (i j : Nat) (l m : List Int), r[i]? = some l → r[j]? = some m → (i : Int) ∈ m → ∀ x ∈ l, x ∈ m
def lotD (l : List Int) : Dt := .tup (l.map Dt.int)
def rowD (r : Row') : Dt := .tup (r.map lotD)
theorem lotOf_lotD (l : List Int) : lotOf (lotD l) = l := by
  show (l.map Dt.int).map Dt.toInt = l
  rw [List.map_map]
  exact List.map_id'' (fun _ => rfl) l
theorem lotD_inj {l m : List Int} (h : lotD l = lotD m) : l = m := by rw [← lotOf_lotD l, h, lotOf_lotD]
theorem vwAt_row {r : Row'} {i : Nat} {l : List Int} (h : r[i]? = some l) : vwAt (r.map lotD) i = l ∧ ((r.map lotD).getD i .non) = lotD l := by
  have e : ((r.map lotD).getD i .non) = lotD l := by rw [List.getD_eq_getElem?_getD, List.getElem?_map, h]; rfl
  exact ⟨by unfold vwAt; rw [e, lotOf_lotD], e⟩
theorem thr_row (r : Row') (i : Nat) : i ∈ thr (r.map lotD) ↔ i < r.length := by
  rw [mem_thr, List.length_map]
  refine ⟨fun h => h.1, fun h => ⟨h, ?_⟩⟩
  rw [(vwAt_row (List.getElem?_eq_getElem h)).2]; rfl
theorem lotOfB_lotD {n : Int} {l : List Int} : lotOfB n (lotD l) = true ↔ (∀ x ∈ l, 0 ≤ x ∧ x < n) ∧ l.Pairwise (· < ·) := by
  unfold lotD
  rw [lotOfB_tup, List.map_map, show (Dt.toInt ∘ Dt.int) = id from rfl, List.map_id]
  refine and_congr ?_ Iff.rfl
  constructor
  · intro h x hx
    have := h (.int x) (List.mem_map.mpr ⟨x, hx, rfl⟩)
    obtain ⟨_, a, b⟩ := this
    have a : 0 ≤ x := a
    have b : x ≤ n - 1 := b
    omega
  · intro h d hd
    obtain ⟨x, hx, rfl⟩ := List.mem_map.mp hd
    have := h x hx
    exact ⟨rfl, this.1, by show x ≤ n - 1; omega⟩
/-- a whole good row is one of views -/
theorem rowok_iff {n : Nat} (hn : 0 < n) {r : Row'} : wholeB n (rowD r) = true ↔ RowOk n r := by
  have hnon : hasNon (rowD r) = false := by
    show (r.map lotD).any Dt.isNon = false
    rw [List.any_eq_false]
    intro d hd
    obtain ⟨l, _, rfl⟩ := List.mem_map.mp hd
    simp [lotD, Dt.isNon]
  unfold wholeB
  rw [hnon, Bool.not_false, Bool.and_true, ← law_row hn]
  unfold rowD lawRowB
  dsimp only
  rw [Bool.and_eq_true, Bool.and_eq_true, Bool.and_eq_true, decide_eq_true_eq, List.all_eq_true, List.all_eq_true, List.length_map]
  constructor
  · rintro ⟨⟨h1, _⟩, h2, h3⟩
    have vw : ∀ i l, r[i]? = some l → lawVw n (r.map lotD) i = true := fun i l h => h2 i ((thr_row r i).mpr (List.getElem?_eq_some_iff.mp h).1)
    have pr : ∀ i j l m, r[i]? = some l → r[j]? = some m → okPair (r.map lotD) i j = true := fun i j l m h h' => by
      have := h3 i ((thr_row r i).mpr (List.getElem?_eq_some_iff.mp h).1)
      rw [List.all_eq_true] at this
      exact this j ((thr_row r j).mpr (List.getElem?_eq_some_iff.mp h').1)
    refine ⟨h1, fun i l h => ?_, fun i l h => ?_, fun i l h => ?_, fun i j l m h h' => ?_, fun i j l m h h' => ?_⟩
    · have := (lawVw_iff.mp (vw i l h)).1
      rw [(vwAt_row h).2, lotOfB_lotD] at this
      exact this.2
    · have := (lawVw_iff.mp (vw i l h)).1
      rw [(vwAt_row h).2, lotOfB_lotD] at this
      exact this.1
    · have := (lawVw_iff.mp (vw i l h)).2
      rw [(vwAt_row h).2, lotOf_lotD] at this
      exact this
    · have := (pair_iff.mp (pr i j l m h h')).1
      rw [(vwAt_row h).1, (vwAt_row h').1] at this
      exact this
    · have := (pair_iff.mp (pr i j l m h h')).2
      rw [(vwAt_row h).1, (vwAt_row h').1] at this
      exact this
  · intro R
    refine ⟨⟨R.len, ?_⟩, fun i hi => ?_, fun i hi => ?_⟩
    · rw [Bool.not_eq_true', List.all_eq_false]
      have h0 : 0 < r.length := by rw [R.len]; exact hn
      exact ⟨lotD r[0], List.mem_map.mpr ⟨_, List.getElem_mem h0, rfl⟩, by simp [lotD, Dt.isNon]⟩
    · have h := List.getElem?_eq_getElem ((thr_row r i).mp hi)
      refine lawVw_iff.mpr ?_
      rw [(vwAt_row h).2, lotOfB_lotD, lotOf_lotD]
      exact ⟨⟨R.rng i _ h, R.up i _ h⟩, R.self i _ h⟩
    · rw [List.all_eq_true]
      intro j hj
      have h := List.getElem?_eq_getElem ((thr_row r i).mp hi)
      have h' := List.getElem?_eq_getElem ((thr_row r j).mp hj)
      refine pair_iff.mpr ?_
      rw [(vwAt_row h).1, (vwAt_row h').1]
      exact ⟨R.cmp i j _ _ h h', R.fit i j _ _ h h'⟩
theorem whole_row {n : Nat} (hn : 0 < n) {d : Dt} (h : wholeB n d = true) : ∃ r, d = rowD r ∧ RowOk n r := by
  have h' := h
  unfold wholeB at h
  rw [Bool.and_eq_true, Bool.not_eq_true'] at h
  obtain ⟨ds, rfl, hl, hv⟩ := at_tup h.1
  have hnn : ∀ d ∈ ds, d.isNon = false := fun d hd => by
    have := List.any_eq_false.mp (show ds.any Dt.isNon = false from h.2) d hd
    simpa using this
  have e : ds = (ds.map lotOf).map lotD := by
    rw [List.map_map]
    refine (List.map_id ds).symm.trans (List.map_congr_left fun x hx => ?_)
    obtain ⟨i, hi⟩ := List.mem_iff_getElem?.mp hx
    have hil := (List.getElem?_eq_some_iff.mp hi).1
    have := List.all_eq_true.mp hv i (List.mem_range.mpr hil)
    rw [List.getD_eq_getElem?_getD, hi] at this
    simp only [Option.getD_some] at this
    rw [hnn x hx, Bool.false_or] at this
    exact (lot_data (viewB_iff.mp this).1).1
  have e2 : Dt.tup ds = rowD (ds.map lotOf) := congrArg Dt.tup e
  rw [e2] at h' ⊢
  exact ⟨_, rfl, (rowok_iff hn).mp h'⟩
end Fp
/-! the way from a row to the row of all, and chains -/
namespace Fp
open PySem PySem.Spec PyProof.Rows L2
/-- unlike at just one place -/
def Unl (r s : Row') : Prop := r.length = s.length ∧ ∃ a : Nat, a < r.length ∧ r[a]? ≠ s[a]? ∧ ∀ b, b ≠ a → r[b]? = s[b]?
theorem Unl.symm {r s : Row'} (h : Unl r s) : Unl s r := by
  obtain ⟨e, a, h1, h2, h3⟩ := h
  exact ⟨e.symm, a, by omega, Ne.symm h2, fun b hb => (h3 b hb).symm⟩
theorem near_set {r : Row'} {a : Nat} {l : List Int} (h : r.set a l ≠ r) : Unl r (r.set a l) := by
  have ha : a < r.length := Classical.byContradiction fun c => h (List.set_eq_of_length_le (by omega))
  refine ⟨by rw [List.length_set], a, ha, fun e => h ?_, fun b hb => by rw [List.getElem?_set_ne (Ne.symm hb)]⟩
  rw [List.getElem?_set_self ha, List.getElem?_eq_getElem ha] at e
  have e := Option.some.inj e
  rw [← e]
  exact List.set_getElem_self ha
/-- neighbours are unlike at just one place -/
def Lnk (ls : List Row') : Prop := ∀ (i : Nat) (x y : Row'), ls[i]? = some x → ls[i + 1]? = some y → Unl x y
theorem Lnk.rev {ls : List Row'} (h : Lnk ls) : Lnk ls.reverse := by
  intro i x y hx hy
  have hi : i + 1 < ls.length := by
    have := (List.getElem?_eq_some_iff.mp hy).1
    rwa [List.length_reverse] at this
  rw [List.getElem?_reverse (by omega)] at hx hy
  have e : ls.length - 1 - i = (ls.length - 1 - (i + 1)) + 1 := by omega
  rw [e] at hx
  exact (h _ _ _ hy hx).symm
theorem Lnk.cons {a b : Row'} {ls : List Row'} (h : Unl a b) (g : Lnk (b :: ls)) : Lnk (a :: b :: ls) := by
  intro i x y hx hy
  cases i with
  | zero => cases hx; cases hy; exact h
  | succ i => exact g i x y hx hy
theorem Lnk.tail {a : Row'} {ls : List Row'} (g : Lnk (a :: ls)) : Lnk ls := fun i x y hx hy => g (i + 1) x y hx hy
theorem lnk_nil : Lnk [] := fun i x y hx _ => by simp at hx
theorem lnk_one (a : Row') : Lnk [a] := fun i x y hx hy => by simp at hy
theorem Lnk.app : ∀ {ls ms : List Row'} {z : Row'}, Lnk (ls ++ [z]) → Lnk (z :: ms) → Lnk (ls ++ [z] ++ ms)
  | [], ms, z, _, g => g
  | [a], ms, z, h, g => Lnk.cons (h 0 a z rfl rfl) g
  | a :: b :: r, ms, z, h, g => Lnk.cons (h 0 a b rfl rfl) (Lnk.app (ls := b :: r) h.tail g)
/-- doubles out -/
def ddL : Row' → List Row' → List Row'
  | _, [] => []
  | p, x :: xs => if x = p then ddL x xs else x :: ddL x xs
theorem dd_snoc : ∀ (p : Row') (xs : List Row') (x : Row'), ddL p (xs ++ [x]) = ddL p xs ++ if x = (p :: xs).getLast (by simp) then [] else [x]
  | p, [], x => by
    by_cases h : x = p <;> simp [ddL, h]
  | p, y :: ys, x => by
    have ih := dd_snoc y ys x
    show (if y = p then ddL y (ys ++ [x]) else y :: ddL y (ys ++ [x])) = (if y = p then ddL y ys else y :: ddL y ys) ++ _
    rw [List.getLast_cons (by simp)]
    split
    · exact ih
    · rw [ih]; rfl
theorem dd_mem : ∀ {p : Row'} {xs : List Row'} {x : Row'}, x ∈ ddL p xs → x ∈ xs
  | _, [], _, h => h
  | p, y :: ys, x, h => by
    unfold ddL at h
    split at h
    · exact List.mem_cons_of_mem _ (dd_mem h)
    · rcases List.mem_cons.mp h with e | h
      · rw [e]; exact List.mem_cons_self
      · exact List.mem_cons_of_mem _ (dd_mem h)
theorem dd_lnk : ∀ {p : Row'} {xs : List Row'}, (∀ (i : Nat) (x y : Row'), (p :: xs)[i]? = some x → (p :: xs)[i + 1]? = some y → y ≠ x → Unl x y) → Lnk (p :: ddL p xs) ∧ (p :: ddL p xs).getLast? = (p :: xs).getLast?
  | p, [], _ => ⟨lnk_one p, rfl⟩
  | p, y :: ys, h => by
    have ih := dd_lnk (p := y) (xs := ys) fun i x z hx hz => h (i + 1) x z hx hz
    unfold ddL
    by_cases e : y = p
    · rw [if_pos e]
      subst e
      refine ⟨ih.1, ih.2.trans ?_⟩
      rw [List.getLast?_cons_cons]
    · rw [if_neg e]
      refine ⟨Lnk.cons (h 0 p y rfl rfl e) ih.1, ?_⟩
      rw [List.getLast?_cons_cons, List.getLast?_cons_cons]
      exact ih.2
/-- hands, by the sizes of their views -/
structure OrdOk (n : Nat) (r : Row') (o : List Nat) : Prop where
  len : o.length = n
  nd : o.Nodup
  lt : ∀ x ∈ o, x < n
  siz : ∀ (i j a b : Nat), i ≤ j → o[i]? = some a → o[j]? = some b → (r.getD a []).length ≤ (r.getD b []).length
/-- the lots of the first hands -/
structure PreOk (o : List Nat) (pre : Nat → List Int) : Prop where
  up : ∀ k, List.Pairwise (· < ·) (pre k)
  mem : ∀ k (x : Int), x ∈ pre k ↔ ∃ a ∈ o.take k, x = ((a : Nat) : Int)
theorem nodup_at {o : List Nat} (h : o.Nodup) {i j a : Nat} (hi : o[i]? = some a) (hj : o[j]? = some a) : i = j := by
  obtain ⟨h1, e1⟩ := List.getElem?_eq_some_iff.mp hi
  obtain ⟨h2, e2⟩ := List.getElem?_eq_some_iff.mp hj
  have := List.pairwise_iff_getElem.mp h
  rcases Nat.lt_trichotomy i j with z | z | z
  · exact absurd (e1.trans e2.symm) (this i j h1 h2 z)
  · exact z
  · exact absurd (e2.trans e1.symm) (this j i h2 h1 z)
theorem mem_take_iff {o : List Nat} {k a : Nat} : a ∈ o.take k ↔ ∃ i, i < k ∧ o[i]? = some a := by
  rw [List.mem_iff_getElem?]
  constructor
  · rintro ⟨i, hi⟩
    rw [List.getElem?_take] at hi
    split at hi
    · exact ⟨i, ‹_›, hi⟩
    · cases hi
  · rintro ⟨i, h1, h2⟩
    exact ⟨i, by rw [List.getElem?_take, if_pos h1]; exact h2⟩
section
variable {n : Nat} {r : Row'} {o : List Nat} {pre : Nat → List Int}
theorem OrdOk.all (O : OrdOk n r o) {a : Nat} (ha : a < n) : ∃ i : Nat, o[i]? = some a ∧ i < n := by
  have : a ∈ o := Classical.byContradiction fun c => by
    have := nodup_le (l := a :: o) (m := List.range n) (List.nodup_cons.mpr ⟨c, O.nd⟩) fun x hx => by
      rcases List.mem_cons.mp hx with e | e
      · rw [e]; exact List.mem_range.mpr ha
      · exact List.mem_range.mpr (O.lt x e)
    rw [List.length_cons, O.len, List.length_range] at this
    omega
  obtain ⟨i, hi⟩ := List.mem_iff_getElem?.mp this
  exact ⟨i, hi, by rw [← O.len]; exact (List.getElem?_eq_some_iff.mp hi).1⟩
theorem OrdOk.get (O : OrdOk n r o) {i : Nat} (hi : i < n) : ∃ a, o[i]? = some a ∧ a < n := by
  have h : i < o.length := by rw [O.len]; exact hi
  exact ⟨o[i], List.getElem?_eq_getElem h, O.lt _ (List.getElem_mem h)⟩
def upR (r : Row') (o : List Nat) (pre : Nat → List Int) : Nat → Row'
  | 0 => r
  | k + 1 => (upR r o pre k).set (o.getD k 0) (pre (k + 1))
def dnR (r : Row') (o : List Nat) (pre : Nat → List Int) (n : Nat) : Nat → Row'
  | 0 => upR r o pre n
  | k + 1 => (dnR r o pre n k).set (o.getD (n - 1 - k) 0) (pre n)
theorem up_len : ∀ k, (upR r o pre k).length = r.length
  | 0 => rfl
  | k + 1 => by unfold upR; rw [List.length_set, up_len k]
theorem dn_len : ∀ k, (dnR r o pre n k).length = r.length
  | 0 => up_len n
  | k + 1 => by unfold dnR; rw [List.length_set, dn_len k]
theorem up_at (O : OrdOk n r o) (hr : r.length = n) : ∀ k, k ≤ n → ∀ i a : Nat, o[i]? = some a → (upR r o pre k)[a]? = if i < k then some (pre (i + 1)) else r[a]?
  | 0, _, i, a, _ => by rw [if_neg (by omega)]; rfl
  | k + 1, hk, i, a, h => by
    have ih := up_at O hr k (by omega) i a h
    obtain ⟨b, hb, hbn⟩ := O.get (i := k) (by omega)
    have eb : o.getD k 0 = b := by rw [List.getD_eq_getElem?_getD, hb]; rfl
    unfold upR
    rw [eb]
    by_cases e : i = k
    · subst e
      rw [h] at hb
      cases hb
      rw [List.getElem?_set_self (by rw [up_len, hr]; exact hbn), if_pos (by omega)]
    · have ne : b ≠ a := fun z => e (nodup_at O.nd h (z ▸ hb))
      rw [List.getElem?_set_ne ne, ih]
      by_cases c : i < k
      · rw [if_pos c, if_pos (by omega)]
      · rw [if_neg c, if_neg (by omega)]
theorem dn_at (O : OrdOk n r o) (hr : r.length = n) : ∀ k, k ≤ n → ∀ i a : Nat, o[i]? = some a → i < n → (dnR r o pre n k)[a]? = some (if i < n - k then pre (i + 1) else pre n)
  | 0, _, i, a, h, hi => by
    unfold dnR
    rw [up_at O hr n (Nat.le_refl n) i a h, if_pos hi, if_pos (by omega)]
  | k + 1, hk, i, a, h, hi => by
    have ih := dn_at O hr k (by omega) i a h hi
    obtain ⟨b, hb, hbn⟩ := O.get (i := n - 1 - k) (by omega)
    have eb : o.getD (n - 1 - k) 0 = b := by rw [List.getD_eq_getElem?_getD, hb]; rfl
    unfold dnR
    rw [eb]
    by_cases e : i = n - 1 - k
    · subst e
      rw [h] at hb
      cases hb
      rw [List.getElem?_set_self (by rw [dn_len, hr]; exact hbn), if_neg (by omega)]
    · have ne : b ≠ a := fun z => e (nodup_at O.nd h (z ▸ hb))
      rw [List.getElem?_set_ne ne, ih]
      by_cases c : i < n - k
      · rw [if_pos c, if_pos (by omega)]
      · rw [if_neg c, if_neg (by omega)]
theorem pre_mono (P : PreOk o pre) {i j : Nat} (h : i ≤ j) : ∀ x ∈ pre i, x ∈ pre j := fun x hx => by
  obtain ⟨a, ha, e⟩ := (P.mem i x).mp hx
  obtain ⟨l, hl, hla⟩ := mem_take_iff.mp ha
  exact (P.mem j x).mpr ⟨a, mem_take_iff.mpr ⟨l, by omega, hla⟩, e⟩
theorem pre_rng (O : OrdOk n r o) (P : PreOk o pre) (k : Nat) : ∀ x ∈ pre k, 0 ≤ x ∧ x < n := fun x hx => by
  obtain ⟨a, ha, e⟩ := (P.mem k x).mp hx
  have := O.lt a (List.mem_of_mem_take ha)
  omega
theorem pre_in (O : OrdOk n r o) (P : PreOk o pre) {i k a : Nat} (h : o[i]? = some a) : ((a : Nat) : Int) ∈ pre k ↔ i < k := by
  rw [P.mem]
  constructor
  · rintro ⟨b, hb, e⟩
    obtain ⟨j, hj, hjb⟩ := mem_take_iff.mp hb
    have e : a = b := by omega
    subst e
    have := nodup_at O.nd h hjb
    omega
  · intro hk
    exact ⟨a, mem_take_iff.mpr ⟨i, hk, h⟩, rfl⟩
theorem RowOk.lenAt (R : RowOk n r) {a : Nat} {l : List Int} (h : r[a]? = some l) : (r.getD a []).length = l.length := by rw [List.getD_eq_getElem?_getD, h]; rfl
/-- the views of hands that come earlier lie in those of later ones -/
theorem earlier (R : RowOk n r) (O : OrdOk n r o) {i j a b : Nat} {l m : List Int} (hij : i ≤ j) (ha : o[i]? = some a) (hb : o[j]? = some b) (hl : r[a]? = some l) (hm : r[b]? = some m) : ∀ x ∈ l, x ∈ m := by
  rcases R.cmp a b l m hl hm with z | z
  · exact z
  · have := O.siz i j a b hij ha hb
    rw [R.lenAt hl, R.lenAt hm] at this
    exact sub_eq (srt_nodup (R.up b m hm)) z (by omega)
theorem pre_sub (R : RowOk n r) (O : OrdOk n r o) (P : PreOk o pre) {k j b : Nat} {m : List Int} (hkj : k ≤ j + 1) (hb : o[j]? = some b) (hm : r[b]? = some m) : ∀ x ∈ pre k, x ∈ m := fun x hx => by
  obtain ⟨a, ha, e⟩ := (P.mem k x).mp hx
  obtain ⟨i, hi, hia⟩ := mem_take_iff.mp ha
  have hla : r[a]? = some (r[a]'(by rw [R.len]; exact O.lt a (List.mem_of_mem_take ha))) := List.getElem?_eq_getElem _
  subst e
  exact earlier R O (by omega) hia hb hla hm _ (R.self a _ hla)
theorem up_ok (R : RowOk n r) (O : OrdOk n r o) (P : PreOk o pre) {k : Nat} (hk : k ≤ n) : RowOk n (upR r o pre k) := by
  have hl : (upR r o pre k).length = n := (up_len k).trans R.len
  have view : ∀ (a : Nat) (l : List Int), (upR r o pre k)[a]? = some l → ∃ i, o[i]? = some a ∧ i < n ∧ ((i < k ∧ l = pre (i + 1)) ∨ (k ≤ i ∧ r[a]? = some l)) := fun a l h => by
    have ha : a < n := by rw [← hl]; exact (List.getElem?_eq_some_iff.mp h).1
    obtain ⟨i, hi, hin⟩ := O.all ha
    refine ⟨i, hi, hin, ?_⟩
    rw [up_at O R.len k hk i a hi] at h
    by_cases c : i < k
    · rw [if_pos c] at h; exact .inl ⟨c, (Option.some.inj h).symm⟩
    · rw [if_neg c] at h; exact .inr ⟨by omega, h⟩
  refine ⟨hl, fun a l h => ?_, fun a l h => ?_, fun a l h => ?_, fun a b l m h h' => ?_, fun a b l m h h' hin => ?_⟩
  · obtain ⟨i, _, _, ⟨_, rfl⟩ | ⟨_, q⟩⟩ := view a l h
    · exact P.up _
    · exact R.up a l q
  · obtain ⟨i, _, _, ⟨_, rfl⟩ | ⟨_, q⟩⟩ := view a l h
    · exact pre_rng O P _
    · exact R.rng a l q
  · obtain ⟨i, hi, _, ⟨_, rfl⟩ | ⟨_, q⟩⟩ := view a l h
    · exact (pre_in O P hi).mpr (by omega)
    · exact R.self a l q
  · obtain ⟨i, hi, _, ⟨c1, rfl⟩ | ⟨c1, q1⟩⟩ := view a l h
    · obtain ⟨j, hj, _, ⟨c2, rfl⟩ | ⟨c2, q2⟩⟩ := view b m h'
      · rcases Nat.le_total (i + 1) (j + 1) with z | z
        · exact .inl (pre_mono P z)
        · exact .inr (pre_mono P z)
      · exact .inl (pre_sub R O P (by omega) hj q2)
    · obtain ⟨j, hj, _, ⟨c2, rfl⟩ | ⟨c2, q2⟩⟩ := view b m h'
      · exact .inr (pre_sub R O P (by omega) hi q1)
      · exact R.cmp a b l m q1 q2
  · obtain ⟨i, hi, _, ⟨c1, rfl⟩ | ⟨c1, q1⟩⟩ := view a l h
    · obtain ⟨j, hj, _, ⟨c2, rfl⟩ | ⟨c2, q2⟩⟩ := view b m h'
      · have := (pre_in O P hi).mp hin
        exact pre_mono P (by omega)
      · exact pre_sub R O P (by omega) hj q2
    · obtain ⟨j, hj, _, ⟨c2, rfl⟩ | ⟨c2, q2⟩⟩ := view b m h'
      · have := (pre_in O P hi).mp hin
        omega
      · exact R.fit a b l m q1 q2 hin
theorem dn_ok (R : RowOk n r) (O : OrdOk n r o) (P : PreOk o pre) {k : Nat} (hk : k ≤ n) : RowOk n (dnR r o pre n k) := by
  have hl : (dnR r o pre n k).length = n := (dn_len k).trans R.len
  have view : ∀ (a : Nat) (l : List Int), (dnR r o pre n k)[a]? = some l → ∃ i, o[i]? = some a ∧ i < n ∧ ((i < n - k ∧ l = pre (i + 1)) ∨ (n - k ≤ i ∧ l = pre n)) := fun a l h => by
    have ha : a < n := by rw [← hl]; exact (List.getElem?_eq_some_iff.mp h).1
    obtain ⟨i, hi, hin⟩ := O.all ha
    refine ⟨i, hi, hin, ?_⟩
    rw [dn_at O R.len k hk i a hi hin] at h
    by_cases c : i < n - k
    · rw [if_pos c] at h; exact .inl ⟨c, (Option.some.inj h).symm⟩
    · rw [if_neg c] at h; exact .inr ⟨by omega, (Option.some.inj h).symm⟩
  refine ⟨hl, fun a l h => ?_, fun a l h => ?_, fun a l h => ?_, fun a b l m h h' => ?_, fun a b l m h h' hin => ?_⟩
  · obtain ⟨i, _, _, ⟨_, rfl⟩ | ⟨_, rfl⟩⟩ := view a l h <;> exact P.up _
  · obtain ⟨i, _, _, ⟨_, rfl⟩ | ⟨_, rfl⟩⟩ := view a l h <;> exact pre_rng O P _
  · obtain ⟨i, hi, hin, ⟨_, rfl⟩ | ⟨_, rfl⟩⟩ := view a l h
    · exact (pre_in O P hi).mpr (by omega)
    · exact (pre_in O P hi).mpr hin
  · have cmp : ∀ u v, (∀ x ∈ pre u, x ∈ pre v) ∨ ∀ x ∈ pre v, x ∈ pre u := fun u v => (Nat.le_total u v).imp (pre_mono P) (pre_mono P)
    obtain ⟨i, hi, _, ⟨_, rfl⟩ | ⟨_, rfl⟩⟩ := view a l h <;> obtain ⟨j, hj, _, ⟨_, rfl⟩ | ⟨_, rfl⟩⟩ := view b m h' <;> exact cmp _ _
  · obtain ⟨i, hi, hi2, ⟨c1, rfl⟩ | ⟨c1, rfl⟩⟩ := view a l h <;> obtain ⟨j, hj, hj2, ⟨c2, rfl⟩ | ⟨c2, rfl⟩⟩ := view b m h'
    · have := (pre_in O P hi).mp hin
      exact pre_mono P (by omega)
    · exact pre_mono P (by omega)
    · have := (pre_in O P hi).mp hin
      omega
    · exact pre_mono P (Nat.le_refl _)
/-- the row of all -/
def fullL (n : Nat) : List Int := (List.range n).map fun (i : Nat) => (i : Int)
theorem fullL_up (n : Nat) : (fullL n).Pairwise (· < ·) := by
  unfold fullL
  rw [List.pairwise_map]
  exact List.pairwise_lt_range.imp fun h => by omega
theorem pre_all (O : OrdOk n r o) (P : PreOk o pre) : pre n = fullL n := by
  refine srt_eq (P.up n) (fullL_up n) fun x => ?_
  rw [P.mem]
  unfold fullL
  rw [List.mem_map, List.take_of_length_le (by rw [O.len]; exact Nat.le_refl _)]
  constructor
  · rintro ⟨a, ha, e⟩
    exact ⟨a, List.mem_range.mpr (O.lt a ha), e.symm⟩
  · rintro ⟨a, ha, e⟩
    obtain ⟨i, hi, _⟩ := O.all (List.mem_range.mp ha)
    exact ⟨a, List.mem_of_getElem? hi, e.symm⟩
theorem dn_all (R : RowOk n r) (O : OrdOk n r o) (P : PreOk o pre) : dnR r o pre n n = List.replicate n (fullL n) := by
  refine List.ext_getElem? fun a => ?_
  by_cases ha : a < n
  · obtain ⟨i, hi, hin⟩ := O.all ha
    rw [dn_at O R.len n (Nat.le_refl n) i a hi hin, if_neg (by omega), List.getElem?_replicate, if_pos ha, pre_all O P]
  · rw [List.getElem?_eq_none (by rw [dn_len, R.len]; omega), List.getElem?_eq_none (by rw [List.length_replicate]; omega)]
/-- all rows on the way -/
def wayR (r : Row') (o : List Nat) (pre : Nat → List Int) (n : Nat) : List Row' := ((List.range n).map fun k => upR r o pre (k + 1)) ++ (List.range n).map fun k => dnR r o pre n (k + 1)
theorem way_len : (wayR r o pre n).length = n + n := by simp [wayR]
theorem way_at {i : Nat} : (r :: wayR r o pre n)[i]? = if i ≤ n then some (upR r o pre i) else if i ≤ n + n then some (dnR r o pre n (i - n)) else none := by
  cases i with
  | zero => rw [if_pos (Nat.zero_le _)]; rfl
  | succ i =>
    rw [List.getElem?_cons_succ]
    unfold wayR
    by_cases h : i < n
    · rw [if_pos (by omega), List.getElem?_append_left (by simp; exact h), List.getElem?_map, List.getElem?_range h]; rfl
    · rw [if_neg (by omega), List.getElem?_append_right (by simp; omega), List.length_map, List.length_range, List.getElem?_map]
      by_cases h2 : i - n < n
      · rw [if_pos (by omega), List.getElem?_range h2, show i + 1 - n = i - n + 1 by omega]; rfl
      · rw [if_neg (by omega), List.getElem?_eq_none (by rw [List.length_range]; omega)]; rfl
def wayOf (r : Row') (o : List Nat) (pre : Nat → List Int) (n : Nat) : List Row' := r :: ddL r (wayR r o pre n)
structure WayOk (n : Nat) (r : Row') (ls : List Row') : Prop where
  ok : ∀ x ∈ ls, RowOk n x
  lnk : Lnk ls
  head : ls.head? = some r
  last : ls.getLast? = some (List.replicate n (fullL n))
  len : ls.length ≤ n + n + 1
theorem way_ok (hn : 0 < n) (R : RowOk n r) (O : OrdOk n r o) (P : PreOk o pre) : WayOk n r (wayOf r o pre n) := by
  have all : ∀ (i : Nat) x, (r :: wayR r o pre n)[i]? = some x → RowOk n x := fun i x h => by
    rw [way_at] at h
    by_cases c : i ≤ n
    · rw [if_pos c] at h
      rw [← Option.some.inj h]
      exact up_ok R O P c
    · rw [if_neg c] at h
      by_cases c2 : i ≤ n + n
      · rw [if_pos c2] at h
        rw [← Option.some.inj h]
        exact dn_ok R O P (by omega)
      · rw [if_neg c2] at h; cases h
  have near : ∀ (i : Nat) (x y : Row'), (r :: wayR r o pre n)[i]? = some x → (r :: wayR r o pre n)[i + 1]? = some y → y ≠ x → Unl x y := fun i x y hx hy ne => by
    rw [way_at] at hx hy
    by_cases c : i + 1 ≤ n
    · rw [if_pos (by omega)] at hx
      rw [if_pos c] at hy
      rw [← Option.some.inj hx, ← Option.some.inj hy] at ne ⊢
      exact near_set ne
    · rw [if_neg c] at hy
      by_cases c2 : i + 1 ≤ n + n
      · rw [if_pos c2] at hy
        have e : x = dnR r o pre n (i - n) := by
          by_cases c3 : i ≤ n
          · rw [if_pos c3] at hx
            have : i = n := by omega
            subst this
            rw [Nat.sub_self]
            exact (Option.some.inj hx).symm
          · rw [if_neg c3, if_pos (by omega)] at hx
            exact (Option.some.inj hx).symm
        have e2 : i + 1 - n = i - n + 1 := by omega
        rw [e2] at hy
        rw [e, ← Option.some.inj hy] at ne ⊢
        exact near_set ne
      · rw [if_neg c2] at hy; cases hy
  obtain ⟨h1, h2⟩ := dd_lnk near
  refine ⟨fun x hx => ?_, h1, rfl, h2.trans ?_, ?_⟩
  · have : x ∈ r :: wayR r o pre n := by
      rcases List.mem_cons.mp hx with e | e
      · rw [e]; exact List.mem_cons_self
      · exact List.mem_cons_of_mem _ (dd_mem e)
    obtain ⟨i, hi⟩ := List.mem_iff_getElem?.mp this
    exact all i x hi
  · rw [List.getLast?_eq_getElem?, way_at, List.length_cons, way_len, if_neg (by omega), if_pos (by omega), ← dn_all R O P]
    congr 2
    omega
  · have dl : ∀ (p : Row') (xs : List Row'), (ddL p xs).length ≤ xs.length := fun p xs => by
      induction xs generalizing p with
      | nil => exact Nat.le_refl _
      | cons a t ih =>
        unfold ddL
        have := ih a
        split
        · rw [List.length_cons]; omega
        · rw [List.length_cons, List.length_cons]; omega
    have := dl r (wayR r o pre n)
    rw [way_len] at this
    show (ddL r (wayR r o pre n)).length + 1 ≤ _
    omega
end
/-- a chain of rows -/
structure ChOk (n : Nat) (a b : Row') (ls : List Row') : Prop where
  ok : ∀ x ∈ ls, RowOk n x
  lnk : Lnk ls
  head : ls.head? = some a
  last : ls.getLast? = some b
theorem ways_ch {n : Nat} {a b : Row'} {ls ms : List Row'} (h : WayOk n a ls) (g : WayOk n b ms) : ChOk n a b (ls ++ ms.dropLast.reverse) := by
  rcases List.eq_nil_or_concat ls with rfl | ⟨l0, z, e1⟩
  · have := h.head; cases this
  rcases List.eq_nil_or_concat ms with rfl | ⟨m0, y, e2⟩
  · have := g.head; cases this
  rw [List.concat_eq_append] at e1 e2
  subst e1 e2
  have ez : z = List.replicate n (fullL n) := by have := h.last; simpa using this
  have ey : y = List.replicate n (fullL n) := by have := g.last; simpa using this
  have eyz : y = z := ey.trans ez.symm
  subst eyz
  have ed : (m0 ++ [y]).dropLast = m0 := by simp
  rw [ed]
  have hr := g.lnk.rev
  rw [List.reverse_append] at hr
  refine ⟨fun x hx => ?_, Lnk.app h.lnk hr, ?_, ?_⟩
  · rcases List.mem_append.mp hx with q | q
    · exact h.ok x q
    · exact g.ok x (List.mem_append_left _ (List.mem_reverse.mp q))
  · rw [List.head?_append, h.head]; rfl
  · rw [List.getLast?_append, List.getLast?_reverse]
    cases m0 with
    | nil =>
      have := g.head
      simp at this
      subst this
      simp
    | cons c t =>
      have := g.head
      simp at this
      subst this
      simp
end Fp
/-! t[::-1] of a tuple; xs[-2::-1] of a list -/
namespace Fp
open PySem PySem.Spec PyProof.Rows L2
section
variable {prog : Program} {w : World} {A : Around} {E : Value → Shared → Prop} {s : Shared}
theorem applied_rev {sl : Addr} {vs : Value} {n : Nat} {Q : Int × Int × Nat → Shared → Prop} (hs : s.heap.IsSliceOf sl .none .none vs) (ps : IsPart vs (some (-1))) (h : Q ((n : Int) - 1, -1, n) s) :
    wpAny (model prog w) A (Builtin.Slice.sliceApplied (.ref sl) (pure (n : Int))) Q E s := by
  obtain ⟨os, hos, hcs, hds⟩ := id hs
  unfold Builtin.Slice.sliceApplied Builtin.Slice.sliceFields
  refine wpAny_bind (wpAny_bind (wpAny_field hos hds (x := .none) rfl (wpAny_bind (wpAny_field hos hds (x := .none) rfl (wpAny_bind (wpAny_field hos hds (x := vs) rfl (wpAny_pure ?_)))))))
  refine wpAny_bind (HT.slicePart_ ps ?_)
  show wpAny _ _ (if ((-1 : Int) == 0) = true then _ else _) _ _ s
  rw [if_neg (by decide)]
  refine wpAny_bind (slicePart_none (wpAny_bind (slicePart_none (wpAny_bind (wpAny_pure ?_)))))
  have e : Builtin.Slice.sliceAdjust none none (-1) (n : Int) = ((n : Int) - 1, -1) := by
    unfold Builtin.Slice.sliceAdjust
    simp only [show ((-1 : Int) < 0) by decide, if_true]
  have p : Builtin.Slice.slicePlaces ((n : Int) - 1) (-1) (-1) = n := by
    unfold Builtin.Slice.slicePlaces
    simp only [show ¬ ((-1 : Int) > 0) by decide, if_false]
    by_cases c : (n : Int) - 1 > -1
    · rw [if_pos c, show (-(-1) : Int) = 1 by decide, Int.ediv_one]; omega
    · rw [if_neg c]; omega
  show wpAny _ _ (match Builtin.Slice.sliceAdjust none none (-1) (n : Int) with | (lo, hi) => pure (lo, (-1 : Int), Builtin.Slice.slicePlaces lo hi (-1))) _ _ s
  rw [e]
  show wpAny _ _ (pure ((n : Int) - 1, (-1 : Int), Builtin.Slice.slicePlaces ((n : Int) - 1) (-1) (-1))) _ _ s
  rw [p]
  exact wpAny_pure h
theorem pick_rev (xs : Array Value) : ((List.range xs.size).filterMap fun (m : Nat) => xs[(((xs.size : Nat) : Int) - 1 + (m : Int) * (-1)).toNat]?).toArray = xs.toList.reverse.toArray := by
  have e : ((List.range xs.size).filterMap fun (m : Nat) => xs[(((xs.size : Nat) : Int) - 1 + (m : Int) * (-1)).toNat]?) = ((List.range xs.size).map (fun k => xs.size - 1 - k)).filterMap (xs[·]?) := by
    rw [List.filterMap_map]
    refine congrArg (fun f => List.filterMap f (List.range xs.size)) (funext fun m => ?_)
    show xs[(((xs.size : Nat) : Int) - 1 + (m : Int) * (-1)).toNat]? = xs[xs.size - 1 - m]?
    congr 1
    omega
  rw [e, PySem.W.krv_range, List.filterMap_reverse, PySem.W.krv_all]
theorem item_rev {t sl : Addr} {items : Array Value} {vs : Value} {Q : Value → Shared → Prop} (ht : IsTup s.heap t items) (hs : s.heap.IsSliceOf sl .none .none vs) (ps : IsPart vs (some (-1)))
    (h : Q (.ref s.heap.objs.size) { s with heap := s.heap.push { cls := .type "tuple", data := .seq items.toList.reverse.toArray } }) (hsz : items.size ≤ sizeLine) : wpAny (model prog w) A (getItem (.ref t) (.ref sl)) Q E s := by
  have hok : sizeOk (.seq items.toList.reverse.toArray) := by
    show items.toList.reverse.toArray.size ≤ sizeLine
    rw [List.size_toArray, List.length_reverse, Array.length_toList]
    exact hsz
  obtain ⟨os, hos, hcs, hds⟩ := id hs
  have hTs : s.TypeIs (.ref sl) "slice" := ⟨os, hos, hcs⟩
  unfold getItem
  try with_reducible refine wpAny_holding ?_
  first | refine wpAny_bind (wpAny_pure ?_) | skip
  refine wpAny_bind (wpAny_sequenceKey ht.typeIs (by decide) ?_)
  refine wpAny_bind (wpAny_callSpecial?_slot (name := Str.ofString "__getitem__") ht.typeIs PyProof.Rows.slot_tuple_getitem
    (wpAny_call_entry PyProof.Rows.slot_tuple_getitem ht.typeIs entry_tuple_getitem ?_ (args_tuple_getitem _ _)))
  show wpAny _ _ (Builtin.Tuple.tupleItemsOf (.ref t) >>= _) _ _ s
  refine wpAny_bind (tupleItemsOf_ ht (wpAny_bind (wpAny_typeOf hTs ?_)))
  rw [if_pos (by decide)]
  refine wpAny_bind (applied_rev hs ps ?_)
  have hno : ¬ ((((items.size : Nat) : Int) - 1 == 0 && (-1 : Int) == 1 && items.size == items.size) = true) := fun q => by
    rw [Bool.and_eq_true, Bool.and_eq_true] at q
    exact absurd q.1.2 (by decide)
  show wpAny _ _ (if (((items.size : Nat) : Int) - 1 == 0 && (-1 : Int) == 1 && items.size == items.size) = true then _ else _) _ _ s
  rw [if_neg hno, pick_rev]
  first
    | exact wpAny_bind (m := Builtin.Tuple.tupleExact _) (wpAny_newObj_type (wpAny_pure ⟨_, rfl, wpAny_pure h⟩) hok)
    | exact wpAny_bind (m := Builtin.Tuple.tupleExact _) (wpAny_newObj_type (wpAny_bind (wpAny_pure (wpAny_pure ⟨_, rfl, wpAny_pure h⟩))) hok)
    | exact wpAny_bind (wpAny_bind (m := Builtin.Tuple.tupleExact _) (wpAny_newObj_type (wpAny_pure (wpAny_pure ⟨_, rfl, wpAny_pure h⟩)) hok))
    | exact wpAny_bind (wpAny_bind (m := Builtin.Tuple.tupleExact _) (wpAny_newObj_type (wpAny_pure ⟨_, rfl, wpAny_pure h⟩) hok))
end
theorem fm_congr {α β : Type} {f g : α → Option β} : ∀ {l : List α}, (∀ x ∈ l, f x = g x) → l.filterMap f = l.filterMap g
  | [], _ => rfl
  | a :: l, h => by
    rw [List.filterMap_cons, List.filterMap_cons, h a (by simp), fm_congr fun x hx => h x (List.mem_cons_of_mem _ hx)]
theorem pick_back (items : Array Value) (hn : 1 ≤ items.size) : slicePick items (some (-2)) none (some (-1)) = items.toList.dropLast.reverse.toArray := by
  have e : sliceBounds (some (-2)) none (some (-1)) items.size = (((items.size - 1 : Nat) : Int) - 1, -1, -1) := by
    unfold sliceBounds
    simp only [Option.getD_some, show ¬ ((-1 : Int) > 0) by decide, if_false, show ((-2 : Int) < 0) by decide, if_true]
    refine Prod.ext ?_ rfl
    show max (-1) (min (-2 + ((items.size : Nat) : Int)) (((items.size : Nat) : Int) - 1)) = ((items.size - 1 : Nat) : Int) - 1
    omega
  unfold slicePick
  rw [e]
  show ((sliceRange (((items.size - 1 : Nat) : Int) - 1) (-1) (-1)).filterMap (items[·]?)).toArray = _
  rw [PySem.W.krv_sliceRange, PySem.W.krv_range, List.filterMap_reverse]
  congr 2
  have h := PySem.W.krv_all (items.toList.dropLast.toArray)
  rw [show items.toList.dropLast.toArray.size = items.size - 1 by simp] at h
  rw [show items.toList.dropLast = items.toList.dropLast.toArray.toList by simp, ← h]
  refine fm_congr fun x hx => ?_
  have hx := List.mem_range.mp hx
  show items[x]? = items.toList.dropLast.toArray[x]?
  have e1 : items.toList.dropLast.toArray[x]? = items.toList.dropLast[x]? := by simp
  rw [e1, List.getElem?_dropLast, if_pos (by rw [Array.length_toList]; exact hx), Array.getElem?_toList]
def tRevT (K : PySem.W.Frag) (te : TE) : TE := fun σ H Q => te σ H fun x H1 => ∃ a xs, x = .ref a ∧ SqT K H1 a xs ∧ ∀ p, H1 p = none → Q (.ref p) (upd H1 p (.tup xs.reverse))
def tBack (K : PySem.W.Frag) (te : TE) : TE := fun σ H Q => te σ H fun x H1 => ∃ a xs, x = .ref a ∧ SqL K H1 a xs ∧ xs ≠ [] ∧ ∀ p, H1 p = none → Q (.ref p) (upd H1 p (.lst xs.dropLast.reverse))
theorem Vals.dropLast' : ∀ {xs : List V} {us : List Value}, Vals xs us → Vals xs.dropLast us.dropLast
  | _, _, .nil => .nil
  | [_], [_], .cons _ .nil => .nil
  | _ :: _ :: _, _ :: _ :: _, .cons h (.cons g t) => .cons h (Vals.dropLast' (.cons g t))
section
variable {X : Cx}
theorem pe_revT {e : Expr} {te : TE} {k : Nat} {p1 p2 p3 pos : Pos} (he : PE X e te) : PE X (.Subscript e (.Slice none none (some (.UnaryOp .USub (.Constant (.int 1) k p1) p2)) p3) pos) (tRevT X.K te) := by
  refine ⟨fun pins s σ H Q I h => ?_⟩
  refine Subscript_ (thn (he.run pins s σ H _ I h) fun v s1 ⟨x, H1, I1, r1, q1⟩ => ?_)
  obtain ⟨a, xs, ex, hx, q⟩ := q1
  subst ex
  cases r1
  have hst : PO X (some (.UnaryOp .USub (.Constant (.int 1) k p1) p2)) (tPart (tUn (rU fun i => .int (-i)) (tC (.int 1)))) := po_some (pe_un un_neg pe_int)
  refine wpAny_Slice (thn (po_none.run pins s1 σ H1 (fun o H2 => o = none ∧ H2 = H1) I1 ⟨rfl, rfl⟩) fun vl s2 ⟨l, H2, I2, pL, el, e2⟩ => ?_)
  subst el e2
  refine thn (po_none.run pins s2 σ H2 (fun o H3 => o = none ∧ H3 = H2) I2 ⟨rfl, rfl⟩) fun vu s3 ⟨u, H3, I3, pu, eu, e3⟩ => ?_
  subst eu e3
  refine thn (hst.run pins s3 σ H3 (fun o H4 => o = some (-1) ∧ H4 = H3) I3 ⟨1, rfl, -1, rfl, rfl, rfl⟩) fun vs s4 ⟨o, H4, I4, ps, eo, e4⟩ => ?_
  subst eo e4
  cases pL
  cases pu
  have I5 : Inv X pins σ H4 { s4 with heap := s4.heap.push { cls := .type "slice", data := .fields #[.none, .none, vs] } } := I4.kept (t' := s4.toks) fun b ob q => Heap.get?_push_of_some _ q
  obtain ⟨its, r, ht, hz⟩ := I5.tuple hx
  have hlen := r.length
  show wpAny (model X.prog X.w) X.A (subscriptTail e (.Slice none none (some (.UnaryOp .USub (.Constant (.int 1) k p1) p2)) p3) (.ref a) (.ref s4.heap.objs.size)) (EP X pins σ Q) X.xe { s4 with heap := s4.heap.push { cls := .type "slice", data := .fields #[.none, .none, vs] } }
  refine tail_any (ops := [.ref a, .ref s4.heap.objs.size]) ht.typeIs (PyProof.Rows.slot_tuple_getitem.lookup) ?_ (by with_unfolding_all rfl)
  refine item_rev ht (Heap.IsSliceOf.new _ .none .none vs) ps ?_ (by rw [List.size_toArray]; omega)
  refine ⟨.ref _, _, I5.laid (t' := s4.toks) (o := .tup xs.reverse) (fun b ob q => Heap.get?_push_of_some _ q) (Nat.le_refl _) ?_, rfl, q _ (I5.hok.fresh (Nat.le_refl _))⟩
  exact ⟨by rw [List.length_reverse]; exact hz, _, r.reverse, IsTup.new _ _⟩
theorem pe_back2 {e : Expr} {te : TE} {k k2 : Nat} {p1 p2 p3 p4 p5 pos : Pos} (he : PE X e te) : PE X (.Subscript e (.Slice (some (.UnaryOp .USub (.Constant (.int 2) k2 p4) p5)) none (some (.UnaryOp .USub (.Constant (.int 1) k p1) p2)) p3) pos) (tBack X.K te) := by
  refine ⟨fun pins s σ H Q I h => ?_⟩
  refine Subscript_ (thn (he.run pins s σ H _ I h) fun v s1 ⟨x, H1, I1, r1, q1⟩ => ?_)
  obtain ⟨a, xs, ex, hx, hne, q⟩ := q1
  subst ex
  cases r1
  have hst : PO X (some (.UnaryOp .USub (.Constant (.int 1) k p1) p2)) (tPart (tUn (rU fun i => .int (-i)) (tC (.int 1)))) := po_some (pe_un un_neg pe_int)
  have hst2 : PO X (some (.UnaryOp .USub (.Constant (.int 2) k2 p4) p5)) (tPart (tUn (rU fun i => .int (-i)) (tC (.int 2)))) := po_some (pe_un un_neg pe_int)
  refine wpAny_Slice (thn (hst2.run pins s1 σ H1 (fun o H2 => o = some (-2) ∧ H2 = H1) I1 ⟨2, rfl, -2, rfl, rfl, rfl⟩) fun vl s2 ⟨l, H2, I2, pL, el, e2⟩ => ?_)
  subst el e2
  refine thn (po_none.run pins s2 σ H2 (fun o H3 => o = none ∧ H3 = H2) I2 ⟨rfl, rfl⟩) fun vu s3 ⟨u, H3, I3, pu, eu, e3⟩ => ?_
  subst eu e3
  refine thn (hst.run pins s3 σ H3 (fun o H4 => o = some (-1) ∧ H4 = H3) I3 ⟨1, rfl, -1, rfl, rfl, rfl⟩) fun vs s4 ⟨o, H4, I4, ps, eo, e4⟩ => ?_
  subst eo e4
  have I5 : Inv X pins σ H4 { s4 with heap := s4.heap.push { cls := .type "slice", data := .fields #[vl, vu, vs] } } := I4.kept (t' := s4.toks) fun b ob q => Heap.get?_push_of_some _ q
  obtain ⟨its, r, ht, hz⟩ := I5.list hx
  have hlen := r.length
  have h1 : 1 ≤ its.toArray.size := by
    have := List.length_pos_iff.mpr hne
    rw [List.size_toArray]; omega
  show wpAny (model X.prog X.w) X.A (subscriptTail e (.Slice (some (.UnaryOp .USub (.Constant (.int 2) k2 p4) p5)) none (some (.UnaryOp .USub (.Constant (.int 1) k p1) p2)) p3) (.ref a) (.ref s4.heap.objs.size)) (EP X pins σ Q) X.xe { s4 with heap := s4.heap.push { cls := .type "slice", data := .fields #[vl, vu, vs] } }
  refine tail_any (ops := [.ref a, .ref s4.heap.objs.size]) ht.isList.typeIs (PySem.slot_list_getitem.lookup) ?_ (by with_unfolding_all rfl)
  refine wpAny_getItem_list_slice ht.isList (Heap.IsSliceOf.new _ vl vu vs) pL pu ps (by decide) ?_ (by rw [List.size_toArray]; omega)
  rw [pick_back _ h1]
  refine ⟨.ref _, _, I5.laid (t' := s4.toks) (o := .lst xs.dropLast.reverse) (fun b ob q => Heap.get?_push_of_some _ q) (Nat.le_refl _) ?_, rfl, q _ (I5.hok.fresh (Nat.le_refl _))⟩
  exact ⟨by rw [List.length_reverse, List.length_dropLast]; omega, _, 0, (Vals.dropLast' r).reverse, Heap.get?_push_size _ rfl⟩
end
end Fp
namespace Fp
open PySem PySem.Spec PyProof.Rows L2
/-- how many places of two rows are unlike -/
def neI (ds es : List Dt) (i : Nat) : Bool := !PyData.eqv (toP 2 (ds.getD i .non)) (toP 2 (es.getD i .non))
def unl (ds es : List Dt) : Nat := ((List.range ds.length).filter (neI ds es)).length
def spExcD : Sp := fun vs H Q _ => ∃ (v y : V) (p : Nat) (ds : List Dt) (e : Dt), vs = [v, .int p, y] ∧ DV H v (.tup ds) ∧ DV H y e ∧ p < ds.length ∧ ∀ c H', Same H H' → DV H' (.ref c) (.tup (ds.set p e)) → Q (.ref c) H'
def spLotOfD (K : PySem.W.Frag) : Sp := fun vs H Q _ => ∃ (a : Addr) (ns : List Int), vs = [.ref a] ∧ SqL K H a (ns.map V.int) ∧ ns.length < 60 ∧ ∀ c H' zs, Same H H' → zs.Pairwise (· < ·) → (∀ x : Int, x ∈ zs ↔ x ∈ ns) → DV H' (.ref c) (lotD zs) → Q (.ref c) H'
def spUnlD : Sp := fun vs H Q _ => ∃ (v y : V) (ds es : List Dt), vs = [v, y] ∧ DV H v (.tup ds) ∧ DV H y (.tup es) ∧ ds.length = es.length ∧ pl 3 (.tup ds) = true ∧ pl 3 (.tup es) = true ∧ ∀ H', Same H H' → Q (.int (unl ds es : Nat)) H'
theorem dvs_ints (H : Hp) : ∀ zs : List Int, DVs H (zs.map V.int) (zs.map Dt.int)
  | [] => .nil
  | z :: r => .cons (.int z) (dvs_ints H r)
theorem u64 {k : Nat} {A : Around} (r : Room k A) : A.units + 64 < cLine := by have := u65 r; omega
section
variable {P : Program} {w : World} {K : PySem.W.Frag} {mg : Str → Option Value} {base : Heap} {f : Addr} {fd : FuncData} {C : Addr}
abbrev s_is_whole_row : Stmt := top 19
theorem sc_is_whole_row : FnScope ["many", "value"] ["many", "value"] (defScope s_is_whole_row) := ⟨rfl, rfl, rfl, by decide +kernel, rfl, by decide +kernel, by decide +kernel⟩
theorem ok_is_whole_row (F : Fun K "is_whole_row" "is_whole_row" s_is_whole_row f fd) (G_is_at_once : Fd P w K mg base CX0 "is_at_once" 4 ["many", "value"] spAtD) : FnOk P w K mg base CX0 5 f fd ["many", "value"] spRowD := by
  refine F.ok sc_is_whole_row (fun vs H Q E h => ?_) (fun cdv A outer s H vs Q E hr h => ?_)
  · obtain ⟨n, v, d, rfl, _⟩ := h
    rfl
  obtain ⟨n, v, d, rfl, h1, h5, hd, k⟩ := h
  refine ⟨_, (pss_one (ps_ret (pe_and (pe_fd G_is_at_once (hr.mono (by first | decide | omega)) rfl (pa_cons (pv 0) (pa_cons (pv 1) pa_nil))) (pe_one (pe_cmpR (op_noneNotIn' (u65 hr)) pe_non (pv 1) rfl))))), ?_⟩
  refine ⟨_, rfl, _, rfl, n, v, d, rfl, h1, h5, hd, fun H1 g1 => ?_⟩
  refine ⟨_, rfl, ite2 (fun c => ?_) (fun c => ?_)⟩
  · obtain ⟨ds, rfl, _⟩ := at_tup c
    refine ⟨_, rfl, ds, rfl, hd.same g1, pl_up (at_pl c), ?_⟩
    have e : wholeB n (.tup ds) = !ds.any Dt.isNon := by
      show (atB n (.tup ds) && !ds.any Dt.isNon) = _
      rw [c, Bool.true_and]
    rw [e] at k
    exact k _ g1
  · have e : wholeB n d = false := by
      unfold wholeB
      rw [show atB n d = false by simpa using c]; rfl
    rw [e] at k
    exact k _ g1
abbrev s_exchanged : Stmt := top 12
theorem sc_exchanged : FnScope ["row", "at", "thing"] ["row", "at", "thing"] (defScope s_exchanged) := ⟨rfl, rfl, rfl, by decide +kernel, rfl, by decide +kernel, by decide +kernel⟩
theorem ok_exchanged (F : Fun K "exchanged" "exchanged" s_exchanged f fd) : FnOk P w K mg base CX0 1 f fd ["row", "at", "thing"] spExcD := by
  refine F.ok sc_exchanged (fun vs H Q E h => ?_) (fun cdv A outer s H vs Q E hr h => ?_)
  · obtain ⟨v, y, p, ds, e, rfl, _⟩ := h
    rfl
  obtain ⟨v, y, p, ds, e, rfl, hd, hy, hp, k⟩ := h
  refine ⟨_, (pss_one (ps_ret (pe_op op_catA (pe_op op_catA (pe_slice sl_tupA (pv 0) po_none (po_some (pv 1))) (pe_tup (pa_cons (pv 2) pa_nil))) (pe_slice sl_tupA (pv 0) (po_some (pe_op op_add (pv 1) pe_int)) po_none)))), ?_⟩
  cases hd with
  | @tup a xs _ ha hds hl =>
    have hxl := hds.len
    refine ⟨_, rfl, ?_⟩
    refine noP_in ?_
    refine ⟨_, rfl, _, rfl, ?_⟩
    refine slA_any ha fun b H1 g1 hb => ?_
    rw [cutA_to] at hb
    refine ⟨_, rfl, szl (by show 1 ≤ _; decide), fun t nt => ?_⟩
    have g2 := same_new nt (.tup [y])
    refine catA_any (g2 _ _ hb) upd_same (by rw [List.length_take]; show _ + 1 ≤ _; omega) fun c H2 g3 hc => ?_
    have g13 := (g1.trans g2).trans g3
    refine ⟨_, rfl, _, rfl, _, _, rfl, rfl, _, rfl, ?_⟩
    refine noP_in ?_
    refine slA_any (g13 _ _ ha) fun b2 H3 g4 hb2 => ?_
    rw [show ((p : Int) + 1) = ((p + 1 : Nat) : Int) by omega, cutA_from] at hb2
    refine catA_any (g4 _ _ hc) hb2 (by simp only [List.length_append, List.length_take, List.length_drop, List.length_singleton]; omega) fun c2 H4 g5 hc2 => ?_
    have g := (g13.trans g4).trans g5
    refine k c2 H4 g (.tup (xs := xs.set p y) ?_ (DVs.set (hy.same g) (hds.same g)) (by rw [List.length_set]; exact hl))
    rw [hc2, List.set_eq_take_append_cons_drop, if_pos (by omega)]
    simp
abbrev s_lot_of : Stmt := top 8
theorem sc_lot_of : FnScope ["words"] ["words"] (defScope s_lot_of) := ⟨rfl, rfl, rfl, by decide +kernel, rfl, by decide +kernel, by decide +kernel⟩
theorem ok_lot_of (F : Fun K "lot_of" "lot_of" s_lot_of f fd) (T : RTx mg) : FnOk P w K mg base CX0 1 f fd ["words"] (spLotOfD K) := by
  refine F.ok sc_lot_of (fun vs H Q E h => ?_) (fun cdv A outer s H vs Q E hr h => ?_)
  · obtain ⟨a, ns, rfl, _⟩ := h
    rfl
  obtain ⟨a, ns, rfl, ha, hl, k⟩ := h
  refine ⟨_, (pss_one (ps_ret (pe_callTy call_tuple_of rfl T.tuple (by decide +kernel) (pa_cons (pe_callB (cr_sortedSet rfl) rfl T.sorted (by decide +kernel) (pa_cons (pe_callTy (cr_setI rfl) rfl T.set (by decide +kernel) (pa_cons (pv 0) pa_nil)) pa_nil)) pa_nil)))), ?_⟩
  refine ⟨_, rfl, a, ns, rfl, ha, by omega, fun s1 c hc n1 => ?_⟩
  have g1 := same_new n1 (SetO w s1 (fun j => decide (j ∈ ns)) c)
  refine ⟨s1, _, c, rfl, upd_same, by omega, fun zs p hz hm hzl np => ?_⟩
  have g2 := same_new np (.lst (zs.map V.int))
  refine ⟨p, _, rfl, .inl ⟨.of upd_same, fun l nl => ?_⟩⟩
  have g3 := same_new nl (.tup (zs.map V.int))
  refine k l _ zs ((g1.trans g2).trans g3) hz (fun x => (hm x).trans decide_eq_true_iff) (.tup upd_same ?_ (by rw [List.length_map]; omega))
  exact dvs_ints _ zs
end
end Fp
namespace Fp
open PySem PySem.Spec PyProof.Rows L2
def spWayD : Sp := fun vs H Q _ => ∃ (n : Nat) (v : V) (r : Row'), vs = [.int n, v] ∧ 1 ≤ n ∧ n ≤ 5 ∧ DV H v (rowD r) ∧ RowOk n r ∧ ∀ l H' xs ls, Same H H' → H' l = some (.lst xs) → DVs H' xs (ls.map rowD) → WayOk n r ls → Q (.ref l) H'
theorem ord_of {n : Nat} {r : Row'} {PL : List (Int × Int)} (hp : PL.Perm ((List.range n).map fun j : Nat => (((r.getD j []).length : Int), (j : Int)))) (hs : PL.Pairwise fun p q => SrtO.lexB q p = false) :
    OrdOk n r (PL.map fun p => p.2.toNat) ∧ PL.map (fun p => V.int p.2) = (PL.map fun p => p.2.toNat).map fun a : Nat => V.int (a : Int) := by
  have mem : ∀ p ∈ PL, ∃ j : Nat, j < n ∧ p = (((r.getD j []).length : Int), (j : Int)) := fun p hp' => by
    obtain ⟨j, hj, e⟩ := List.mem_map.mp (hp.mem_iff.mp hp')
    exact ⟨j, List.mem_range.mp hj, e.symm⟩
  have hperm : (PL.map fun p => p.2.toNat).Perm (List.range n) := by
    have := hp.map fun p : Int × Int => p.2.toNat
    rw [List.map_map] at this
    have e : (List.range n).map ((fun p : Int × Int => p.2.toNat) ∘ fun j : Nat => (((r.getD j []).length : Int), (j : Int))) = List.range n := by
      refine (List.map_congr_left fun j _ => ?_).trans (List.map_id _)
      show ((j : Int)).toNat = j
      omega
    rw [e] at this
    exact this
  refine ⟨⟨by rw [hperm.length_eq, List.length_range], hperm.nodup_iff.mpr List.nodup_range, fun x hx => List.mem_range.mp (hperm.mem_iff.mp hx), fun i j a b hij ha hb => ?_⟩, ?_⟩
  · rw [List.getElem?_map] at ha hb
    obtain ⟨p, hp1, rfl⟩ := Option.map_eq_some_iff.mp ha
    obtain ⟨q, hq1, rfl⟩ := Option.map_eq_some_iff.mp hb
    obtain ⟨u, hu, rfl⟩ := mem p (List.mem_of_getElem? hp1)
    obtain ⟨v, hv, rfl⟩ := mem q (List.mem_of_getElem? hq1)
    show (r.getD ((u : Int)).toNat []).length ≤ (r.getD ((v : Int)).toNat []).length
    rw [Int.toNat_natCast, Int.toNat_natCast]
    rcases Nat.lt_or_eq_of_le hij with c | c
    · obtain ⟨l1, e1⟩ := List.getElem?_eq_some_iff.mp hp1
      obtain ⟨l2, e2⟩ := List.getElem?_eq_some_iff.mp hq1
      have := List.pairwise_iff_getElem.mp hs i j l1 l2 c
      rw [e1, e2, SrtO.lexB_no] at this
      have := fun z => this (.inl z)
      have h : ¬ (((r.getD v []).length : Int) < ((r.getD u []).length : Int)) := this
      omega
    · subst c
      have e := congrArg Prod.fst (Option.some.inj (hp1.symm.trans hq1))
      have e : ((r.getD u []).length : Int) = ((r.getD v []).length : Int) := e
      omega
  · rw [List.map_map]
    refine List.map_congr_left fun p hp' => ?_
    obtain ⟨j, _, rfl⟩ := mem p hp'
    show V.int (j : Int) = V.int ((((j : Int)).toNat : Nat) : Int)
    rw [Int.toNat_natCast]
def preF (n : Nat) (o : List Nat) (k : Nat) : List Int := (fullL n).filter fun x => (o.take k).any fun a => decide (x = (a : Int))
theorem preF_mem {n : Nat} {r : Row'} {o : List Nat} (O : OrdOk n r o) (k : Nat) (x : Int) : x ∈ preF n o k ↔ ∃ a ∈ o.take k, x = ((a : Nat) : Int) := by
  unfold preF
  rw [List.mem_filter, List.any_eq_true]
  constructor
  · rintro ⟨_, a, ha, e⟩
    exact ⟨a, ha, of_decide_eq_true e⟩
  · rintro ⟨a, ha, e⟩
    exact ⟨by rw [e]; exact List.mem_map.mpr ⟨a, List.mem_range.mpr (O.lt a (List.mem_of_mem_take ha)), rfl⟩, a, ha, decide_eq_true e⟩
theorem preF_ok {n : Nat} {r : Row'} {o : List Nat} (O : OrdOk n r o) : PreOk o (preF n o) := ⟨fun k => (fullL_up n).filter _, preF_mem O⟩
theorem preF_eq {n : Nat} {r : Row'} {o : List Nat} (O : OrdOk n r o) {k : Nat} {L : List Int} (hL : L.Pairwise (· < ·)) (hm : ∀ x : Int, x ∈ L ↔ x ∈ (o.take k).map fun a : Nat => (a : Int)) : L = preF n o k := by
  refine srt_eq hL ((preF_ok O).up k) fun x => ?_
  rw [hm, preF_mem O, List.mem_map]
  exact ⟨fun ⟨a, h1, h2⟩ => ⟨a, h1, h2.symm⟩, fun ⟨a, h1, h2⟩ => ⟨a, h1, h2.symm⟩⟩
/-- what a pair of integers holds -/
def kf (H : Hp) : V → Int × Int
  | .ref t => match H t with
    | some (.tup [.int i, .int j]) => (i, j)
    | _ => (0, 0)
  | _ => (0, 0)
theorem kf_at {H : Hp} {t : Addr} {i j : Int} (h : H t = some (.tup [.int i, .int j])) : kf H (.ref t) = (i, j) := by
  show (match H t with
    | some (.tup [.int i, .int j]) => (i, j)
    | _ => (0, 0)) = _
  rw [h]
theorem DVs.snoc {H : Hp} {vs : List V} {ds : List Dt} {v : V} {d : Dt} (h : DVs H vs ds) (g : DV H v d) : DVs H (vs ++ [v]) (ds ++ [d]) := h.app (.cons g .nil)
theorem atI_m1 {ys : List V} {v : V} {i : Nat} (h : ys[i]? = some v) (hl : ys.length = i + 1) : atI ys (-1) = some v := by
  rcases List.eq_nil_or_concat ys with rfl | ⟨l0, z, e⟩
  · cases h
  · rw [List.concat_eq_append] at e
    subst e
    rw [List.length_append, List.length_singleton] at hl
    rw [List.getElem?_append_right (by omega), show i - l0.length = 0 by omega] at h
    cases h
    exact atI_last _ _
def upL (r : Row') (o : List Nat) (pre : Nat → List Int) (i : Nat) : List Row' := (List.range (i + 1)).map (upR r o pre)
def wlL (r : Row') (o : List Nat) (pre : Nat → List Int) (n j : Nat) : List Row' := upL r o pre n ++ (List.range j).map fun k => dnR r o pre n (k + 1)
theorem upL_succ {r : Row'} {o : List Nat} {pre : Nat → List Int} {i : Nat} : upL r o pre (i + 1) = upL r o pre i ++ [upR r o pre (i + 1)] := by
  unfold upL
  rw [List.range_succ, List.map_append]; rfl
theorem upL_len {r : Row'} {o : List Nat} {pre : Nat → List Int} {i : Nat} : (upL r o pre i).length = i + 1 := by simp [upL]
theorem upL_last {r : Row'} {o : List Nat} {pre : Nat → List Int} {i : Nat} : (upL r o pre i)[i]? = some (upR r o pre i) := by
  unfold upL
  rw [List.getElem?_map, List.getElem?_range (Nat.lt_succ_self i)]; rfl
theorem wlL_succ {r : Row'} {o : List Nat} {pre : Nat → List Int} {n j : Nat} : wlL r o pre n (j + 1) = wlL r o pre n j ++ [dnR r o pre n (j + 1)] := by
  unfold wlL
  rw [List.range_succ, List.map_append, List.append_assoc]; rfl
theorem wlL_len {r : Row'} {o : List Nat} {pre : Nat → List Int} {n j : Nat} : (wlL r o pre n j).length = n + j + 1 := by
  unfold wlL
  rw [List.length_append, upL_len, List.length_map, List.length_range]; omega
theorem wlL_last {r : Row'} {o : List Nat} {pre : Nat → List Int} {n j : Nat} : (wlL r o pre n j)[n + j]? = some (dnR r o pre n j) := by
  cases j with
  | zero =>
    unfold wlL
    rw [List.range_zero, List.map_nil, List.append_nil]
    exact upL_last
  | succ j =>
    rw [wlL_succ, List.getElem?_append_right (by rw [wlL_len]; omega), wlL_len, show n + (j + 1) - (n + j + 1) = 0 by omega]; rfl
theorem wlL_all {r : Row'} {o : List Nat} {pre : Nat → List Int} {n : Nat} : wlL r o pre n n = r :: wayR r o pre n := by
  unfold wlL upL wayR
  rw [List.range_succ_eq_map, List.map_cons, List.map_map]
  rfl
theorem rowD_set {r : Row'} {p : Nat} {l : List Int} : Dt.tup ((r.map lotD).set p (lotD l)) = rowD (r.set p l) := by
  unfold rowD
  rw [List.map_set]
theorem rowD_inj {r s : Row'} (h : rowD r = rowD s) : r = s := by
  unfold rowD at h
  injection h with h
  have := congrArg (List.map lotOf) h
  rw [List.map_map, List.map_map] at this
  have e : ∀ t : Row', t.map (lotOf ∘ lotD) = t := fun t => (List.map_congr_left fun x _ => lotOf_lotD x).trans (List.map_id t)
  rw [e, e] at this
  exact this
theorem dd_step {r x y : Row'} {W : List Row'} {j : Nat} (hy : (r :: W)[j]? = some y) (hx : W[j]? = some x) : ddL r (W.take (j + 1)) = ddL r (W.take j) ++ if x = y then [] else [x] := by
  rw [List.take_add_one, hx]
  show ddL r (W.take j ++ [x]) = _
  rw [dd_snoc]
  have e : (r :: W.take j).getLast (by simp) = y := by
    have hj : j < W.length := (List.getElem?_eq_some_iff.mp hx).1
    have h1 : (r :: W.take j).getLast? = some y := by
      rw [List.getLast?_eq_getElem?, List.length_cons, List.length_take, Nat.min_eq_left (Nat.le_of_lt hj), Nat.add_sub_cancel, ← hy]
      cases j with
      | zero => rfl
      | succ j => rw [List.getElem?_cons_succ, List.getElem?_cons_succ, List.getElem?_take, if_pos (by omega)]
    rw [List.getLast?_eq_some_getLast (by simp)] at h1
    exact Option.some.inj h1
  rw [e]
theorem call_lenK {X : Cx} {K : PySem.W.Frag} (e : X.K = K := by rfl) : CallR X (.builtin "len") (fun xs H Q => ∃ x n, xs = [x] ∧ LenV K x H n ∧ Q (.int n) H) := by subst e; exact call_len
section
variable {P : Program} {w : World} {K : PySem.W.Frag} {mg : Str → Option Value} {base : Heap} {f : Addr} {fd : FuncData} {C : Addr}
abbrev s_way_to_all : Stmt := top 27
theorem sc_way_to_all : FnScope ["many", "row", "hand", "hands", "order", "rows", "at", "size", "other", "view"] ["many", "row"] (defScope s_way_to_all) := ⟨rfl, rfl, rfl, by decide +kernel, rfl, by decide +kernel, by decide +kernel⟩
theorem ok_way_to_all (F : Fun K "way_to_all" "way_to_all" s_way_to_all f fd) (T : RTx mg) (G_exchanged : Fd P w K mg base CX0 "exchanged" 1 ["row", "at", "thing"] spExcD) (G_lot_of : Fd P w K mg base CX0 "lot_of" 1 ["words"] (spLotOfD K)) : FnOk P w K mg base CX0 2 f fd ["many", "row"] spWayD := by
  refine F.ok sc_way_to_all (fun vs H Q E h => ?_) (fun cdv A outer s H vs Q E hr h => ?_)
  · obtain ⟨n, v, r, rfl, _⟩ := h
    rfl
  obtain ⟨n, v, r, rfl, h1, h5, hd, R, k⟩ := h
  refine ⟨_, (pss_cons (ps_set (i := 3) sc_way_to_all.nd rfl (Or.inl rfl) (pe_callB cr_sortedPO rfl T.sorted (by decide +kernel) (pa_cons (pe_lc (own := [("hand", 2), ("view", 9)]) (g := (gTup K 2 (gCons (gName 2) (gCons (gName 9) gNil)))) (tt := tYes) rfl sc_way_to_all.nd (pi_enumT rfl T.enumerate (pa_cons (pv 1) pa_nil)) (blkOk_by (own := [("hand", 2), ("view", 9)]) (N := ["many", "row", "hand", "hands", "order", "rows", "at", "size", "other", "view"]) (sc := defScope s_way_to_all) (by decide +kernel)) (fun _ _ _ _ _ => (pg_tup rfl (pgs_cons (pg_name (i := 2) sc_way_to_all.nd rfl (Or.inl rfl)) (pgs_cons (pg_name (i := 9) sc_way_to_all.nd rfl (Or.inl rfl)) pgs_nil)))) (fun _ _ _ _ _ => pts_nil) (fun _ _ _ _ _ => (pe_tup (pa_cons (pe_callB call_lenK rfl T.len (by decide +kernel) (pa_cons (pv 9) pa_nil)) (pa_cons (pv 2) pa_nil))))) pa_nil)))
  (pss_cons (ps_setLc (i := 4) (own := [("size", 7), ("hand", 2)]) (g := (gTup K 2 (gCons (gName 7) (gCons (gName 2) gNil)))) (tt := tYes) rfl sc_way_to_all.nd rfl rfl (sw_true rfl rfl rfl (by decide +kernel)) (pi_list (pv 3)) (blkOk_by (own := [("size", 7), ("hand", 2)]) (N := ["many", "row", "hand", "hands", "order", "rows", "at", "size", "other", "view"]) (sc := defScope s_way_to_all) (by decide +kernel)) (fun _ _ _ _ _ => (pg_tup rfl (pgs_cons (pg_name (i := 7) sc_way_to_all.nd rfl (Or.inl rfl)) (pgs_cons (pg_name (i := 2) sc_way_to_all.nd rfl (Or.inl rfl)) pgs_nil)))) (fun _ _ _ _ _ => pts_nil) (fun _ _ _ _ _ => (pv 2)))
  (pss_cons (ps_set (i := 5) sc_way_to_all.nd rfl (Or.inr rfl) (pe_lst (pa_cons (pv 1) pa_nil)))
  (pss_cons (ps_for PassesOwn.never rfl (pi_enum rfl T.enumerate (pa_cons (pv 4) pa_nil)) (pg_tup rfl (pgs_cons (pg_name (i := 6) sc_way_to_all.nd rfl (Or.inl rfl)) (pgs_cons (pg_name (i := 2) sc_way_to_all.nd rfl (Or.inl rfl)) pgs_nil))) (pss_one (ps_expr (pe_bm PySem.F.plainAttrs_list PySem.F.slot_list_append PySem.F.type_list_append mt_append (pv 5) (pa_cons (pe_fd G_exchanged (hr.mono (by first | decide | omega)) rfl (pa_cons (pe_ix ix_listK (pv 5) (pe_un un_neg pe_int) (fun _ _ => rfl)) (pa_cons (pv 2) (pa_cons (pe_fd G_lot_of (hr.mono (by first | decide | omega)) rfl (pa_cons (pe_slice sl_list (pv 4) po_none (po_some (pe_op op_add (pv 6) pe_int))) pa_nil)) pa_nil)))) pa_nil)))))
  (pss_cons (ps_for PassesOwn.never rfl (pi_list (pe_revL (pv 4))) (pg_name (i := 2) sc_way_to_all.nd rfl (Or.inl rfl)) (pss_one (ps_expr (pe_bm PySem.F.plainAttrs_list PySem.F.slot_list_append PySem.F.type_list_append mt_append (pv 5) (pa_cons (pe_fd G_exchanged (hr.mono (by first | decide | omega)) rfl (pa_cons (pe_ix ix_listK (pv 5) (pe_un un_neg pe_int) (fun _ _ => rfl)) (pa_cons (pv 2) (pa_cons (pe_fd G_lot_of (hr.mono (by first | decide | omega)) rfl (pa_cons (pv 4) pa_nil)) pa_nil)))) pa_nil)))))
  (pss_one (ps_ret (pe_lc (own := [("at", 6), ("other", 8)]) (g := (gTup K 2 (gCons (gName 6) (gCons (gName 8) gNil))))  rfl sc_way_to_all.nd (pi_enum rfl T.enumerate (pa_cons (pv 5) pa_nil)) (blkOk_by (own := [("at", 6), ("other", 8)]) (N := ["many", "row", "hand", "hands", "order", "rows", "at", "size", "other", "view"]) (sc := defScope s_way_to_all) (by decide +kernel)) (fun _ _ _ _ _ => (pg_tup rfl (pgs_cons (pg_name (i := 6) sc_way_to_all.nd rfl (Or.inl rfl)) (pgs_cons (pg_name (i := 8) sc_way_to_all.nd rfl (Or.inl rfl)) pgs_nil)))) (fun _ _ _ _ _ => (pts_one (PW.pt (pw_or (pt_cmpR op_eq (pv 6) pe_int (nomark _)) (pw_or1 (pt_cmpR (op_neP (u64 hr)) (pv 8) (pe_ix ix_listK (pv 5) (pe_op op_sub (pv 6) pe_int) (fun _ _ => rfl)) (nomark _))))))) (fun _ _ _ _ _ => (pv 8)))))))))), ?_⟩
  have hrl : (rowD r).isTup = true := rfl
  cases hd with
  | @tup a xs _ ha hds hl =>
    have hxl := hds.len
    rw [List.length_map, R.len] at hxl
    refine ⟨_, rfl, a, xs, rfl, .of ha, fun D hD => ?_⟩
    refine lc_it (walk_enumT (xs := xs)) (fun i H' => Same H H' ∧ ∃ acc, H' D = some (.lst acc) ∧ Paired (fun x p => ∃ t, x = .ref t ∧ H' t = some (.tup [.int p.1, .int p.2])) acc ((List.range i).map fun j : Nat => (((r.getD j []).length : Int), (j : Int)))) ⟨same_new hD _, [], upd_same, .nil⟩ (fun i H' _ z => .of (z.1 _ _ ha)) ?_ ?_
    · rintro i y0 H2 H3 hi ⟨g2, acc, h2, hp⟩ ⟨T', y, rfl, hT, rfl, hy⟩
      have hin : i < n := by omega
      have hir : i < r.length := by rw [R.len]; exact hin
      have hri : r[i]? = some r[i] := List.getElem?_eq_getElem hir
      obtain ⟨dy, hdy, vy⟩ := DVs.at_ hds hy
      rw [List.getElem?_map, hri] at hdy
      cases hdy
      have g3 := same_new hT (.tup [.int (0 + (i : Nat)), y])
      have h3 := g3 _ _ h2
      cases vy.same (g2.trans g3) with
      | @tup b ys _ hb hbs hbl =>
        refine ⟨T', _, rfl, .of upd_same, rfl, _, _, rfl, _, _, rfl, rfl, rfl, ?_⟩
        unfold tYes
        refine iteT ?_
        refine ⟨_, rfl, _, ys.length, rfl, .inr ⟨_, .of hb, rfl⟩, _, rfl, szl (by show 2 ≤ _; decide), fun t nt => ?_⟩
        have g4 := same_new nt (.tup [.int (ys.length : Nat), .int (0 + (i : Nat))])
        have h4 := g4 _ _ h3
        have hal : acc.length = i := by rw [pr_len hp, List.length_map, List.length_range]
        have kp := (DKp.of (g3.trans g4)).trans (.put (ys := acc ++ [.ref t]) h4)
        refine ⟨acc, h4, szt (by omega), fun o u ho => ?_, _, upd_same, ?_⟩
        · rw [upd_ne (ne_of_none ho hD)]; exact g4 _ _ (g3 _ _ (g2 _ _ ho))
        · rw [List.range_succ, List.map_append]
          have ntD : t ≠ D := fun z => by rw [z, h3] at nt; cases nt
          refine pr_snoc ⟨t, rfl, ?_⟩ (pr_imp (fun x p ⟨t', e, q⟩ => ⟨t', e, kp.t q⟩) hp)
          rw [upd_ne ntD, upd_same]
          have e1 : ys.length = (r.getD i []).length := by
            rw [hbs.len, List.length_map, List.getD_eq_getElem?_getD, hri]; rfl
          rw [e1, Int.zero_add]
    rintro H2 ⟨g2, acc, h2, hp⟩
    rw [hxl] at hp
    have hmap : acc.map (kf H2) = (List.range n).map fun j : Nat => (((r.getD j []).length : Int), (j : Int)) := by
      revert hp
      generalize ((List.range n).map fun j : Nat => (((r.getD j []).length : Int), (j : Int))) = L
      intro hp
      clear h2
      induction hp with
      | nil => rfl
      | cons h t ih =>
        obtain ⟨t', rfl, q⟩ := h
        rw [List.map_cons, ih, kf_at q]
    refine ⟨D, acc, kf H2, rfl, .of h2, fun x hx => ?_, fun zs p hsr hst np => ?_⟩
    · obtain ⟨i, hi⟩ := List.mem_iff_getElem?.mp hx
      have hil := get_lt hi
      rw [pr_len hp] at hil
      obtain ⟨x', e1, t, rfl, q⟩ := pr_at hp (List.getElem?_eq_getElem hil)
      rw [hi] at e1
      cases e1
      exact ⟨t, rfl, by rw [kf_at q]; exact q⟩
    have g3 := same_new np (.lst zs)
    obtain ⟨O, eo⟩ := ord_of (r := r) (PL := zs.map (kf H2)) (by rw [← hmap]; exact hst.perm.map _) (by rw [List.pairwise_map]; exact hsr)
    have zsk : ∀ x ∈ zs, ∃ t, x = .ref t ∧ (upd H2 p (.lst zs)) t = some (.tup [.int (kf H2 x).1, .int (kf H2 x).2]) := fun x hx => by
      obtain ⟨i, hi⟩ := List.mem_iff_getElem?.mp (hst.perm.mem_iff.mp hx)
      have hil := get_lt hi
      rw [pr_len hp] at hil
      obtain ⟨x', e1, t, rfl, q⟩ := pr_at hp (List.getElem?_eq_getElem hil)
      rw [hi] at e1
      cases e1
      exact ⟨t, rfl, g3 _ _ (by rw [kf_at q]; exact q)⟩
    have zlen : zs.length = n := by
      have := hst.perm.length_eq
      rw [this, pr_len hp, List.length_map, List.length_range]
    generalize ho : (zs.map (kf H2)).map (fun p => p.2.toNat) = o at O eo
    have eo' : zs.map (fun x => V.int (kf H2 x).2) = o.map fun a : Nat => V.int (a : Int) := by
      rw [← eo, List.map_map]; rfl
    have g23 := g2.trans g3
    -- order
    refine ⟨_, rfl, p, rfl, ⟨_, .of upd_same⟩, fun D2 hD2 => ?_⟩
    refine lc_list (K := K) (a := p) (xs := zs) (fun i H' => Same (upd H2 p (.lst zs)) H' ∧ H' D2 = some (.lst ((zs.take i).map fun x => V.int (kf H2 x).2))) ⟨same_new hD2 _, upd_same⟩ (fun i H' _ z => .of (z.1 _ _ upd_same)) ?_ ?_
    · rintro i x H' hx ⟨g4, h4⟩
      obtain ⟨t, rfl, q⟩ := zsk x (List.mem_of_getElem? hx)
      refine ⟨t, _, rfl, .of (g4 _ _ q), rfl, _, _, rfl, _, _, rfl, rfl, rfl, ?_⟩
      unfold tYes
      refine iteT ?_
      refine ⟨_, rfl, _, h4, szt ?_, fun o u ho => ?_, ?_⟩
      · rw [List.length_map, List.length_take]; omega
      · rw [upd_ne (ne_of_none ho hD2)]; exact g4 _ _ ho
      · rw [upd_same, List.take_add_one, hx, List.map_append]; rfl
    rintro H4 ⟨g4, h4⟩
    rw [List.take_length, eo'] at h4
    refine g_set ?_
    refine nx_in ?_
    refine seq_in ?_
    refine ⟨_, rfl, szl (by show 1 ≤ _; decide), fun q nq => ?_⟩
    have gq := same_new nq (.lst [.ref a])
    refine nx_in ?_
    refine seq_in ?_
    have Pr := preF_ok O
    have hn2 : D2 ≠ q := ne_of_none h4 nq
    have ga : Same H (upd H4 q (.lst [.ref a])) := ((g23.trans (fun b o q => g4 b o q)).trans gq)
    have hH4 : Same H H4 := g23.trans g4
    have hrow : ∀ {H' : Hp}, Same H4 H' → DV H' (.ref a) (rowD r) := fun {H'} g => .tup (g _ _ (hH4 _ _ ha)) (hds.same (hH4.trans g)) hl
    have hon : (o.map fun a : Nat => V.int (a : Int)).length = n := by rw [List.length_map, O.len]
    refine ⟨_, rfl, D2, _, rfl, .of (gq _ _ h4), for_it (walk_enum (xs := o.map fun a : Nat => V.int (a : Int))) (fun i σ H' => ∃ u2 u6, σ = [some (.int n), some (.ref a), u2, some (.ref p), some (.ref D2), some (.ref q), u6, none, none, none] ∧ Same H4 H' ∧ ∃ ys, H' q = some (.lst ys) ∧ DVs H' ys ((upL r o (preF n o) i).map rowD)) ?_ ?_ ?_ ?_⟩
    · exact ⟨none, none, rfl, gq, [.ref a], upd_same, .cons (hrow gq) .nil⟩
    · rintro i σ H' hi ⟨u2, u6, rfl, g, _⟩
      exact .of (g _ _ h4)
    · rintro i x σ H5 H6 hi ⟨u2, u6, rfl, g5, ys, hq, hys⟩ ⟨T', x1, x2, rfl, nT, rfl, e1, e2⟩
      cases e1
      have hin : i < n := by rw [← hon]; exact hi
      obtain ⟨b, hb, hbn⟩ := O.get hin
      have e2 : (o.map fun a : Nat => V.int (a : Int))[i]? = some x2 := e2
      rw [List.getElem?_map, hb] at e2
      cases e2
      have g6 := same_new nT (.tup [.int (i : Nat), .int (b : Int)])
      have hq6 := g6 _ _ hq
      have hyl : ys.length = i + 1 := by rw [hys.len, List.length_map, upL_len]
      obtain ⟨v, hv, dv⟩ := DVs.get (hys.same g6) (show ((upL r o (preF n o) i).map rowD)[i]? = some (rowD (upR r o (preF n o) i)) by rw [List.getElem?_map, upL_last]; rfl)
      refine ⟨T', _, rfl, .of upd_same, rfl, _, _, rfl, _, _, rfl, rfl, ?_⟩
      refine ⟨_, rfl, .inl ⟨rfl, _, .of hq6⟩, _, rfl, 1, rfl, q, ys, -1, v, rfl, rfl, .of hq6, atI_m1 hv hyl, _, rfl, _, rfl, ?_⟩
      refine noP_in ?_
      refine ⟨_, rfl, _, _, rfl, rfl, _, rfl, D2, _, rfl, .of (g6 _ _ (g5 _ _ h4)), fun w nw => ?_⟩
      have g7 := same_new nw (.lst (cutV (o.map fun a : Nat => V.int (a : Int)) none (some ((i : Int) + 1))))
      refine ⟨w, (o.take (i + 1)).map fun a : Nat => (a : Int), rfl, .of ?_, ?_, fun c H8 zs g8 hz hm hdv => ?_⟩
      · rw [upd_same, show ((i : Int) + 1) = ((i + 1 : Nat) : Int) by omega, cutA_to, ← List.map_take, List.map_map]; rfl
      · rw [List.length_map, List.length_take, O.len]; omega
      have ez : zs = preF n o (i + 1) := preF_eq O hz hm
      subst ez
      have g58 := g6.trans (g7.trans g8)
      refine ⟨v, .ref c, b, _, _, rfl, dv.same (g7.trans g8), hdv, by rw [List.length_map, up_len, R.len]; exact hbn, fun c2 H9 g9 hd9 => ?_⟩
      rw [rowD_set] at hd9
      have hq9 := g9 _ _ (g58 _ _ hq)
      refine ⟨q, ys, .ref c2, rfl, rfl, hq9, szt (by omega), ?_⟩
      have kp : DKp H9 (upd H9 q (.lst (ys ++ [.ref c2]))) := .put hq9
      refine ⟨_, _, rfl, fun o' u ho => ?_, _, upd_same, ?_⟩
      · rw [upd_ne (ne_of_none ho nq)]; exact g9 _ _ (g58 _ _ (g5 _ _ ho))
      · rw [upL_succ, List.map_append]
        have eb : o.getD i 0 = b := by rw [List.getD_eq_getElem?_getD, hb]; rfl
        refine DVs.snoc ((hys.same (g58.trans g9)).kd kp) ?_
        have e : upR r o (preF n o) (i + 1) = (upR r o (preF n o) i).set b (preF n o (i + 1)) := by
          show (upR r o (preF n o) i).set (o.getD i 0) _ = _
          rw [eb]
        rw [e]
        exact hd9.kd kp
    · rintro σ H5 ⟨u2, u6, rfl, g5, ys, hq, hys⟩
      rw [hon] at hys
      have hD5 := g5 _ _ h4
      refine nx_in ?_
      refine seq_in ?_
      refine ⟨_, rfl, D2, _, rfl, .of hD5, fun rv nrv => ?_⟩
      have nrq : rv ≠ q := fun z => by rw [z, hq] at nrv; cases nrv
      have g6 := same_new nrv (.lst (o.map fun a : Nat => V.int (a : Int)).reverse)
      have hq6 := g6 _ _ hq
      have hor : (o.map fun a : Nat => V.int (a : Int)).reverse.length = n := by rw [List.length_reverse]; exact hon
      have h46 : Same H4 (upd H5 rv (.lst (o.map fun a : Nat => V.int (a : Int)).reverse)) := g5.trans g6
      refine ⟨rv, rfl, ⟨_, .of upd_same⟩, for_list (K := K) (a := rv) (xs := (o.map fun a : Nat => V.int (a : Int)).reverse) (fun j σ H' => ∃ u2, σ = [some (.int n), some (.ref a), u2, some (.ref p), some (.ref D2), some (.ref q), u6, none, none, none] ∧ Same H4 H' ∧ H' rv = some (.lst (o.map fun a : Nat => V.int (a : Int)).reverse) ∧ ∃ ys, H' q = some (.lst ys) ∧ DVs H' ys ((wlL r o (preF n o) n j).map rowD)) ?_ ?_ ?_ ?_⟩
      · refine ⟨_, rfl, h46, upd_same, ys, hq6, ?_⟩
        have e : wlL r o (preF n o) n 0 = upL r o (preF n o) n := by unfold wlL; simp
        rw [e]
        exact hys.same g6
      · rintro j σ H' hj ⟨u2, rfl, _, h, _⟩
        exact .of h
      · rintro j x σ H7 hx ⟨u2, rfl, g7, hrv, ys, hq, hys⟩
        have hj : j < n := by rw [← hor]; exact get_lt hx
        rw [List.getElem?_reverse (by rw [hon]; exact hj), hon, List.getElem?_map] at hx
        obtain ⟨b, hb, rfl⟩ := Option.map_eq_some_iff.mp hx
        have hbn := O.lt b (List.mem_of_getElem? hb)
        have hyl : ys.length = n + j + 1 := by rw [hys.len, List.length_map, wlL_len]
        obtain ⟨v, hv, dv⟩ := DVs.get hys (show ((wlL r o (preF n o) n j).map rowD)[n + j]? = some (rowD (dnR r o (preF n o) n j)) by rw [List.getElem?_map, wlL_last]; rfl)
        refine g_set ?_
        refine ⟨_, rfl, .inl ⟨rfl, _, .of hq⟩, _, rfl, 1, rfl, q, ys, -1, v, rfl, rfl, .of hq, atI_m1 hv hyl, _, rfl, _, rfl, ?_⟩
        refine ⟨D2, o.map fun a : Nat => (a : Int), rfl, .of (by rw [g7 _ _ h4, List.map_map]; rfl), by rw [List.length_map, O.len]; omega, fun c H8 zs g8 hz hm hdv => ?_⟩
        have ez : zs = preF n o n := preF_eq O hz (by rw [List.take_of_length_le (by rw [O.len]; exact Nat.le_refl _)]; exact hm)
        subst ez
        refine ⟨v, .ref c, b, _, _, rfl, dv.same g8, hdv, by rw [List.length_map, dn_len, R.len]; exact hbn, fun c2 H9 g9 hd9 => ?_⟩
        rw [rowD_set] at hd9
        have hq9 := g9 _ _ (g8 _ _ hq)
        have hrv9 := g9 _ _ (g8 _ _ hrv)
        refine ⟨q, ys, .ref c2, rfl, rfl, hq9, szt (by omega), ?_⟩
        have kp : DKp H9 (upd H9 q (.lst (ys ++ [.ref c2]))) := .put hq9
        refine ⟨_, rfl, fun o' u ho => ?_, ?_, _, upd_same, ?_⟩
        · rw [upd_ne (ne_of_none ho nq)]; exact g9 _ _ (g8 _ _ (g7 _ _ ho))
        · rw [upd_ne nrq]; exact hrv9
        · rw [wlL_succ, List.map_append]
          have eb : o.getD (n - 1 - j) 0 = b := by rw [List.getD_eq_getElem?_getD, hb]; rfl
          refine DVs.snoc ((hys.same (g8.trans g9)).kd kp) ?_
          have e : dnR r o (preF n o) n (j + 1) = (dnR r o (preF n o) n j).set b (preF n o n) := by
            show (dnR r o (preF n o) n j).set (o.getD (n - 1 - j) 0) _ = _
            rw [eb]
          rw [e]
          exact hd9.kd kp
      · rintro σ H7 ⟨u2, rfl, g7, _, ys, hq, hys⟩
        rw [hor, wlL_all] at hys
        generalize hW : wayR r o (preF n o) n = W at hys
        have hWl : W.length = n + n := by rw [← hW]; exact way_len
        have hyl : ys.length = n + n + 1 := by rw [hys.len, List.length_map, List.length_cons, hWl]
        have yAt : ∀ (i : Nat) (x : Row') (v : V), (r :: W)[i]? = some x → ys[i]? = some v → DV H7 v (rowD x) := fun i x v hx hv => by
          obtain ⟨d, hd, dv⟩ := DVs.at_ hys hv
          rw [List.getElem?_map, hx] at hd
          cases hd
          exact dv
        have rowPl : ∀ (i : Nat) (x : Row'), (r :: W)[i]? = some x → pl 3 (rowD x) = true := fun i x hx => by
          rw [← hW, way_at] at hx
          have R' : RowOk n x := by
            by_cases c : i ≤ n
            · rw [if_pos c] at hx
              rw [← Option.some.inj hx]
              exact up_ok R O Pr c
            · rw [if_neg c] at hx
              by_cases c2 : i ≤ n + n
              · rw [if_pos c2] at hx
                rw [← Option.some.inj hx]
                exact dn_ok R O Pr (by omega)
              · rw [if_neg c2] at hx; cases hx
          have := (rowok_iff (by omega)).mpr R'
          unfold wholeB at this
          rw [Bool.and_eq_true] at this
          exact pl_up (at_pl this.1)
        refine nx_in ?_
        refine ⟨_, rfl, q, ys, rfl, .of hq, fun D3 hD3 => ?_⟩
        refine lc_it (walk_enum (xs := ys)) (fun i H' => Same H7 H' ∧ ∃ acc, H' D3 = some (.lst acc) ∧ DVs H' acc ((if i = 0 then [] else r :: ddL r (W.take (i - 1))).map rowD)) ⟨same_new hD3 _, [], upd_same, .nil⟩ (fun i H' _ z => .of (z.1 _ _ hq)) ?_ ?_
        · rintro i x H8 H9 hi ⟨g8, acc, h8, ha8⟩ ⟨T', x1, x2, rfl, nT, rfl, e1, e2⟩
          cases e1
          have e2 : ys[i]? = some x2 := e2
          have g9 := same_new nT (.tup [.int (i : Nat), x2])
          have h9 := g9 _ _ h8
          have gg := g8.trans g9
          have hiW : i < (r :: W).length := by rw [List.length_cons, hWl]; omega
          have hx := (yAt i _ x2 (List.getElem?_eq_getElem hiW) e2)
          have al : acc.length ≤ i := by
            rw [ha8.len, List.length_map]
            by_cases c : i = 0
            · rw [if_pos c]; exact Nat.zero_le _
            · rw [if_neg c, List.length_cons]
              have dl : ∀ (p : Row') (xs : List Row'), (ddL p xs).length ≤ xs.length := fun p xs => by
                induction xs generalizing p with
                | nil => exact Nat.le_refl _
                | cons a t ih =>
                  unfold ddL
                  have := ih a
                  split
                  · rw [List.length_cons]; omega
                  · rw [List.length_cons, List.length_cons]; omega
              have := dl r (W.take (i - 1))
              rw [List.length_take] at this
              omega
          have keep : ∀ (L : List Row') (x : Row'), DV (upd H8 T' (.tup [.int (i : Nat), x2])) x2 (rowD x) → DVs H8 acc (L.map rowD) → ∃ acc', (upd H8 T' (.tup [.int (i : Nat), x2])) D3 = some (.lst acc') ∧ acc'.length < sizeLine ∧ (Same H7 (upd (upd H8 T' (.tup [.int (i : Nat), x2])) D3 (.lst (acc' ++ [x2]))) ∧ ∃ acc2, upd (upd H8 T' (.tup [.int (i : Nat), x2])) D3 (.lst (acc' ++ [x2])) D3 = some (.lst acc2) ∧ DVs (upd (upd H8 T' (.tup [.int (i : Nat), x2])) D3 (.lst (acc' ++ [x2]))) acc2 ((L ++ [x]).map rowD)) := fun L x hx hL => by
            refine ⟨acc, h9, szt (by omega), fun o' u ho => ?_, _, upd_same, ?_⟩
            · rw [upd_ne (ne_of_none ho hD3)]; exact gg _ _ ho
            · rw [List.map_append]
              exact DVs.snoc ((hL.same g9).kd (.put h9)) (hx.kd (.put h9))
          refine ⟨T', _, rfl, .of upd_same, rfl, _, _, rfl, _, _, rfl, rfl, rfl, ?_⟩
          refine ⟨_, rfl, rfl, _, rfl, ?_⟩
          cases i with
          | zero =>
            cases hx0 : (r :: W)[0]? with
            | none => cases hx0
            | some z =>
              cases hx0
              obtain ⟨acc', e1, e2, e3, acc2, e4, e5⟩ := keep [] r ((show DV H7 x2 (rowD r) from hx).same gg) ha8
              exact ite_yes (decide_eq_true rfl) ⟨_, rfl, acc', e1, e2, e3, acc2, e4, e5⟩
          | succ j =>
            refine ite_no (decide_eq_false (fun z => by injection z with z; omega)) ?_
            have hjW : j < W.length := by omega
            obtain ⟨y, hy⟩ : ∃ y, (r :: W)[j]? = some y := ⟨_, List.getElem?_eq_getElem (by rw [List.length_cons]; omega)⟩
            have hv : ys[j]? = some ys[j] := List.getElem?_eq_getElem (by omega)
            have hdy := yAt j y _ hy hv
            have hx1 : (r :: W)[j + 1]? = some W[j] := by rw [List.getElem?_cons_succ]; exact List.getElem?_eq_getElem hjW
            have hdx : DV H7 x2 (rowD W[j]) := hx
            refine ⟨_, rfl, _, rfl, _, rfl, _, _, rfl, rfl, q, ys, _, ys[j], rfl, rfl, .of (gg _ _ hq), ?_, rowD W[j], rowD y, hdx.same gg, hdy.same gg, rowPl _ _ hx1, rowPl _ _ hy, fun b hb => ⟨_, rfl, ?_⟩⟩
            · show atI ys (((j + 1 : Nat) : Int) - 1) = _
              rw [show (((j + 1 : Nat) : Int) - 1) = (j : Int) by omega]
              exact atI_nat hv
            have ds := dd_step hy (List.getElem?_eq_getElem hjW)
            rw [if_neg (Nat.succ_ne_zero j)] at ha8
            refine ite2 (fun c => ?_) (fun c => ?_)
            · have ne : W[j] ≠ y := fun z => hb.mp c (congrArg rowD z)
              rw [if_neg ne] at ds
              obtain ⟨acc', e1, e2, e3, acc2, e4, e5⟩ := keep (r :: ddL r (W.take j)) W[j] (hdx.same gg) ha8
              refine ⟨_, rfl, acc', e1, e2, e3, acc2, e4, ?_⟩
              show DVs _ _ ((r :: ddL r (W.take (j + 1))).map rowD)
              rw [ds]
              exact e5
            · have eq : W[j] = y := Classical.byContradiction fun z => c (hb.mpr fun z2 => z (rowD_inj z2))
              rw [if_pos eq, List.append_nil] at ds
              refine ⟨gg, acc, h9, ?_⟩
              show DVs _ _ ((r :: ddL r (W.take (j + 1))).map rowD)
              rw [ds]
              exact ha8.same g9
        · rintro H8 ⟨g8, acc, h8, ha8⟩
          rw [if_neg (by omega), hyl, Nat.add_sub_cancel, List.take_of_length_le (by omega)] at ha8
          refine k D3 H8 acc (wayOf r o (preF n o) n) ((hH4.trans g7).trans g8) h8 ?_ (way_ok (by omega) R O Pr)
          unfold wayOf
          rw [hW]
          exact ha8
end
end Fp
namespace Fp
open PySem PySem.Spec PyProof.Rows L2
def unlD : Dt → Dt → Nat
  | .tup ds, .tup es => unl ds es
  | _, _ => 0
/-- a value that is a chain from a to b -/
structure ChD (n : Nat) (a b : Row') (ds : List Dt) : Prop where
  all : ∀ x ∈ ds, wholeB n x = true
  fst : ds.take 1 = [rowD a]
  lst : ds.drop (ds.length - 1) = [rowD b]
  adj : ∀ i, i + 1 < ds.length → unlD (ds.getD i .non) (ds.getD (i + 1) .non) = 1
def IsCh (n : Nat) (a b : Row') (d : Dt) : Prop := ∃ ds, d = .tup ds ∧ ChD n a b ds
def spEndsD : Sp := fun vs H Q _ => ∃ (n : Nat) (v1 v2 : V) (a b : Row'), vs = [.int n, v1, v2] ∧ 1 ≤ n ∧ n ≤ 5 ∧ DV H v1 (rowD a) ∧ DV H v2 (rowD b) ∧ RowOk n a ∧ RowOk n b ∧ ∀ H', Same H H' → Q .non H'
def spChainD : Sp := fun vs H Q _ => ∃ (n : Nat) (v1 v2 : V) (a b : Row'), vs = [.int n, v1, v2] ∧ 1 ≤ n ∧ n ≤ 5 ∧ DV H v1 (rowD a) ∧ DV H v2 (rowD b) ∧ RowOk n a ∧ RowOk n b ∧ ∀ c H' ls, Same H H' → DV H' (.ref c) (.tup (ls.map rowD)) → ChOk n a b ls → ls.length ≤ 22 → Q (.ref c) H'
def spShowsD : Sp := fun vs H Q _ => ∃ (n : Nat) (v1 v2 v3 : V) (a b : Row') (d : Dt), vs = [.int n, v1, v2, v3] ∧ 1 ≤ n ∧ n ≤ 5 ∧ DV H v1 (rowD a) ∧ DV H v2 (rowD b) ∧ DV H v3 d ∧ RowOk n a ∧ RowOk n b ∧ ∀ H' (t : Bool), Same H H' → (t = true ↔ IsCh n a b d) → Q (.bl t) H'
theorem whole_pl {n : Nat} {x : Dt} (h : wholeB n x = true) : pl 2 x = true := by
  unfold wholeB at h
  rw [Bool.and_eq_true] at h
  exact at_pl h.1
theorem whole_tup {n : Nat} {x : Dt} (h : wholeB n x = true) : ∃ ds, x = .tup ds ∧ ds.length = n := by
  unfold wholeB at h
  rw [Bool.and_eq_true] at h
  obtain ⟨ds, e, hl, _⟩ := at_tup h.1
  exact ⟨ds, e, hl⟩
theorem rowD_pl {n : Nat} (hn : 0 < n) {r : Row'} (R : RowOk n r) : pl 2 (rowD r) = true := whole_pl ((rowok_iff hn).mpr R)
theorem cut_last {xs : List V} : cutV xs (some (-1)) none = xs.drop (xs.length - 1) := by
  have h1 : HT.sIx xs.length 0 (some (-1)) = xs.length - 1 := by
    show (if (-1 : Int) < 0 then (-1 + (xs.length : Int)).toNat else min (-1 : Int).toNat xs.length) = _
    rw [if_pos (by decide)]; omega
  have h2 : HT.sIx xs.length xs.length none = xs.length := rfl
  unfold cutV
  rw [h1, h2]
  exact List.take_of_length_le (by rw [List.length_drop]; omega)
theorem dvs_tup {H : Hp} {a : Addr} {xs : List V} {ds : List Dt} (h : H a = some (.tup xs)) (g : DVs H xs ds) (l : ds.length ≤ 1000) : DV H (.ref a) (.tup ds) := .tup h g l
section
variable {P : Program} {w : World} {K : PySem.W.Frag} {mg : Str → Option Value} {base : Heap} {f : Addr} {fd : FuncData} {C : Addr}
abbrev s_check_ends : Stmt := top 28
theorem sc_check_ends : FnScope ["many", "one", "other"] ["many", "one", "other"] (defScope s_check_ends) := ⟨rfl, rfl, rfl, by decide +kernel, rfl, by decide +kernel, by decide +kernel⟩
theorem ok_check_ends (F : Fun K "check_ends" "check_ends" s_check_ends f fd) (G_is_whole_row : Fd P w K mg base CX0 "is_whole_row" 5 ["many", "value"] spRowD) : FnOk P w K mg base CX0 6 f fd ["many", "one", "other"] spEndsD := by
  refine F.ok sc_check_ends (fun vs H Q E h => ?_) (fun cdv A outer s H vs Q E hr h => ?_)
  · obtain ⟨n, v1, v2, a, b, rfl, _⟩ := h
    rfl
  obtain ⟨n, v1, v2, a, b, rfl, h1, h5, d1, d2, R1, R2, k⟩ := h
  refine ⟨_, (pss_cons (ps_if (pt_not (pt_val (pe_fd G_is_whole_row (hr.mono (by first | decide | omega)) rfl (pa_cons (pv 0) (pa_cons (pv 1) pa_nil))))) (pss_one (ps_no)) pss_nil)
  (pss_one (ps_if (pt_not (pt_val (pe_fd G_is_whole_row (hr.mono (by first | decide | omega)) rfl (pa_cons (pv 0) (pa_cons (pv 2) pa_nil))))) (pss_one (ps_no)) pss_nil))), ?_⟩
  refine ⟨_, rfl, _, rfl, n, v1, _, rfl, h1, h5, d1, fun H1 g1 => ?_⟩
  rw [(rowok_iff (by omega)).mpr R1]
  refine ⟨_, rfl, iteF ?_⟩
  refine ⟨_, rfl, _, rfl, n, v2, _, rfl, h1, h5, d2.same g1, fun H2 g2 => ?_⟩
  rw [(rowok_iff (by omega)).mpr R2]
  exact ⟨_, rfl, iteF (k _ (g1.trans g2))⟩
abbrev s_chain : Stmt := top 26
theorem sc_chain : FnScope ["many", "one", "other"] ["many", "one", "other"] (defScope s_chain) := ⟨rfl, rfl, rfl, by decide +kernel, rfl, by decide +kernel, by decide +kernel⟩
theorem ok_chain (F : Fun K "chain" "chain" s_chain f fd) (T : RTx mg) (G_check_ends : Fd P w K mg base CX0 "check_ends" 6 ["many", "one", "other"] spEndsD) (G_way_to_all : Fd P w K mg base CX0 "way_to_all" 2 ["many", "row"] spWayD) : FnOk P w K mg base CX0 7 f fd ["many", "one", "other"] spChainD := by
  refine F.ok sc_chain (fun vs H Q E h => ?_) (fun cdv A outer s H vs Q E hr h => ?_)
  · obtain ⟨n, v1, v2, a, b, rfl, _⟩ := h
    rfl
  obtain ⟨n, v1, v2, a, b, rfl, h1, h5, d1, d2, R1, R2, k⟩ := h
  refine ⟨_, (pss_cons (ps_expr (pe_fd G_check_ends (hr.mono (by first | decide | omega)) rfl (pa_cons (pv 0) (pa_cons (pv 1) (pa_cons (pv 2) pa_nil)))))
  (pss_one (ps_ret (pe_callTy call_tuple_of rfl T.tuple (by decide +kernel) (pa_cons (pe_op op_cat (pe_fd G_way_to_all (hr.mono (by first | decide | omega)) rfl (pa_cons (pv 0) (pa_cons (pv 1) pa_nil))) (pe_back2 (pe_fd G_way_to_all (hr.mono (by first | decide | omega)) rfl (pa_cons (pv 0) (pa_cons (pv 2) pa_nil))))) pa_nil))))), ?_⟩
  refine ⟨_, rfl, _, rfl, _, rfl, n, v1, v2, a, b, rfl, h1, h5, d1, d2, R1, R2, fun H1 g1 => ?_⟩
  refine ⟨_, rfl, _, rfl, n, v1, a, rfl, h1, h5, d1.same g1, R1, fun l1 H2 xs1 ls1 g2 hl1 hd1 W1 => ?_⟩
  refine ⟨_, rfl, _, rfl, n, v2, b, rfl, h1, h5, d2.same (g1.trans g2), R2, fun l2 H3 xs2 ls2 g3 hl2 hd2 W2 => ?_⟩
  have ne2 : xs2 ≠ [] := fun z => by
    subst z
    have := hd2.len
    rw [List.length_map] at this
    have h2 := W2.head
    rw [List.eq_nil_of_length_eq_zero this.symm] at h2
    cases h2
  refine ⟨l2, xs2, rfl, .of hl2, ne2, fun p np => ?_⟩
  have g4 := same_new np (.lst xs2.dropLast.reverse)
  have n1 : xs1.length ≤ 11 := by
    rw [hd1.len, List.length_map]
    have := W1.len
    omega
  have n2 : xs2.length ≤ 11 := by
    rw [hd2.len, List.length_map]
    have := W2.len
    omega
  refine ⟨l1, p, _, _, rfl, rfl, g4 _ _ (g3 _ _ hl1), upd_same, szl (by rw [List.length_reverse, List.length_dropLast]; omega), fun q nq => ?_⟩
  have g5 := same_new nq (.lst (xs1 ++ xs2.dropLast.reverse))
  refine ⟨q, _, rfl, .inl ⟨.of upd_same, fun t nt => ?_⟩⟩
  have g6 := same_new nt (.tup (xs1 ++ xs2.dropLast.reverse))
  have gg := (((((g1.trans g2).trans g3).trans g4).trans g5).trans g6)
  have dl : ∀ {H : Hp} {vs : List V} {ds : List Dt}, DVs H vs ds → DVs H vs.dropLast ds.dropLast := fun {H vs ds} h => by
    rw [List.dropLast_eq_take, List.dropLast_eq_take, h.len]
    exact h.take
  have hd := DVs.app (hd1.same (((g3.trans g4).trans g5).trans g6)) (dl (hd2.same ((g4.trans g5).trans g6))).rev
  rw [← List.map_dropLast, ← List.map_reverse, ← List.map_append] at hd
  have hll : (ls1 ++ ls2.dropLast.reverse).length ≤ 22 := by
    have e := hd.len
    rw [List.length_map, List.length_append, List.length_reverse, List.length_dropLast] at e
    omega
  exact k t _ _ gg (.tup upd_same hd (by rw [List.length_map]; omega)) (ways_ch W1 W2) hll
end
end Fp
namespace Fp
open PySem PySem.Spec PyProof.Rows L2
structure LTx (mg : Str → Option Value) : Prop where
  len : mg "len" = none
  int : mg "int" = none
  sum : mg "sum" = none
  abs : mg "abs" = none
  list : mg "list" = none
  tuple : mg "tuple" = none
  range : mg "range" = none
  max : mg "max" = none
  min : mg "min" = none
  repr : mg "repr" = none
  all : mg "all" = none
  enumerate : mg "enumerate" = none
theorem modNat'' : True := trivial
theorem atI0 {α : Type} {l : List α} {v : α} (h : l[0]? = some v) : atI l 0 = some v := atI_nat (j := 0) h
section
variable {P : Program} {w : World} {K : PySem.W.Frag} {mg : Str → Option Value} {base : Heap} {f : Addr} {fd : FuncData} {C : Addr}
abbrev s_law_take : Stmt := top 31
theorem sc_law_take : FnScope ["pot", "upto", "digit", "prime", "blend"] ["pot", "upto"] (defScope s_law_take) := ⟨rfl, rfl, rfl, by decide +kernel, rfl, by decide +kernel, by decide +kernel⟩
theorem ok_law_take (F : Fun K "_law_take" "_law_take" s_law_take f fd) (T : LTx mg) : FnOk P w K mg base CX0 1 f fd ["pot", "upto"] spTake := by
  refine F.ok sc_law_take (fun vs H Q E h => ?_) (fun cdv A outer s H vs Q E hr h => ?_)
  · obtain ⟨p, u, n, rfl, _⟩ := h
    rfl
  obtain ⟨p, u, n, rfl, h0, h1, hn, hP, q⟩ := h
  obtain ⟨a, b, c, hp, hb0, hb1, hc0, hc1⟩ := hP
  refine ⟨_, (pss_cons (ps_if (pt_cmpR op_gt (pe_ix ix_list (pv 0) pe_int (fun _ _ => rfl)) pe_int (nomark _)) (pss_cons (ps_set (i := 2) sc_law_take.nd rfl (Or.inl rfl) (pe_op op_mod (pe_callTy call_int1 rfl T.int (by decide +kernel) (pa_cons (pe_ix ix_list (pv 0) pe_int (fun _ _ => rfl)) pa_nil)) (pv 1)))
  (pss_cons (ps_asg (pe_op op_fdiv (pe_ix ix_list (pv 0) pe_int (fun _ _ => rfl)) (pv 1)) (pg_sub (pv 0) pe_int set_list))
  (pss_one (ps_ret (pv 2))))) pss_nil)
  (pss_cons (ps_asg (pe_op op_add (pe_ix ix_list (pv 0) pe_int (fun _ _ => rfl)) pe_int) (pg_sub (pv 0) pe_int set_list))
  (pss_cons (ps_set (i := 3) sc_law_take.nd rfl (Or.inl rfl) (pe_ix ix_list (pe_lst (pa_cons pe_int (pa_cons pe_int (pa_cons pe_int (pa_cons pe_int (pa_cons pe_int pa_nil)))))) (pe_op op_mod (pe_callTy call_int1 rfl T.int (by decide +kernel) (pa_cons (pe_ix ix_list (pv 0) pe_int (fun _ _ => rfl)) pa_nil)) pe_int) (fun _ _ => rfl)))
  (pss_cons (ps_set (i := 4) sc_law_take.nd rfl (Or.inl rfl) (pe_op op_mod (pe_callTy call_int1 rfl T.int (by decide +kernel) (pa_cons (pe_op op_pow (pe_callTy call_int1 rfl T.int (by decide +kernel) (pa_cons (pe_op op_add (pe_op op_add (pe_ix ix_list (pv 0) pe_int (fun _ _ => rfl)) (pe_op op_mul (pe_op op_mul pe_int (pe_ix ix_list (pv 0) pe_int (fun _ _ => rfl))) (pe_ix ix_list (pv 0) pe_int (fun _ _ => rfl)))) pe_int) pa_nil)) pe_int) pa_nil)) (pv 3)))
  (pss_one (ps_ret (pe_op op_mod (pe_callTy call_int1 rfl T.int (by decide +kernel) (pa_cons (pe_op op_fdiv (pe_op op_mul (pv 4) (pe_op op_add (pe_op op_mod (pe_callTy call_int1 rfl T.int (by decide +kernel) (pa_cons (pv 4) pa_nil)) pe_int) (pe_op op_mul pe_int (pe_ix ix_list (pv 0) pe_int (fun _ _ => rfl))))) pe_int) pa_nil)) (pv 1)))))))), ?_⟩
  refine ⟨_, rfl, p, _, _, _, rfl, rfl, .of hp, rfl, _, _, rfl, rfl, _, rfl, ?_⟩
  refine ite2 (fun ca => ?_) (fun ca => ?_)
  · refine ⟨_, rfl, p, _, _, _, rfl, rfl, .of hp, rfl, .inl ⟨_, rfl, _, rfl, _, _, rfl, rfl, h0, ?_⟩⟩
    refine ⟨_, rfl, p, _, _, _, rfl, rfl, .of hp, rfl, _, rfl, _, _, rfl, rfl, ⟨h0, by omega⟩, ?_⟩
    refine ⟨_, rfl, p, _, _, _, rfl, rfl, hp, rfl, ?_⟩
    refine ⟨_, rfl, ?_⟩
    obtain ⟨d, hd, hd2⟩ := modNat a h0
    show Q (V.int (a % u)) _
    rw [hd]
    refine q d _ hd2 ((But.refl _ H).put (by simp)) ?_
    exact ⟨a / u, b, c, upd_same, hb0, hb1, hc0, by omega⟩
  · refine ⟨_, rfl, p, _, _, _, rfl, rfl, .of hp, rfl, _, _, rfl, rfl, ?_⟩
    refine ⟨_, rfl, p, _, _, _, rfl, rfl, hp, rfl, ?_⟩
    have hp1 : upd H p (.lst [V.int a, V.int b, V.int (c + 1)]) p = some (.lst [V.int a, V.int b, V.int (c + 1)]) := upd_same
    have g1 : But [p] H (upd H p (.lst [V.int a, V.int b, V.int (c + 1)])) := (But.refl _ H).put (by simp)
    refine ⟨(by show 5 ≤ sizeLine; decide), fun l hl => ?_⟩
    have g2 := g1.new (o := .lst [V.int 2147483647, V.int 2147483629, V.int 2147483587, V.int 2147483579, V.int 2147483563]) hl
    have np : p ≠ l := ne_of_none hp1 hl
    have hp2 : upd (upd H p (.lst [V.int a, V.int b, V.int (c + 1)])) l (.lst [V.int 2147483647, V.int 2147483629, V.int 2147483587, V.int 2147483579, V.int 2147483563]) p = some (.lst [V.int a, V.int b, V.int (c + 1)]) := by
      rw [upd_ne np]; exact hp1
    obtain ⟨i5, hi5, hi5b⟩ := modNat (c + 1) (show (0 : Int) < 5 by decide)
    obtain ⟨pr, hpr, hpr0, hpr1⟩ : ∃ pr : Int, ([V.int 2147483647, V.int 2147483629, V.int 2147483587, V.int 2147483579, V.int 2147483563] : List V)[i5]? = some (.int pr) ∧ 0 < pr ∧ pr < 2147483648 := by
      have : i5 < 5 := by omega
      match i5, this with
      | 0, _ => exact ⟨_, rfl, by decide, by decide⟩
      | 1, _ => exact ⟨_, rfl, by decide, by decide⟩
      | 2, _ => exact ⟨_, rfl, by decide, by decide⟩
      | 3, _ => exact ⟨_, rfl, by decide, by decide⟩
      | 4, _ => exact ⟨_, rfl, by decide, by decide⟩
    refine ⟨_, rfl, p, _, _, _, rfl, rfl, .of hp2, rfl, .inl ⟨_, rfl, _, _, rfl, rfl, (by show (0 : Int) < 5; decide), ?_⟩⟩
    refine ⟨l, _, (c + 1) % 5, _, rfl, rfl, .of upd_same, (by rw [hi5]; exact atI_nat hpr), ?_⟩
    refine ⟨_, rfl, p, _, _, _, rfl, rfl, .of hp2, rfl, _, rfl, p, _, _, _, rfl, rfl, .of hp2, rfl, _, _, rfl, rfl, .inl (by constructor <;> decide), ?_⟩
    refine ⟨_, rfl, p, _, _, _, rfl, rfl, .of hp2, rfl, _, _, rfl, rfl, .inr (by constructor <;> omega), _, _, rfl, rfl, _, _, rfl, rfl, .inl ⟨_, rfl, _, _, rfl, rfl, ⟨by decide, by decide, ?_⟩, .inl ⟨_, rfl, ?_⟩⟩⟩
    · have hq := sq_le 99901 (c := c + 1) (by omega) (by omega)
      generalize 99901 * (c + 1) * (c + 1) = z at hq ⊢
      omega
    refine ⟨_, rfl, _, _, rfl, rfl, hpr0, ?_⟩
    obtain ⟨bl, hbl, hbl2⟩ := modNat ((b + 99901 * (c + 1) * (c + 1) + 1153) ^ 3) hpr0
    refine ⟨_, rfl, _, rfl, .inl ⟨_, rfl, _, _, rfl, rfl, (by show (0 : Int) < 10647; decide), ?_⟩⟩
    refine ⟨_, rfl, p, _, _, _, rfl, rfl, .of hp2, rfl, _, _, rfl, rfl, .inl (by constructor <;> decide), _, _, rfl, rfl, _, _, rfl, rfl, .inl ?_, ?_⟩
    · show -(2 ^ 64) < (b + 99901 * (c + 1) * (c + 1) + 1153) ^ (Int.toNat 3) % pr ∧ (b + 99901 * (c + 1) * (c + 1) + 1153) ^ (Int.toNat 3) % pr < 2 ^ 64
      have e3 : Int.toNat 3 = 3 := rfl
      rw [e3, hbl]; constructor <;> omega
    refine ⟨_, _, rfl, rfl, ⟨by decide, by decide⟩, .inl ⟨_, rfl, _, rfl, _, _, rfl, rfl, h0, ?_⟩⟩
    refine (fun (z : ∀ x : Int, Q (.int (x % u)) (upd (upd H p (.lst [V.int a, V.int b, V.int (c + 1)])) l (.lst [V.int 2147483647, V.int 2147483629, V.int 2147483587, V.int 2147483579, V.int 2147483563]))) => z _) (fun x => ?_)
    obtain ⟨d, hd, hd2⟩ := modNat x h0
    rw [hd]
    exact q d _ hd2 g2 ⟨a, b, c + 1, hp2, hb0, hb1, by omega, by omega⟩
abbrev s_law_of : Stmt := top 32
theorem sc_law_of : FnScope ["pot", "some"] ["pot", "some"] (defScope s_law_of) := ⟨rfl, rfl, rfl, by decide +kernel, rfl, by decide +kernel, by decide +kernel⟩
theorem ok_law_of (F : Fun K "_law_of" "_law_of" s_law_of f fd) (T : LTx mg) (G_law_take : Fd P w K mg base CX0 "_law_take" 1 ["pot", "upto"] spTake) : FnOk P w K mg base CX0 2 f fd ["pot", "some"] (spOf K) := by
  refine F.ok sc_law_of (fun vs H Q E h => ?_) (fun cdv A outer s H vs Q E hr h => ?_)
  · obtain ⟨p, q, xs, n, rfl, _⟩ := h
    rfl
  obtain ⟨p, q, xs, n, rfl, hS, hne, hx, hx1, hn, hP, k⟩ := h
  refine ⟨_, (pss_one (ps_ret (pe_ix ix_list (pv 1) (pe_fd G_law_take (hr.mono (by first | decide | omega)) rfl (pa_cons (pv 0) (pa_cons (pe_callB call_len rfl T.len (by decide +kernel) (pa_cons (pv 1) pa_nil)) pa_nil))) (fun _ _ => rfl)))), ?_⟩
  have hpos : 0 < xs.length := List.length_pos_iff.mpr hx
  refine ⟨_, rfl, _, rfl, _, rfl, _, xs.length, rfl, .inl ⟨xs, hS, rfl⟩, p, _, n, rfl, by omega, by omega, hn, hP, fun d H' hd g hP' => ?_⟩
  have hdl : d < xs.length := by omega
  refine ⟨q, xs, _, xs[d], rfl, rfl, g.seq hS (by simpa using hne), atI_nat (by simp [hdl]), ?_⟩
  exact k d _ H' (by simp [hdl]) g hP'
abbrev s_law_some : Stmt := top 33
theorem sc_law_some : FnScope ["pot", "pool", "many", "left", "found", "lap"] ["pot", "pool", "many"] (defScope s_law_some) := ⟨rfl, rfl, rfl, by decide +kernel, rfl, by decide +kernel, by decide +kernel⟩
theorem ok_law_some (F : Fun K "_law_some" "_law_some" s_law_some f fd) (T : LTx mg) (G_law_take : Fd P w K mg base CX0 "_law_take" 1 ["pot", "upto"] spTake) : FnOk P w K mg base CX0 2 f fd ["pot", "pool", "many"] (spSome K) := by
  refine F.ok sc_law_some (fun vs H Q E h => ?_) (fun cdv A outer s H vs Q E hr h => ?_)
  · obtain ⟨p, q, xs, m, n, rfl, _⟩ := h
    rfl
  obtain ⟨p, q, xs, m, n, rfl, hS, hm, hx1, hn, hP, k⟩ := h
  refine ⟨_, (pss_cons (ps_par (i := 3) (j := 4) (by rfl) sc_law_some.nd rfl rfl (by decide) rfl rfl (pa_cons (pe_callTy call_list_of rfl T.list (by decide +kernel) (pa_cons (pv 1) pa_nil)) (pa_cons (pe_lst pa_nil) pa_nil)) (by rfl))
  (pss_cons (ps_for PassesOwn.never rfl (pi_range1 rfl T.range (pa_cons (pv 2) pa_nil)) (pg_name (i := 5) sc_law_some.nd rfl (Or.inl rfl)) (pss_one (ps_expr (pe_bm PySem.F.plainAttrs_list PySem.F.slot_list_append PySem.F.type_list_append mt_append (pv 4) (pa_cons (pe_bm PySem.F.plainAttrs_list PySem.F.slot_list_pop PySem.F.type_list_pop mt_popAt (pv 3) (pa_cons (pe_fd G_law_take (hr.mono (by first | decide | omega)) rfl (pa_cons (pv 0) (pa_cons (pe_callB call_len rfl T.len (by decide +kernel) (pa_cons (pv 3) pa_nil)) pa_nil))) pa_nil)) pa_nil)))))
  (pss_one (ps_ret (pv 4))))), ?_⟩
  have hp0 := hP.there
  refine ⟨_, rfl, q, xs, rfl, hS, fun l1 n1 => ?_⟩
  refine ⟨(by show 0 ≤ sizeLine; decide), fun l2 n2 => ⟨_, _, rfl, ?_⟩⟩
  have n2' : H l2 = none := (same_new n1 _).free n2
  have d1 : l1 ≠ l2 := ne_of_none upd_same n2
  have e1 : p ≠ l1 := ne_of_none hp0.choose_spec n1
  have e2 : p ≠ l2 := ne_of_none hp0.choose_spec n2'
  have g0 : But [p] H (upd (upd H l1 (.lst xs)) l2 (.lst [])) := ((But.refl [p] H).new n1).new n2
  refine ⟨_, rfl, _, rfl, by omega, by omega, for_range (lo := 0) (n := m) (fun i σ H' => ∃ ys zs v, σ = [some (.ref p), some (.ref q), some (.int m), some (.ref l1), some (.ref l2), v] ∧ H' l1 = some (.lst zs) ∧ H' l2 = some (.lst ys) ∧ ys.length = i ∧ (ys ++ zs).Perm xs ∧ But [p] H H' ∧ PotAt H' p (n + i)) ?_ ?_ ?_⟩
  · refine ⟨[], xs, _, rfl, ?_, upd_same, rfl, List.Perm.refl _, g0, ?_⟩
    · rw [upd_ne d1]; exact upd_same
    · obtain ⟨a, b, c, h1, h2⟩ := hP
      exact ⟨a, b, c, by rw [upd_ne e2, upd_ne e1]; exact h1, h2⟩
  · rintro i σ H1 hi ⟨ys, zs, v, rfl, hz, hy, hl, hperm, g, hP1⟩
    have hlen : ys.length + zs.length = xs.length := by have := hperm.length_eq; rw [List.length_append] at this; exact this
    refine ⟨_, rfl, .inl ⟨rfl, _, .of hy⟩, _, rfl, .inl ⟨rfl, _, .of hz⟩, _, rfl, _, rfl, _, zs.length, rfl, .inl ⟨zs, .of hz, rfl⟩, p, _, n + i, rfl, by omega, by omega, by omega, hP1, fun d H2 hd g2 hP2 => ?_⟩
    have hdl : d < zs.length := by omega
    have hz2 := g2.at hz (by simpa using Ne.symm e1)
    have hy2 := g2.at hy (by simpa using Ne.symm e2)
    refine ⟨l1, zs, _, d, zs[d], rfl, rfl, hz2, by omega, by omega, by rw [PySem.seqIndex_of (by omega) (by omega)]; simp, by simp [hdl], ?_⟩
    refine ⟨l2, ys, _, rfl, rfl, by rw [upd_ne (Ne.symm d1)]; exact hy2, small1000 (by omega), ?_⟩
    refine ⟨ys ++ [zs[d]], zs.eraseIdx d, _, rfl, ?_, upd_same, by rw [List.length_append, List.length_singleton]; omega, ?_, ?_, ?_⟩
    · rw [upd_ne d1]; exact upd_same
    · have e := erase_perm zs d hdl
      rw [List.append_assoc]
      exact (List.Perm.append_left ys e).trans hperm
    · intro b o nb hb
      have b1 : b ≠ l1 := ne_of_none hb n1
      have b2 : b ≠ l2 := ne_of_none hb n2'
      rw [upd_ne b2, upd_ne b1]
      exact g2 b o nb (g b o nb hb)
    · obtain ⟨a, b, c, h1, h2⟩ := hP2
      exact ⟨a, b, c, by rw [upd_ne e2, upd_ne e1]; exact h1, h2⟩
  · rintro σ H1 ⟨ys, zs, v, rfl, hz, hy, hl, hperm, g, hP1⟩
    refine ⟨_, rfl, ?_⟩
    exact k l2 ys zs H1 hl hperm n2' hy g hP1
abbrev s_law_cells : Stmt := top 34
theorem sc_law_cells : FnScope ["script", "limit"] ["script", "limit"] (defScope s_law_cells) := ⟨rfl, rfl, rfl, by decide +kernel, rfl, by decide +kernel, by decide +kernel⟩
theorem ok_law_cells (F : Fun K "_law_cells" "_law_cells" s_law_cells f fd) (T : LTx mg) : FnOk P w K mg base CX0 1 f fd ["script", "limit"] (spCells K) := by
  refine F.ok sc_law_cells (fun vs H Q E h => ?_) (fun cdv A outer s H vs Q E hr h => ?_)
  · obtain ⟨p, xs, m, rfl, _⟩ := h
    rfl
  obtain ⟨p, xs, m, rfl, hS, hl, hm, k⟩ := h
  refine ⟨_, (pss_one (ps_ret (pe_listRg rfl rfl T.list (prg_1 rfl T.range (pe_callB (call_max2 rfl) rfl T.max (by decide +kernel) (pa_cons pe_int (pa_cons (pe_callB (call_min2 rfl) rfl T.min (by decide +kernel) (pa_cons (pv 1) (pa_cons (pe_callB call_len rfl T.len (by decide +kernel) (pa_cons (pv 0) pa_nil)) pa_nil))) pa_nil))))))), ?_⟩
  refine ⟨_, rfl, _, rfl, _, xs.length, rfl, .inl ⟨_, hS, (List.length_map _).symm⟩, _, _, rfl, _, _, rfl, ?_⟩
  generalize hz : (if (if (xs.length : Int) < (m : Int) then (xs.length : Int) else (m : Int)) > 1 then (if (xs.length : Int) < (m : Int) then (xs.length : Int) else (m : Int)) else 1) = z
  have hz1 : 0 ≤ z ∧ z < 1000 := by subst hz; split <;> (try split) <;> omega
  refine ⟨z, rfl, .of_le (by omega) (by omega) (by omega) (by omega), fun l hln => ?_⟩
  refine k l _ z.toNat (by omega) (same_new hln _) hln ?_
  rw [upd_same]
  unfold rgV
  rw [show (z - 0).toNat = z.toNat by omega]
  simp
abbrev s_law_pot : Stmt := top 30
theorem sc_law_pot : FnScope ["script", "place", "cell", "own", "small"] ["script", "place"] (defScope s_law_pot) := ⟨rfl, rfl, rfl, by decide +kernel, rfl, by decide +kernel, by decide +kernel⟩
theorem ok_law_pot (F : Fun K "_law_pot" "_law_pot" s_law_pot f fd) (T : LTx mg) : FnOk P w K mg base CX0 1 f fd ["script", "place"] (spPot K) := by
  refine F.ok sc_law_pot (fun vs H Q E h => ?_) (fun cdv A outer s H vs Q E hr h => ?_)
  · obtain ⟨p, xs, m, rfl, _⟩ := h
    rfl
  obtain ⟨p, xs, m, rfl, hS, hl, hm, k⟩ := h
  refine ⟨_, (C8.pss_cut (ps_set (i := 2) sc_law_pot.nd rfl (Or.inl rfl) (pe_ifExp (pt_cmpR op_lt (pv 1) (pe_callB call_len rfl T.len (by decide +kernel) (pa_cons (pv 0) pa_nil)) (nomark _)) (pe_ix ix_list (pv 0) (pv 1) (fun _ _ => rfl)) (pe_op op_add (pe_op op_add (pe_op op_mod (pe_callTy call_int1 rfl T.int (by decide +kernel) (pa_cons (pe_callB (cr_sum rfl) rfl T.sum (by decide +kernel) (pa_cons (pe_slice sl_list (pv 0) po_none (po_some pe_int)) pa_nil)) pa_nil)) pe_int) (pe_op op_mul pe_int (pv 1))) pe_int)))
  (pss_cons (ps_set (i := 3) sc_law_pot.nd rfl (Or.inl rfl) (pe_op op_mul (pe_op op_mod (pe_callTy call_int1 rfl T.int (by decide +kernel) (pa_cons (pe_callB call_abs rfl T.abs (by decide +kernel) (pa_cons (pv 2) pa_nil)) pa_nil)) (pe_op op_powB (pe_op op_pow pe_int pe_int) pe_int)) (pe_callTy call_int1 rfl T.int (by decide +kernel) (pa_cons (pe_cmpR op_ge (pe_callB call_abs rfl T.abs (by decide +kernel) (pa_cons (pv 2) pa_nil)) (pe_op op_pow pe_int pe_int) (nomark _)) pa_nil))))
  (pss_cons (ps_set (i := 4) sc_law_pot.nd rfl (Or.inl rfl) (pe_op op_mod (pe_callTy call_int1 rfl T.int (by decide +kernel) (pa_cons (pv 2) pa_nil)) pe_int))
  (pss_one (ps_ret (pe_lst (pa_cons (pv 3) (pa_cons (pe_op op_mod (pe_callTy call_int1 rfl T.int (by decide +kernel) (pa_cons (pe_op op_add (pe_op op_add (pe_op op_mul (pv 4) pe_int) (pe_op op_mul (pe_op op_mul pe_int (pv 1)) (pv 1))) pe_int) pa_nil)) pe_int) (pa_cons pe_int pa_nil))))))))), ?_⟩
  refine ⟨fun σ H1 => ∃ c : Int, σ = [some (.ref p), some (.int m), some (.int c), none, none] ∧ Same H H1, ?_, ?_⟩
  · refine ⟨_, rfl, _, rfl, _, xs.length, rfl, .inl ⟨_, hS, (List.length_map _).symm⟩, _, _, rfl, rfl, _, rfl, ?_⟩
    refine ite2 (fun c => ?_) (fun c => ?_)
    · have c' : m < xs.length := by have := of_decide_eq_true c; omega
      refine ⟨_, rfl, _, rfl, p, _, _, _, rfl, rfl, hS, atI_nat (by rw [List.getElem?_map, List.getElem?_eq_getElem c']; rfl), ?_⟩
      exact ⟨_, rfl, Same.refl _⟩
    · refine ⟨_, rfl, 1, rfl, p, _, rfl, hS, fun l hln => ?_⟩
      have hcut : cutV (xs.map V.int) none (some 1) = (xs.take 1).map V.int := by
        have e1 : HT.sIx (xs.map V.int).length 0 none = 0 := rfl
        have e2 := HT.sIx_nat (xs.map V.int).length (xs.map V.int).length 1
        unfold cutV
        rw [e1, show ((1 : Int)) = ((1 : Nat) : Int) from rfl, e2, List.length_map, List.drop_zero, ← List.map_take]
        cases xs <;> simp
      refine ⟨l, xs.take 1, rfl, .of (by rw [hcut]; exact upd_same), .inl ⟨_, rfl, _, _, rfl, rfl, (by show (0 : Int) < 1000003; decide), ?_⟩⟩
      refine ⟨_, rfl, _, _, rfl, rfl, .inl (by constructor <;> decide), _, _, rfl, rfl, _, _, rfl, rfl, ?_⟩
      exact ⟨_, rfl, same_new hln _⟩
  · rintro σ H1 ⟨c, rfl, g⟩
    refine ⟨_, rfl, _, rfl, .inl ⟨_, rfl, _, _, rfl, rfl, ⟨by decide, by decide, by decide⟩, ?_⟩⟩
    refine ⟨_, _, rfl, rfl, ⟨by decide, bits_ok 200 (by decide +kernel) (by decide) (by decide)⟩, ?_⟩
    refine ⟨_, _, rfl, rfl, (by show (0 : Int) < ((10 : Int) ^ Int.toNat 60) ^ Int.toNat 5; decide +kernel), ?_⟩
    refine ⟨_, rfl, _, rfl, _, _, rfl, rfl, ⟨by decide, by decide, by decide⟩, _, _, rfl, rfl, .inr ⟨_, rfl, _, _, rfl, rfl, .inr (b01 _), ?_⟩⟩
    refine ⟨_, rfl, .inl ⟨_, rfl, _, _, rfl, rfl, (by show (0 : Int) < 2305843009213693951; decide), ?_⟩⟩
    obtain ⟨sm, hs1, hs2⟩ := modNat c (u := 2305843009213693951) (by decide)
    refine ⟨_, rfl, _, rfl, _, _, rfl, rfl, .inr (by constructor <;> decide), _, rfl, _, _, rfl, rfl, .inl (by constructor <;> decide), _, rfl, _, _, rfl, rfl, .inr (by constructor <;> omega), ?_⟩
    refine ⟨_, _, rfl, rfl, _, _, rfl, rfl, .inl ⟨_, rfl, _, _, rfl, rfl, (by show (0 : Int) < 2305843009213693921; decide), ?_⟩⟩
    refine ⟨(by show 3 ≤ sizeLine; decide), fun l hln => ?_⟩
    refine k l _ (fun b o q => same_new hln _ b o (g b o q)) (g.free hln) ?_
    refine ⟨_, _, 0, upd_same, ?_, ?_, Int.le_refl 0, Int.le_refl 0⟩
    · exact Int.emod_nonneg _ (by decide)
    · exact Int.lt_trans (Int.emod_lt_of_pos _ (by decide)) (by decide)
end
end Fp
namespace Fp
open PySem PySem.Spec PyProof.Rows L2
def spIntD : Sp := fun vs H Q _ => ∃ (v : V) (d : Dt) (n : Int), vs = [v, .int 0, .int n] ∧ DV H v d ∧ Q (.bl (inB n d)) H
def spLotOfB : Sp := fun vs H Q _ => ∃ (v : V) (d : Dt) (n : Int), vs = [v, .int n] ∧ DV H v d ∧ ∀ H', Same H H' → Q (.bl (lotOfB n d)) H'
def spLRowD : Sp := fun vs H Q _ => ∃ (n : Nat) (v : V) (d : Dt), vs = [.int n, v] ∧ 1 ≤ n ∧ n ≤ 5 ∧ DV H v d ∧ ∀ H', Same H H' → Q (.bl (lawRowB n d)) H'
theorem lotOfB_lot {n : Int} {d : Dt} (h : lotOfB n d = true) : lotB d = true := by
  cases d with
  | tup es =>
    obtain ⟨h1, h2⟩ := lotOfB_tup.mp h
    exact lotB_tup.mpr ⟨fun x hx => ⟨(h1 x hx).1, (h1 x hx).2.1⟩, h2⟩
  | _ => cases h
section
variable {P : Program} {w : World} {K : PySem.W.Frag} {mg : Str → Option Value} {base : Heap} {f : Addr} {fd : FuncData} {C : Addr}
abbrev s_law_int : Stmt := top 38
theorem sc_law_int : FnScope ["value", "low", "high"] ["value", "low", "high"] (defScope s_law_int) := ⟨rfl, rfl, rfl, by decide +kernel, rfl, by decide +kernel, by decide +kernel⟩
theorem ok_law_int (F : Fun K "_law_int" "_law_int" s_law_int f fd) (T : RTx mg) : FnOk P w K mg base CX0 1 f fd ["value", "low", "high"] spIntD := by
  refine F.ok sc_law_int (fun vs H Q E h => ?_) (fun cdv A outer s H vs Q E hr h => ?_)
  · obtain ⟨v, d, n, rfl, _⟩ := h
    rfl
  obtain ⟨v, d, n, rfl, hd, q⟩ := h
  refine ⟨_, (pss_one (ps_ret (pe_and (pe_callB call_isi rfl T.isinstance (by decide +kernel) (pa_cons (pv 0) (pa_cons (pe_bltn (v := .ty "int") rfl T.int boot_int rfl) pa_nil))) (pe_and (pe_not (pe_callB call_isi rfl T.isinstance (by decide +kernel) (pa_cons (pv 0) (pa_cons (pe_bltn (v := .ty "bool") rfl T.bool boot_bool rfl) pa_nil)))) (pe_one (pe_chain op_le op_le (pv 1) (pv 0) (pv 2))))))), ?_⟩
  obtain ⟨t, ty, k1, k2, _⟩ := hd.ty (K := K)
  refine ⟨_, rfl, _, _, _, _, _, rfl, .ty "int", ty, k1, _, rfl, ite2 (fun c => ?_) (fun c => ?_)⟩
  · refine ⟨_, rfl, _, _, _, _, _, rfl, .ty "bool", ty, k2, _, rfl, _, rfl, ?_⟩
    cases d with
    | int i =>
      cases hd
      refine iteT ⟨_, rfl, _, rfl, _, _, rfl, rfl, _, rfl, ite2 (fun c => ⟨_, rfl, _, _, rfl, rfl, ?_⟩) (fun c => ?_)⟩
      · have c' : 0 ≤ i := of_decide_eq_true c
        have e : inB n (.int i) = decide (i ≤ n) := by
          unfold inB
          simp [Dt.isInt, Dt.toInt, c']
        rw [e] at q
        exact q
      · have c' : ¬ 0 ≤ i := of_decide_eq_false (by simpa using c)
        have e : inB n (.int i) = false := by
          unfold inB
          simp [Dt.isInt, Dt.toInt, c']
        rw [e] at q
        exact q
    | bl b =>
      have e : inB n (.bl b) = false := rfl
      rw [e] at q
      exact iteF q
    | _ => cases c
  · have e : inB n d = false := by cases d <;> first | rfl | exact absurd rfl c
    rw [e] at q
    exact q
abbrev s_law_is_lot_of : Stmt := top 39
theorem sc_law_is_lot_of : FnScope ["value", "many", "one", "other"] ["value", "many"] (defScope s_law_is_lot_of) := ⟨rfl, rfl, rfl, by decide +kernel, rfl, by decide +kernel, by decide +kernel⟩
theorem ok_law_is_lot_of (F : Fun K "_law_is_lot_of" "_law_is_lot_of" s_law_is_lot_of f fd) (T : RTx mg) (G_law_int : Fd P w K mg base CX0 "_law_int" 1 ["value", "low", "high"] spIntD) : FnOk P w K mg base CX0 2 f fd ["value", "many"] spLotOfB := by
  refine F.ok sc_law_is_lot_of (fun vs H Q E h => ?_) (fun cdv A outer s H vs Q E hr h => ?_)
  · obtain ⟨v, d, n, rfl, _⟩ := h
    rfl
  obtain ⟨v, d, n, rfl, hd, k⟩ := h
  refine ⟨_, (pss_cons (ps_if (PW.pt (pw_or (pt_not (pt_val (pe_callB call_isi rfl T.isinstance (by decide +kernel) (pa_cons (pv 0) (pa_cons (pe_bltn (v := .ty "tuple") rfl T.tuple boot_tuple rfl) pa_nil))))) (pw_or1 (pt_not (pt_val (pe_callB (cr_all rfl) rfl T.all (by decide +kernel) (pa_cons (pe_lc (own := [("one", 2)]) (g := (gName 2)) (tt := tYes) rfl sc_law_is_lot_of.nd (pi_tup (pv 0)) (blkOk_by (own := [("one", 2)]) (N := ["value", "many", "one", "other"]) (sc := defScope s_law_is_lot_of) (by decide +kernel)) (fun _ _ _ _ _ => (pg_name (i := 2) sc_law_is_lot_of.nd rfl (Or.inl rfl))) (fun _ _ _ _ _ => pts_nil) (fun _ _ _ _ _ => (pe_fd G_law_int (hr.mono (by first | decide | omega)) rfl (pa_cons (pv 2) (pa_cons pe_int (pa_cons (pe_op op_sub (pv 1) pe_int) pa_nil)))))) pa_nil))))))) (pss_one (ps_ret pe_bl)) pss_nil)
  (pss_one (ps_ret (pe_callB (cr_all rfl) rfl T.all (by decide +kernel) (pa_cons (pe_lc (own := [("one", 2), ("other", 3)]) (g := (gTup K 2 (gCons (gName 2) (gCons (gName 3) gNil)))) (tt := tYes) rfl sc_law_is_lot_of.nd (RZ.pi_zipA rfl T.zip (pa_cons (pv 0) (pa_cons (pe_slice sl_tupA (pv 0) (po_some pe_int) po_none) pa_nil))) (blkOk_by (own := [("one", 2), ("other", 3)]) (N := ["value", "many", "one", "other"]) (sc := defScope s_law_is_lot_of) (by decide +kernel)) (fun _ _ _ _ _ => (pg_tup rfl (pgs_cons (pg_name (i := 2) sc_law_is_lot_of.nd rfl (Or.inl rfl)) (pgs_cons (pg_name (i := 3) sc_law_is_lot_of.nd rfl (Or.inl rfl)) pgs_nil)))) (fun _ _ _ _ _ => pts_nil) (fun _ _ _ _ _ => (pe_cmpR op_lt (pv 2) (pv 3) (nomark _)))) pa_nil))))), ?_⟩
  obtain ⟨t, ty, _, _, k3⟩ := hd.ty (K := K)
  refine ⟨_, rfl, _, _, _, _, _, rfl, .ty "tuple", ty, k3, _, rfl, ite2 (fun c => ?_) (fun c => ?_)⟩
  · have e : lotOfB n d = false := by cases d <;> first | rfl | cases c
    rw [e] at k
    exact k _ (Same.refl _)
  cases hd with
  | @tup a xs ds ha hds hl =>
    have hxl := hds.len
    refine ⟨_, rfl, a, rfl, ⟨_, .of ha⟩, fun D hD => ?_⟩
    refine lc_bools walk_tup (fun i => inB (n - 1) (ds.getD i .non)) hD (by omega) (fun H' g => .of (g _ _ ha)) (fun i x H1 H2 hi g y Q4 N kk => ?_) fun H1 g1 h1 => ?_
    · obtain ⟨rfl, hx⟩ := y
      obtain ⟨dx, hdx, vx⟩ := DVs.at_ hds hx
      have eg : ds.getD i .non = dx := by rw [List.getD_eq_getElem?_getD, hdx] <;> rfl
      rw [eg] at kk
      refine ⟨rfl, ?_⟩
      unfold tYes
      refine iteT ?_
      exact ⟨_, rfl, _, rfl, _, _, rfl, rfl, x, dx, _, rfl, vx.same g, kk _ (Same.refl _)⟩
    refine ⟨D, _, rfl, .of h1, _, rfl, ?_⟩
    rw [all_id_map, hxl, all_getD]
    refine ite2 (fun c2 => ?_) (fun c2 => ?_)
    · have e : lotOfB n (.tup ds) = false := by
        show (ds.all (inB (n - 1)) && adjLt (ds.map Dt.toInt)) = false
        rw [not_t c2]; rfl
      rw [e] at k
      exact k _ g1
    have hw : ds.all (inB (n - 1)) = true := not_f c2
    have ei : xs = (ds.map Dt.toInt).map V.int := DVs.ints hds fun x hx => (inB_iff.mp (List.all_eq_true.mp hw x hx)).1
    have el : lotOfB n (.tup ds) = adjLt (ds.map Dt.toInt) := by
      show (ds.all (inB (n - 1)) && adjLt (ds.map Dt.toInt)) = _
      rw [hw]; rfl
    generalize hg : ds.map Dt.toInt = l at ei el
    have hll : l.length ≤ 1000 := by rw [← hg, List.length_map]; exact hl
    subst ei
    rw [el] at k
    have ha1 := g1 _ _ ha
    refine ⟨_, rfl, _, rfl, 1, rfl, ?_⟩
    refine noP_in ?_
    refine slA_any ha1 fun b H2 g2 hb => ?_
    rw [show (1 : Int) = ((1 : Nat) : Int) from rfl, cutA_from, ← List.map_drop] at hb
    refine ⟨a, b, l.map V.int, (l.drop 1).map V.int, rfl, .inr ⟨.of (g2 _ _ ha1), .of hb, fun D2 hD2 => ?_⟩⟩
    have wz := walk_zipT (K := K) (a := a) (b := b) (xs := l.map V.int) (ys := (l.drop 1).map V.int) (n := l.length - 1) (by rw [List.length_map, List.length_map, List.length_drop]; omega)
    refine lc_bools wz (fun i => decide (l.getD i 0 < l.getD (i + 1) 0)) hD2 (by omega) (fun H' g => ⟨.of (g _ _ (g2 _ _ ha1)), .of (g _ _ hb)⟩) (fun i x H3 H4 hi g y Q4 N kk => ?_) fun H3 g3 h3 => ?_
    · obtain ⟨T', x1, x2, rfl, nT, rfl, e1, e2⟩ := y
      have e1 : (l.map V.int)[i]? = some x1 := e1
      have e2 : ((l.drop 1).map V.int)[i]? = some x2 := e2
      rw [List.getElem?_map, List.getElem?_eq_getElem (by omega)] at e1
      rw [List.getElem?_map, List.getElem?_drop, Nat.add_comm, List.getElem?_eq_getElem (by omega)] at e2
      cases e1
      cases e2
      rw [getD_lt (by omega), getD_lt (by omega)] at kk
      have g4 := same_new nT (.tup [V.int l[i], V.int l[i + 1]])
      exact ⟨T', _, rfl, .of upd_same, rfl, _, _, rfl, _, _, rfl, rfl, rfl, _, rfl, _, rfl, _, _, rfl, rfl, kk _ g4⟩
    refine ⟨D2, _, rfl, .of h3, ?_⟩
    rw [all_id_map]
    exact k _ ((g1.trans g2).trans g3)
  | _ => exact absurd rfl c
abbrev s_law_is_row : Stmt := top 40
theorem sc_law_is_row : FnScope ["many", "value", "there", "one", "other", "is_within", "hand", "view"] ["many", "value"] (defScope s_law_is_row) := ⟨rfl, rfl, rfl, by decide +kernel, rfl, by decide +kernel, by decide +kernel⟩
theorem ok_law_is_row (F : Fun K "_law_is_row" "_law_is_row" s_law_is_row f fd) (T : RTx mg) (G_law_is_lot_of : Fd P w K mg base CX0 "_law_is_lot_of" 2 ["value", "many"] spLotOfB) : FnOk P w K mg base CX0 3 f fd ["many", "value"] spLRowD := by
  refine F.ok sc_law_is_row (fun vs H Q E h => ?_) (fun cdv A outer s H vs Q E hr h => ?_)
  · obtain ⟨n, v, d, rfl, _⟩ := h
    rfl
  obtain ⟨n, v, d, rfl, h1, h5, hd, k⟩ := h
  refine ⟨_, (pss_cons (ps_if (PW.pt (pw_or (pt_not (pt_val (pe_callB call_isi rfl T.isinstance (by decide +kernel) (pa_cons (pv 1) (pa_cons (pe_bltn (v := .ty "tuple") rfl T.tuple boot_tuple rfl) pa_nil))))) (pw_or (pt_cmpR op_ne (pe_callB call_len rfl T.len (by decide +kernel) (pa_cons (pv 1) pa_nil)) (pv 0) (nomark _)) (pw_or1 (pt_val (pe_callB (cr_all rfl) rfl T.all (by decide +kernel) (pa_cons (pe_lc (own := [("view", 7)]) (g := (gName 7)) (tt := tYes) rfl sc_law_is_row.nd (pi_tup (pv 1)) (blkOk_by (own := [("view", 7)]) (N := ["many", "value", "there", "one", "other", "is_within", "hand", "view"]) (sc := defScope s_law_is_row) (by decide +kernel)) (fun _ _ _ _ _ => (pg_name (i := 7) sc_law_is_row.nd rfl (Or.inl rfl))) (fun _ _ _ _ _ => pts_nil) (fun _ _ _ _ _ => (pe_cmpR op_isN (pv 7) pe_non (nomark _)))) pa_nil))))))) (pss_one (ps_ret pe_bl)) pss_nil)
  (pss_cons (ps_setLc (i := 2) (own := [("hand", 6), ("view", 7)]) (g := (gTup K 2 (gCons (gName 6) (gCons (gName 7) gNil))))  rfl sc_law_is_row.nd rfl rfl (sw_true rfl rfl rfl (by decide +kernel)) (pi_enumT rfl T.enumerate (pa_cons (pv 1) pa_nil)) (blkOk_by (own := [("hand", 6), ("view", 7)]) (N := ["many", "value", "there", "one", "other", "is_within", "hand", "view"]) (sc := defScope s_law_is_row) (by decide +kernel)) (fun _ _ _ _ _ => (pg_tup rfl (pgs_cons (pg_name (i := 6) sc_law_is_row.nd rfl (Or.inl rfl)) (pgs_cons (pg_name (i := 7) sc_law_is_row.nd rfl (Or.inl rfl)) pgs_nil)))) (fun _ _ _ _ _ => (pts_one (pt_cmpR op_notN (pv 7) pe_non (nomark _)))) (fun _ _ _ _ _ => (pv 6)))
  (pss_cons (ps_if (pt_not (pt_val (pe_callB (cr_all rfl) rfl T.all (by decide +kernel) (pa_cons (pe_lc (own := [("hand", 6)]) (g := (gName 6)) (tt := tYes) rfl sc_law_is_row.nd (pi_list (pv 2)) (blkOk_by (own := [("hand", 6)]) (N := ["many", "value", "there", "one", "other", "is_within", "hand", "view"]) (sc := defScope s_law_is_row) (by decide +kernel)) (fun _ _ _ _ _ => (pg_name (i := 6) sc_law_is_row.nd rfl (Or.inl rfl))) (fun _ _ _ _ _ => pts_nil) (fun _ _ _ _ _ => (pe_and (pe_fd G_law_is_lot_of (hr.mono (by first | decide | omega)) rfl (pa_cons (pe_ix ix_tupK (pv 1) (pv 6) (fun _ _ => rfl)) (pa_cons (pv 0) pa_nil))) (pe_one (pe_cmpR op_in_seqK (pv 6) (pe_ix ix_tupK (pv 1) (pv 6) (fun _ _ => rfl)) rfl))))) pa_nil)))) (pss_one (ps_ret pe_bl)) pss_nil)
  (pss_cons (ps_for PassesOwn.never rfl (pi_list (pv 2)) (pg_name (i := 3) sc_law_is_row.nd rfl (Or.inr rfl)) (pss_one (ps_for PassesOwn.never rfl (pi_list (pv 2)) (pg_name (i := 4) sc_law_is_row.nd rfl (Or.inr rfl)) (pss_cons (ps_set (i := 5) sc_law_is_row.nd rfl (Or.inl rfl) (pe_callB (cr_all rfl) rfl T.all (by decide +kernel) (pa_cons (pe_lc (own := [("hand", 6)]) (g := (gName 6)) (tt := tYes) rfl sc_law_is_row.nd (pi_tup (pe_ix ix_tupK (pv 1) (pv 3) (fun _ _ => rfl))) (blkOk_by (own := [("hand", 6)]) (N := ["many", "value", "there", "one", "other", "is_within", "hand", "view"]) (sc := defScope s_law_is_row) (by decide +kernel)) (fun _ _ _ _ _ => (pg_name (i := 6) sc_law_is_row.nd rfl (Or.inl rfl))) (fun _ _ _ _ _ => pts_nil) (fun _ _ _ _ _ => (pe_cmpR op_in_seqK (pv 6) (pe_ix ix_tupK (pv 1) (pv 4) (fun _ _ => rfl)) rfl))) pa_nil)))
  (pss_cons (ps_if (PW.pt (pw_and (pt_not (pt_truth (pv 5) (by intro _; rfl))) (pw_and1 (pt_not (pt_val (pe_callB (cr_all rfl) rfl T.all (by decide +kernel) (pa_cons (pe_lc (own := [("hand", 6)]) (g := (gName 6)) (tt := tYes) rfl sc_law_is_row.nd (pi_tup (pe_ix ix_tupK (pv 1) (pv 4) (fun _ _ => rfl))) (blkOk_by (own := [("hand", 6)]) (N := ["many", "value", "there", "one", "other", "is_within", "hand", "view"]) (sc := defScope s_law_is_row) (by decide +kernel)) (fun _ _ _ _ _ => (pg_name (i := 6) sc_law_is_row.nd rfl (Or.inl rfl))) (fun _ _ _ _ _ => pts_nil) (fun _ _ _ _ _ => (pe_cmpR op_in_seqK (pv 6) (pe_ix ix_tupK (pv 1) (pv 3) (fun _ _ => rfl)) rfl))) pa_nil))))))) (pss_one (ps_ret pe_bl)) pss_nil)
  (pss_one (ps_if (PW.pt (pw_and (pt_cmpR op_in_seqK (pv 3) (pe_ix ix_tupK (pv 1) (pv 4) (fun _ _ => rfl)) rfl) (pw_and1 (pt_not (pt_truth (pv 5) (by intro _; rfl)))))) (pss_one (ps_ret pe_bl)) pss_nil)))))))
  (pss_one (ps_ret pe_bl)))))), ?_⟩
  obtain ⟨t, ty, _, _, k3⟩ := hd.ty (K := K)
  refine ⟨_, rfl, _, _, _, _, _, rfl, .ty "tuple", ty, k3, _, rfl, ite2 (fun c => ?_) (fun c => ?_)⟩
  · have e : lawRowB n d = false := by cases d <;> first | rfl | cases c
    rw [e] at k
    exact k _ (Same.refl _)
  cases hd with
  | @tup b vv ds hb hds hl =>
    have hvl := hds.len
    refine ⟨_, rfl, _, vv.length, rfl, (show LenV K (.ref b) H vv.length from .inr ⟨_, .of hb, rfl⟩), _, rfl, ?_⟩
    refine ⟨rfl, _, rfl, ite2 (fun c2 => ?_) (fun c2 => ?_)⟩
    · have e : lawRowB n (.tup ds) = false := by
        unfold lawRowB
        dsimp only
        have : ¬ ds.length = n := fun z => by rw [hvl, z] at c2; simp at c2
        rw [decide_eq_false this]; rfl
      rw [e] at k
      exact k _ (Same.refl _)
    have hn : ds.length = n := by
      have : ((vv.length : Nat) : Int) = (n : Int) := by simpa using c2
      omega
    refine ⟨_, rfl, b, rfl, ⟨_, .of hb⟩, fun D hD => ?_⟩
    refine lc_bools walk_tup (fun i => (ds.getD i .non).isNon) hD (by omega) (fun H' g => .of (g _ _ hb)) (fun i x H1 H2 hi g y Q4 N kk => ?_) fun H1 g1 e1 => ?_
    · obtain ⟨rfl, hx⟩ := y
      obtain ⟨dx, hdx, vx⟩ := DVs.at_ hds hx
      have eg : ds.getD i .non = dx := by rw [List.getD_eq_getElem?_getD, hdx] <;> rfl
      rw [eg] at kk
      refine ⟨rfl, ?_⟩
      unfold tYes
      refine iteT ?_
      refine ⟨_, rfl, rfl, ?_⟩
      show Q4 (.bl (decide (x = V.non))) H2
      rw [vx.non_iff]
      exact kk _ (Same.refl _)
    refine ⟨D, _, rfl, .of e1, _, rfl, ?_⟩
    rw [all_id_map, hvl, all_getD]
    refine ite2 (fun c3 => ?_) (fun c3 => ?_)
    · have e : lawRowB n (.tup ds) = false := by
        unfold lawRowB
        dsimp only
        rw [c3, Bool.not_true, Bool.and_false]; rfl
      rw [e] at k
      exact k _ g1
    have k' : ∀ H', Same H H' → Q (.bl ((thr ds).all (lawVw n ds) && (thr ds).all fun i => (thr ds).all fun j => okPair ds i j)) H' := fun H' g => by
      have e : lawRowB n (.tup ds) = ((thr ds).all (lawVw n ds) && (thr ds).all fun i => (thr ds).all fun j => okPair ds i j) := by
        unfold lawRowB
        dsimp only
        rw [decide_eq_true hn, show ds.all Dt.isNon = false by simpa using c3]; rfl
      rw [← e]
      exact k _ g
    clear k
    have hb1 := g1 _ _ hb
    have hds1 := hds.same g1
    refine next_in ?_
    refine nx_in ?_
    refine seq_in ?_
    refine ⟨_, rfl, b, vv, rfl, .of hb1, fun D1 hD1 => ?_⟩
    refine lc_it (walk_enumT (xs := vv)) (fun i H' => Same H1 H' ∧ H' D1 = some (.lst (((List.range i).filter fun j => !(ds.getD j .non).isNon).map fun j : Nat => V.int (j : Int)))) ⟨same_new hD1 _, upd_same⟩ (fun i H' _ z => .of (z.1 _ _ hb1)) ?_ ?_
    · rintro i y0 H2 H3 hi ⟨g2, h2⟩ ⟨T', y, rfl, hT, rfl, hy⟩
      obtain ⟨dy, hdy, vy⟩ := DVs.at_ hds1 hy
      have eg : ds.getD i .non = dy := by rw [List.getD_eq_getElem?_getD, hdy] <;> rfl
      have g3 := same_new hT (.tup [.int (0 + (i : Nat)), y])
      have h3 := g3 _ _ h2
      refine ⟨T', _, rfl, .of upd_same, rfl, _, _, rfl, _, _, rfl, rfl, rfl, ?_⟩
      refine ⟨_, rfl, rfl, _, rfl, ?_⟩
      have en := vy.non_iff
      cases hnon : dy.isNon with
      | true =>
        rw [hnon] at en
        refine ite_no (by rw [en]; rfl) ?_
        rw [← eg] at hnon
        exact ⟨g2.trans g3, by rw [h3, List.range_succ, List.filter_append, List.filter_cons, hnon]; simp⟩
      | false =>
        rw [hnon] at en
        refine ite_yes (by rw [en]; rfl) ?_
        rw [← eg] at hnon
        refine ⟨_, rfl, _, h3, szt ?_, fun o u ho => ?_, ?_⟩
        · rw [List.length_map]
          have := List.length_filter_le (fun j => !(ds.getD j .non).isNon) (List.range i)
          rw [List.length_range] at this
          omega
        · rw [upd_ne (ne_of_none ho hD1)]; exact g3 _ _ (g2 _ _ ho)
        · rw [upd_same, List.range_succ, List.filter_append, List.filter_cons, hnon, List.map_append, Int.zero_add]; rfl
    rintro H2 ⟨g2, h2⟩
    rw [hvl] at h2
    have h2 : H2 D1 = some (.lst ((thr ds).map fun j : Nat => V.int (j : Int))) := h2
    have tl : (thr ds).length ≤ 5 := by
      have := List.length_filter_le (fun i => !(ds.getD i .non).isNon) (List.range ds.length)
      rw [List.length_range] at this
      show ((List.range ds.length).filter fun i => !(ds.getD i .non).isNon).length ≤ 5
      omega
    have hb2 := g2 _ _ hb1
    have hds2 := hds1.same g2
    have g12 := g1.trans g2
    have tAt : ∀ {i : Nat} {x : V}, ((thr ds).map fun j : Nat => V.int (j : Int))[i]? = some x → ∃ j y, x = .int (j : Nat) ∧ (thr ds)[i]? = some j ∧ j < ds.length ∧ vv[j]? = some y ∧ DV H2 y (ds.getD j .non) := fun {i x} hx => by
      rw [List.getElem?_map] at hx
      obtain ⟨j, hj, rfl⟩ := Option.map_eq_some_iff.mp hx
      have hjl := (mem_thr.mp (List.mem_of_getElem? hj)).1
      obtain ⟨y, hy, vy⟩ := DVs.get hds2 (List.getElem?_eq_getElem hjl)
      exact ⟨j, y, rfl, hj, hjl, hy, by rw [List.getD_eq_getElem?_getD, List.getElem?_eq_getElem hjl]; exact vy⟩
    refine g_set ?_
    refine nx_in ?_
    refine seq_in ?_
    refine ⟨_, rfl, D1, rfl, ⟨_, .of h2⟩, fun D2 hD2 => ?_⟩
    refine lc_bools walk_list (fun i => lawVw n ds ((thr ds).getD i 0)) hD2 (by rw [List.length_map]; omega) (fun H' g => .of (g _ _ h2)) (fun i x H3 H4 hi g y Q4 N kk => ?_) fun H3 g3 e3 => ?_
    · obtain ⟨rfl, hx⟩ := y
      obtain ⟨j, y, rfl, hj, hjl, hy, vy⟩ := tAt hx
      have eg : (thr ds).getD i 0 = j := by rw [List.getD_eq_getElem?_getD, hj] <;> rfl
      rw [eg] at kk
      refine ⟨rfl, ?_⟩
      unfold tYes
      refine iteT ?_
      refine ⟨_, rfl, _, rfl, b, vv, _, y, rfl, rfl, .of (g _ _ hb2), atI_nat hy, _, rfl, y, _, _, rfl, vy.same g, fun H5 g5 => ⟨_, rfl, ite2 (fun c4 => ?_) (fun c4 => ?_)⟩⟩
      · have lb : lotB (ds.getD j .non) = true := lotOfB_lot c4
        obtain ⟨a, rfl, ha, hla⟩ := vy.lot lb
        have e : lawVw n ds j = decide (((j : Nat) : Int) ∈ lotOf (ds.getD j .non)) := by
          unfold lawVw vwAt
          rw [c4, Bool.true_and]
        rw [e] at kk
        refine ⟨_, rfl, _, rfl, _, rfl, b, vv, _, .ref a, rfl, rfl, .of (g5 _ _ (g _ _ hb2)), atI_nat hy, a, _, rfl, .inr (.of (g5 _ _ (g _ _ ha))), rfl, int_flat _, ?_⟩
        rw [inI]
        exact kk _ g5
      · have e : lawVw n ds j = false := by
          unfold lawVw
          rw [show lotOfB n (ds.getD j .non) = false by simpa using c4]; rfl
        rw [e] at kk
        exact kk _ g5
    refine ⟨D2, _, rfl, .of e3, _, rfl, ?_⟩
    rw [all_id_map, List.length_map, all_getD (p := lawVw n ds)]
    refine ite2 (fun c4 => ?_) (fun c4 => ?_)
    · rw [not_t c4] at k'
      exact k' _ (g12.trans g3)
    have hv : (thr ds).all (lawVw n ds) = true := not_f c4
    rw [hv] at k'
    have g13 := g12.trans g3
    have getA : ∀ {i : Nat} {x : V}, ((thr ds).map fun j : Nat => V.int (j : Int))[i]? = some x → ∃ j a, x = .int (j : Nat) ∧ (thr ds)[i]? = some j ∧ vv[j]? = some (.ref a) ∧ H2 a = some (.tup ((vwAt ds j).map V.int)) ∧ (vwAt ds j).length ≤ 1000 := fun {i x} hx => by
      obtain ⟨j, y, rfl, hj, hjl, hy, vy⟩ := tAt hx
      have := (lawVw_iff.mp (List.all_eq_true.mp hv j (List.mem_of_getElem? hj))).1
      obtain ⟨a, rfl, ha, hla⟩ := vy.lot (lotOfB_lot this)
      exact ⟨j, a, rfl, hj, hy, ha, hla⟩
    have h3 := g3 _ _ h2
    have tlen : ((thr ds).map fun j : Nat => V.int (j : Int)).length = (thr ds).length := List.length_map _
    refine next_in ?_
    refine nx_in ?_
    refine seq_in ?_
    refine ⟨_, rfl, D1, rfl, ⟨_, .of h3⟩, for_list (K := K) (a := D1) (xs := (thr ds).map fun j : Nat => V.int (j : Int)) (fun i σ H' => ∃ u3 u4 u5, σ = [some (.int n), some (.ref b), some (.ref D1), u3, u4, u5, none, none] ∧ Same H2 H' ∧ ∀ p, p < i → ((thr ds).all fun j => okPair ds ((thr ds).getD p 0) j) = true) ?_ ?_ ?_ ?_⟩
    · exact ⟨none, none, none, rfl, g3, fun p hp => absurd hp (Nat.not_lt_zero _)⟩
    · rintro i σ H' hi ⟨u3, u4, u5, rfl, g, _⟩
      exact .of (g _ _ h2)
    · rintro i x σ H4 hx ⟨u3, u4, u5, rfl, g4, hok⟩
      obtain ⟨j1, a1, rfl, hj1, hy1, ha1, hl1⟩ := getA hx
      have ej1 : (thr ds).getD i 0 = j1 := by rw [List.getD_eq_getElem?_getD, hj1] <;> rfl
      refine g_set ?_
      refine ⟨_, rfl, D1, rfl, ⟨_, .of (g4 _ _ h2)⟩, for_list (K := K) (a := D1) (xs := (thr ds).map fun j : Nat => V.int (j : Int)) (fun q σ H' => ∃ u4 u5, σ = [some (.int n), some (.ref b), some (.ref D1), some (.int (j1 : Nat)), u4, u5, none, none] ∧ Same H2 H' ∧ ∀ p, p < q → okPair ds j1 ((thr ds).getD p 0) = true) ?_ ?_ ?_ ?_⟩
      · exact ⟨_, _, rfl, g4, fun p hp => absurd hp (Nat.not_lt_zero _)⟩
      · rintro q σ H' hi ⟨u4, u5, rfl, g, _⟩
        exact .of (g _ _ h2)
      · rintro q x σ H5 hx2 ⟨u4, u5, rfl, g5, hok2⟩
        obtain ⟨j2, a2, rfl, hj2, hy2, ha2, hl2⟩ := getA hx2
        have ej2 : (thr ds).getD q 0 = j2 := by rw [List.getD_eq_getElem?_getD, hj2] <;> rfl
        have bad : okPair ds j1 j2 = false → ((thr ds).all fun i => (thr ds).all fun j => okPair ds i j) = false := fun z => by
          rw [List.all_eq_false]
          refine ⟨j1, List.mem_of_getElem? hj1, ?_⟩
          rw [Bool.not_eq_true, List.all_eq_false]
          exact ⟨j2, List.mem_of_getElem? hj2, by rw [z]; simp⟩
        refine g_set ?_
        refine seq_in ?_
        refine ⟨_, rfl, _, rfl, b, vv, _, .ref a1, rfl, rfl, .of (g5 _ _ hb2), atI_nat hy1, a1, rfl, ⟨_, .of (g5 _ _ ha1)⟩, fun D3 hD3 => ?_⟩
        refine lc_bools walk_tup (fun p => decide ((vwAt ds j1).getD p 0 ∈ vwAt ds j2)) hD3 (by rw [List.length_map]; omega) (fun H' g => .of (g _ _ (g5 _ _ ha1))) (fun p x H6 H7 hp g y Q4 N kk => ?_) fun H6 g6 e6 => ?_
        · obtain ⟨rfl, hx⟩ := y
          rw [List.length_map] at hp
          rw [List.getElem?_map, List.getElem?_eq_getElem hp] at hx
          cases hx
          rw [getD_lt hp] at kk
          refine ⟨rfl, ?_⟩
          unfold tYes
          refine iteT ?_
          refine ⟨_, rfl, _, rfl, _, rfl, b, vv, _, .ref a2, rfl, rfl, .of (g _ _ (g5 _ _ hb2)), atI_nat hy2, a2, _, rfl, .inr (.of (g _ _ (g5 _ _ ha2))), rfl, int_flat _, ?_⟩
          rw [inI]
          exact kk _ (Same.refl _)
        refine ⟨D3, _, rfl, .of e6, ?_⟩
        rw [all_id_map, List.length_map, all_getD (p := fun x => decide (x ∈ vwAt ds j2)) (x := (0 : Int))]
        generalize hw12 : ((vwAt ds j1).all fun x => decide (x ∈ vwAt ds j2)) = w12
        have hw12 : withinB (vwAt ds j1) (vwAt ds j2) = w12 := hw12
        have g56 := g5.trans g6
        refine g_set ?_
        refine nx_in ?_
        refine seq_in ?_
        refine cut_nx (fun H' => Same H2 H' ∧ (w12 || withinB (vwAt ds j2) (vwAt ds j1)) = true) ?_ fun rest => ?_
        · rintro H7 ⟨g7, hor⟩
          refine nx_in ?_
          have done : okPair ds j1 j2 = true → ∃ u4 u5, [some (V.int n), some (.ref b), some (.ref D1), some (.int (j1 : Nat)), some (.int (j2 : Nat)), some (.bl w12), none, none] = [some (V.int n), some (.ref b), some (.ref D1), some (.int (j1 : Nat)), u4, u5, none, none] ∧ Same H2 H7 ∧ ∀ p, p < q + 1 → okPair ds j1 ((thr ds).getD p 0) = true := fun z => by
            refine ⟨_, _, rfl, g7, fun p hp => ?_⟩
            by_cases e : p = q
            · rw [e, ej2]; exact z
            · exact hok2 p (by omega)
          have ok1 : okPair ds j1 j2 = (!(decide (((j1 : Nat) : Int) ∈ vwAt ds j2) && !w12)) := by
            unfold okPair
            rw [hw12, hor, Bool.true_and]
          refine ⟨_, rfl, _, rfl, _, rfl, b, vv, _, .ref a2, rfl, rfl, .of (g7 _ _ hb2), atI_nat hy2, a2, _, rfl, .inr (.of (g7 _ _ ha2)), rfl, int_flat _, _, rfl, ?_⟩
          rw [inI]
          refine ite2 (fun c6 => ⟨_, rfl, w12, rfl, ?_⟩) (fun c6 => ?_)
          · refine ite2 (fun c7 => ?_) (fun c7 => ?_)
            · rw [c6, c7] at ok1
              rw [bad ok1] at k'
              exact k' _ (g12.trans g7)
            · refine done ?_
              rw [ok1, show (!w12) = false by simpa using c7, Bool.and_false]; rfl
          · refine iteF (done ?_)
            rw [ok1, show decide (((j1 : Nat) : Int) ∈ vwAt ds j2) = false by simpa using c6]; rfl
        refine ⟨_, rfl, w12, rfl, ite2 (fun c5 => ?_) (fun c5 => ?_)⟩
        rotate_left
        · have e : w12 = true := not_f c5
          exact iteF (rest _ ⟨g56, by rw [e]; rfl⟩)
        have e12 : w12 = false := not_t c5
        refine ⟨_, rfl, _, rfl, b, vv, _, .ref a2, rfl, rfl, .of (g56 _ _ hb2), atI_nat hy2, a2, rfl, ⟨_, .of (g56 _ _ ha2)⟩, fun D4 hD4 => ?_⟩
        refine lc_bools walk_tup (fun p => decide ((vwAt ds j2).getD p 0 ∈ vwAt ds j1)) hD4 (by rw [List.length_map]; omega) (fun H' g => .of (g _ _ (g56 _ _ ha2))) (fun p x H7 H8 hp g y Q4 N kk => ?_) fun H7 g7 e7 => ?_
        · obtain ⟨rfl, hx⟩ := y
          rw [List.length_map] at hp
          rw [List.getElem?_map, List.getElem?_eq_getElem hp] at hx
          cases hx
          rw [getD_lt hp] at kk
          refine ⟨rfl, ?_⟩
          unfold tYes
          refine iteT ?_
          refine ⟨_, rfl, _, rfl, _, rfl, b, vv, _, .ref a1, rfl, rfl, .of (g _ _ (g56 _ _ hb2)), atI_nat hy1, a1, _, rfl, .inr (.of (g _ _ (g56 _ _ ha1))), rfl, int_flat _, ?_⟩
          rw [inI]
          exact kk _ (Same.refl _)
        refine ⟨D4, _, rfl, .of e7, _, rfl, ?_⟩
        rw [all_id_map, List.length_map, all_getD (p := fun x => decide (x ∈ vwAt ds j1)) (x := (0 : Int))]
        generalize hw21 : ((vwAt ds j2).all fun x => decide (x ∈ vwAt ds j1)) = w21
        have hw21 : withinB (vwAt ds j2) (vwAt ds j1) = w21 := hw21
        refine ite2 (fun c8 => ?_) (fun c8 => ?_)
        · have ok1 : okPair ds j1 j2 = false := by
            unfold okPair
            rw [hw12, hw21, e12, not_t c8]; rfl
          rw [bad ok1] at k'
          exact k' _ ((g12.trans g56).trans g7)
        · exact rest _ ⟨g56.trans g7, by rw [hw21, not_f c8, Bool.or_true]⟩
      · rintro σ H5 ⟨u4, u5, rfl, g5, hok2⟩
        refine ⟨_, _, _, rfl, g5, fun p hp => ?_⟩
        by_cases e : p = i
        · subst e
          rw [ej1, ← all_getD (p := okPair ds j1) (x := 0), List.all_eq_true]
          intro q hq
          exact hok2 q (by rw [tlen]; exact List.mem_range.mp hq)
        · exact hok p (by omega)
    · rintro σ H4 ⟨u3, u4, u5, rfl, g4, hok⟩
      have e : ((thr ds).all fun i => (thr ds).all fun j => okPair ds i j) = true := by
        rw [← all_getD (p := fun i => (thr ds).all fun j => okPair ds i j) (x := 0), List.all_eq_true]
        intro q hq
        exact hok q (by rw [tlen]; exact List.mem_range.mp hq)
      rw [e] at k'
      exact k' _ (g12.trans g4)
  | _ => exact absurd rfl c
end
end Fp
namespace Fp
open PySem PySem.Spec PyProof.Rows L2
theorem any_getD {α : Type} {p : α → Bool} {x : α} {l : List α} : ((List.range l.length).any fun i => p (l.getD i x)) = l.any p := by
  have h := all_getD (p := fun y => !p y) (x := x) (l := l)
  rw [List.all_eq_not_any_not, List.all_eq_not_any_not] at h
  simpa using h
theorem any_id_map {α : Type} (f : α → Bool) (l : List α) : (l.map f).any id = l.any f := by rw [List.any_map]; rfl
theorem sum01 (f : Nat → Bool) : ∀ n : Nat, ((List.range n).map fun i => if f i = true then (1 : Int) else 0).sum = (((List.range n).filter f).length : Nat)
  | 0 => rfl
  | n + 1 => by
    rw [List.range_succ, List.map_append, List.sum_append, sum01 f n, List.filter_append, List.length_append]
    cases e : f n <;> simp [e]
section
variable {P : Program} {w : World} {K : PySem.W.Frag} {mg : Str → Option Value} {base : Heap} {f : Addr} {fd : FuncData} {C : Addr}
end
end Fp
/-! rows with hands that have no view; rows that are drawn -/
namespace Fp
open PySem PySem.Spec PyProof.Rows L2
abbrev RowO := List (Option (List Int))
structure OkO (n : Nat) (r : RowO) : Prop where
  len : r.length = n
  up : ∀ (i : Nat) (l : List Int), r[i]? = some (some l) → List.Pairwise (· < ·) l
  rng : ∀ (i : Nat) (l : List Int), r[i]? = some (some l) → ∀ x ∈ l, 0 ≤ x ∧ x < n
  self : ∀ (i : Nat) (l : List Int), r[i]? = some (some l) → (i : Int) ∈ l
  cmp : ∀ (i j : Nat) (l m : List Int), r[i]? = some (some l) → r[j]? = some (some m) → (∀ x ∈ l, x ∈ m) ∨ ∀ x ∈ m, x ∈ l
  fit : ∀ (i j : Nat) (l m : List Int), r[i]? = some (some l) → r[j]? = some (some m) → (i : Int) ∈ m → ∀ x ∈ l, x ∈ m
def oD : Option (List Int) → Dt
  | none => .non
  | some l => lotD l
def rowOD (r : RowO) : Dt := .tup (r.map oD)
theorem oD_some {r : RowO} {i : Nat} {l : List Int} (h : r[i]? = some (some l)) : (r.map oD).getD i .non = lotD l ∧ vwAt (r.map oD) i = l := by
  have e : (r.map oD).getD i .non = lotD l := by rw [List.getD_eq_getElem?_getD, List.getElem?_map, h]; rfl
  exact ⟨e, by unfold vwAt; rw [e, lotOf_lotD]⟩
theorem thr_O {r : RowO} {i : Nat} : i ∈ thr (r.map oD) ↔ ∃ l, r[i]? = some (some l) := by
  rw [mem_thr, List.length_map]
  constructor
  · rintro ⟨h1, h2⟩
    rw [List.getD_eq_getElem?_getD, List.getElem?_map, List.getElem?_eq_getElem h1] at h2
    cases e : r[i] with
    | none => rw [e] at h2; cases h2
    | some l => exact ⟨l, by rw [List.getElem?_eq_getElem h1, e]⟩
  · rintro ⟨l, h⟩
    refine ⟨(List.getElem?_eq_some_iff.mp h).1, ?_⟩
    rw [(oD_some h).1]; rfl
theorem okO_at {n : Nat} (hn : 0 < n) {r : RowO} (R : OkO n r) (h : ∃ (i : Nat) (l : List Int), r[i]? = some (some l)) : atB n (rowOD r) = true := by
  rw [← law_row hn]
  unfold rowOD lawRowB
  dsimp only
  rw [Bool.and_eq_true, Bool.and_eq_true, Bool.and_eq_true, decide_eq_true_eq, List.all_eq_true, List.all_eq_true, List.length_map]
  refine ⟨⟨R.len, ?_⟩, fun i hi => ?_, fun i hi => ?_⟩
  · rw [Bool.not_eq_true', List.all_eq_false]
    obtain ⟨i, l, h⟩ := h
    exact ⟨lotD l, List.mem_map.mpr ⟨some l, List.mem_of_getElem? h, rfl⟩, by simp [lotD, Dt.isNon]⟩
  · obtain ⟨l, h⟩ := thr_O.mp hi
    refine lawVw_iff.mpr ?_
    rw [(oD_some h).1, lotOfB_lotD, lotOf_lotD]
    exact ⟨⟨R.rng i _ h, R.up i _ h⟩, R.self i _ h⟩
  · rw [List.all_eq_true]
    intro j hj
    obtain ⟨l, h⟩ := thr_O.mp hi
    obtain ⟨m, h'⟩ := thr_O.mp hj
    refine pair_iff.mpr ?_
    rw [(oD_some h).2, (oD_some h').2]
    exact ⟨R.cmp i j _ _ h h', R.fit i j _ _ h h'⟩
theorem okO_whole {n : Nat} (hn : 0 < n) {r : RowO} (R : OkO n r) (h : ∀ i, i < n → ∃ l, r[i]? = some (some l)) : wholeB n (rowOD r) = true := by
  unfold wholeB
  rw [okO_at hn R ⟨0, h 0 hn⟩, Bool.true_and, Bool.not_eq_true']
  show (r.map oD).any Dt.isNon = false
  rw [List.any_eq_false]
  intro d hd
  obtain ⟨o, ho, rfl⟩ := List.mem_map.mp hd
  obtain ⟨i, hi⟩ := List.mem_iff_getElem?.mp ho
  obtain ⟨l, hl⟩ := h i (by rw [← R.len]; exact (List.getElem?_eq_some_iff.mp hi).1)
  rw [hi] at hl
  cases hl
  simp [oD, lotD, Dt.isNon]
/-- a row that loses views stays good -/
theorem OkO.less {n : Nat} {r s : RowO} (R : OkO n r) (hl : s.length = n) (h : ∀ (i : Nat) (l : List Int), s[i]? = some (some l) → r[i]? = some (some l)) : OkO n s :=
  ⟨hl, fun i l q => R.up i l (h i l q), fun i l q => R.rng i l (h i l q), fun i l q => R.self i l (h i l q), fun i j l m q q' => R.cmp i j l m (h i l q) (h j m q'), fun i j l m q q' => R.fit i j l m (h i l q) (h j m q')⟩
/-- while a row is drawn: who was seen, and that the views so far are of these -/
structure Drw (n : Nat) (seen left : List Nat) (r : RowO) : Prop where
  ok : OkO n r
  nd : (seen ++ left).Nodup
  lt : ∀ x ∈ seen ++ left, x < n
  sub : ∀ (i : Nat) (l : List Int), r[i]? = some (some l) → ∀ x ∈ l, ∃ a ∈ seen, x = ((a : Nat) : Int)
  has : ∀ i, i ∈ seen ↔ ∃ l, r[i]? = some (some l)
theorem Drw.start {n : Nat} {left : List Nat} (hd : left.Nodup) (lt : ∀ x ∈ left, x < n) : Drw n [] left (List.replicate n none) := by
  have no : ∀ (i : Nat) (l : List Int), (List.replicate n (none : Option (List Int)))[i]? ≠ some (some l) := fun i l h => by
    rw [List.getElem?_replicate] at h
    split at h <;> cases h
  exact ⟨⟨List.length_replicate, fun i l h => (no i l h).elim, fun i l h => (no i l h).elim, fun i l h => (no i l h).elim, fun i j l m h _ => (no i l h).elim, fun i j l m h _ => (no i l h).elim⟩, hd, lt, fun i l h => (no i l h).elim, fun i => ⟨fun h => (by cases h), fun ⟨l, h⟩ => (no i l h).elim⟩⟩
/-- a block of hands gets one view -/
theorem Drw.block {n : Nat} {seen blk left : List Nat} {r s : RowO} {L : List Int} (D : Drw n seen (blk ++ left) r) (hs : s.length = n) (hL : L.Pairwise (· < ·)) (hm : ∀ x : Int, x ∈ L ↔ ∃ a ∈ seen ++ blk, x = ((a : Nat) : Int))
    (h1 : ∀ i ∈ blk, s[i]? = some (some L)) (h2 : ∀ i, i ∉ blk → s[i]? = r[i]?) : Drw n (seen ++ blk) left s := by
  have nd' : ((seen ++ blk) ++ left).Nodup := by rw [List.append_assoc]; exact D.nd
  have lt' : ∀ x ∈ (seen ++ blk) ++ left, x < n := fun x hx => D.lt x (by rw [← List.append_assoc]; exact hx)
  have dis : ∀ i, i ∈ seen → i ∉ blk := fun i hi hb => by
    have := (List.nodup_append.mp (List.nodup_append.mp nd').1).2.2 i hi i hb
    exact this rfl
  have view : ∀ (i : Nat) (l : List Int), s[i]? = some (some l) → (i ∈ blk ∧ l = L) ∨ (i ∉ blk ∧ r[i]? = some (some l)) := fun i l h => by
    by_cases c : i ∈ blk
    · rw [h1 i c] at h
      exact .inl ⟨c, (Option.some.inj (Option.some.inj h)).symm⟩
    · exact .inr ⟨c, (h2 i c) ▸ h⟩
  have old : ∀ (i : Nat) (l : List Int), r[i]? = some (some l) → ∀ x ∈ l, x ∈ L := fun i l h x hx => by
    obtain ⟨a, ha, e⟩ := D.sub i l h x hx
    exact (hm x).mpr ⟨a, List.mem_append_left _ ha, e⟩
  refine ⟨⟨hs, fun i l h => ?_, fun i l h => ?_, fun i l h => ?_, fun i j l m h h' => ?_, fun i j l m h h' hin => ?_⟩, nd', lt', fun i l h => ?_, fun i => ?_⟩
  · rcases view i l h with ⟨_, rfl⟩ | ⟨_, q⟩
    · exact hL
    · exact D.ok.up i l q
  · rcases view i l h with ⟨_, rfl⟩ | ⟨_, q⟩
    · intro x hx
      obtain ⟨a, ha, e⟩ := (hm x).mp hx
      have := lt' a (List.mem_append_left _ ha)
      omega
    · exact D.ok.rng i l q
  · rcases view i l h with ⟨hi, rfl⟩ | ⟨_, q⟩
    · exact (hm _).mpr ⟨i, List.mem_append_right _ hi, rfl⟩
    · exact D.ok.self i l q
  · rcases view i l h with ⟨hi, rfl⟩ | ⟨_, q⟩ <;> rcases view j m h' with ⟨hj, rfl⟩ | ⟨_, q'⟩
    · exact .inl fun x hx => hx
    · exact .inr (old j m q')
    · exact .inl (old i l q)
    · exact D.ok.cmp i j l m q q'
  · rcases view i l h with ⟨hi, rfl⟩ | ⟨_, q⟩ <;> rcases view j m h' with ⟨hj, rfl⟩ | ⟨_, q'⟩
    · exact fun x hx => hx
    · obtain ⟨a, ha, e⟩ := D.sub j m q' _ hin
      have : i = a := by omega
      subst this
      exact absurd hi (dis i ha)
    · exact old i l q
    · exact D.ok.fit i j l m q q' hin
  · rcases view i l h with ⟨_, rfl⟩ | ⟨_, q⟩
    · exact fun x hx => (hm x).mp hx
    · intro x hx
      obtain ⟨a, ha, e⟩ := D.sub i l q x hx
      exact ⟨a, List.mem_append_left _ ha, e⟩
  · rw [List.mem_append, D.has]
    constructor
    · rintro (⟨l, h⟩ | h)
      · by_cases c : i ∈ blk
        · exact ⟨L, h1 i c⟩
        · exact ⟨l, by rw [h2 i c]; exact h⟩
      · exact ⟨L, h1 i h⟩
    · rintro ⟨l, h⟩
      rcases view i l h with ⟨hi, _⟩ | ⟨_, q⟩
      · exact .inr hi
      · exact .inl ⟨l, q⟩
/-- sorted, without doubles -/
theorem srt_lt : ∀ {l : List Int}, l.Pairwise (· ≤ ·) → l.Nodup → l.Pairwise (· < ·)
  | [], _, _ => .nil
  | a :: l, h, d => by
    obtain ⟨h1, h2⟩ := List.pairwise_cons.mp h
    obtain ⟨d1, d2⟩ := List.nodup_cons.mp d
    refine List.pairwise_cons.mpr ⟨fun x hx => ?_, srt_lt h2 d2⟩
    have := h1 x hx
    have ne : a ≠ x := fun e => d1 (by rw [e]; exact hx)
    omega
theorem map_int_nodup {l : List Nat} (h : l.Nodup) : (l.map fun a : Nat => (a : Int)).Nodup := by
  unfold List.Nodup at *
  rw [List.pairwise_map]
  exact h.imp fun h e => h (by omega)
end Fp
namespace Fp
open PySem PySem.Spec PyProof.Rows L2
def spDRow : Sp := fun vs H Q _ => ∃ (p : Addr) (n k : Nat) (wh : Bool), vs = [.ref p, .int n, .bl wh] ∧ 1 ≤ n ∧ n ≤ 5 ∧ k < 100000 ∧ PotAt H p k ∧ ∀ v H' d, But [p] H H' → PotAt H' p (k + 20) → DV H' v d → atB n d = true → (wh = true → wholeB n d = true) → Q v H'
def selF (n : Nat) (S : List Nat) : List Int := (fullL n).filter fun x => S.any fun a => decide (x = (a : Int))
theorem selF_up (n : Nat) (S : List Nat) : (selF n S).Pairwise (· < ·) := (fullL_up n).filter _
theorem selF_mem {n : Nat} {S : List Nat} (h : ∀ a ∈ S, a < n) (x : Int) : x ∈ selF n S ↔ ∃ a ∈ S, x = ((a : Nat) : Int) := by
  unfold selF
  rw [List.mem_filter, List.any_eq_true]
  constructor
  · rintro ⟨_, a, ha, e⟩
    exact ⟨a, ha, of_decide_eq_true e⟩
  · rintro ⟨a, ha, e⟩
    exact ⟨by rw [e]; exact List.mem_map.mpr ⟨a, List.mem_range.mpr (h a ha), rfl⟩, a, ha, decide_eq_true e⟩
theorem selF_eq {n : Nat} {S : List Nat} (h : ∀ a ∈ S, a < n) (hd : S.Nodup) {zs : List Int} (hp : zs.Perm (S.map fun a : Nat => (a : Int))) (hs : zs.Pairwise (· ≤ ·)) : zs = selF n S := by
  refine srt_eq (srt_lt hs (hp.nodup_iff.mpr (map_int_nodup hd))) (selF_up n S) fun x => ?_
  rw [hp.mem_iff, List.mem_map, selF_mem h]
  exact ⟨fun ⟨a, h1, h2⟩ => ⟨a, h1, h2.symm⟩, fun ⟨a, h1, h2⟩ => ⟨a, h1, h2.symm⟩⟩
theorem but_none {p x : Addr} {k : Nat} {H H' : Hp} (g : But [p] H H') (hP : PotAt H' p k) (h : H' x = none) : H x = none ∧ x ≠ p := by
  have ne : x ≠ p := fun z => by
    obtain ⟨a, b, c, e, _⟩ := hP
    rw [z, e] at h; cases h
  cases e : H x with
  | none => exact ⟨rfl, ne⟩
  | some o => rw [g x o (by simpa using ne) e] at h; cases h
theorem pot_sm {H H' : Hp} {p : Addr} {n : Nat} (g : Same H H') (h : PotAt H p n) : PotAt H' p n := by
  obtain ⟨a, b, c, e, r⟩ := h
  exact ⟨a, b, c, g _ _ e, r⟩
theorem but_put {p x : Addr} {H H' : Hp} {o : HO} (g : But [p] H H') (h : H x = none) : But [p] H (upd H' x o) := fun b u nb q => by
  rw [upd_ne (ne_of_none q h)]; exact g b u nb q
theorem pot_put {p x : Addr} {H : Hp} {n : Nat} {o : HO} (h : PotAt H p n) (ne : x ≠ p) : PotAt (upd H x o) p n := by
  obtain ⟨a, b, c, e, r⟩ := h
  exact ⟨a, b, c, by rw [upd_ne (Ne.symm ne)]; exact e, r⟩
abbrev iL (l : List Nat) : List V := l.map fun a : Nat => V.int (a : Int)
theorem rgV_iL (n : Nat) : rgV 0 (n : Int) = iL (List.range n) := by
  unfold rgV iL
  rw [show ((n : Int) - 0).toNat = n by omega]
  exact List.map_congr_left fun i _ => by rw [Int.zero_add]
theorem perm_iL {ys zs : List V} {l : List Nat} (h : (ys ++ zs).Perm (iL l)) : ∃ l1 l2, ys = iL l1 ∧ zs = iL l2 ∧ (l1 ++ l2).Perm l := by
  have nat : ∀ {xs : List V}, (∀ x ∈ xs, ∃ a : Nat, x = .int (a : Int)) → ∃ l, xs = iL l := fun {xs} => by
    induction xs with
    | nil => exact fun _ => ⟨[], rfl⟩
    | cons x r ih =>
      intro hx
      obtain ⟨a, rfl⟩ := hx x List.mem_cons_self
      obtain ⟨l, rfl⟩ := ih fun y hy => hx y (List.mem_cons_of_mem _ hy)
      exact ⟨a :: l, rfl⟩
  have all : ∀ x ∈ ys ++ zs, ∃ a : Nat, x = .int (a : Int) := fun x hx => by
    obtain ⟨a, _, e⟩ := List.mem_map.mp (h.mem_iff.mp hx)
    exact ⟨a, e.symm⟩
  obtain ⟨l1, rfl⟩ := nat fun x hx => all x (List.mem_append_left _ hx)
  obtain ⟨l2, rfl⟩ := nat fun x hx => all x (List.mem_append_right _ hx)
  refine ⟨l1, l2, rfl, rfl, ?_⟩
  have := h.map fun v : V => match v with
    | .int i => i.toNat
    | _ => 0
  unfold iL at this
  rw [← List.map_append, List.map_map, List.map_map] at this
  have e : ∀ m : List Nat, m.map ((fun v : V => match v with
    | .int i => i.toNat
    | _ => 0) ∘ fun a : Nat => V.int (a : Int)) = m := fun m => (List.map_congr_left fun a _ => by show ((a : Int)).toNat = a; omega).trans (List.map_id m)
  rw [e, e] at this
  exact this
theorem dvs_non (H : Hp) : ∀ n : Nat, DVs H (List.replicate n .non) (List.replicate n .non)
  | 0 => .nil
  | n + 1 => .cons .non (dvs_non H n)
theorem ixN_nat {n h : Nat} (hh : h < n) : ixN n (h : Int) = some h := by
  unfold ixN
  rw [if_pos (by omega), if_pos (by omega)] <;> simp
section
variable {P : Program} {w : World} {K : PySem.W.Frag} {mg : Str → Option Value} {base : Heap} {f : Addr} {fd : FuncData} {C : Addr}
abbrev s_law_drawn_row : Stmt := top 41
theorem sc_law_drawn_row : FnScope ["pot", "many", "is_whole_v", "few", "left", "seen", "row", "lap", "block", "hand", "there"] ["pot", "many", "is_whole_v"] (defScope s_law_drawn_row) := ⟨rfl, rfl, rfl, by decide +kernel, rfl, by decide +kernel, by decide +kernel⟩
theorem ok_law_drawn_row (F : Fun K "_law_drawn_row" "_law_drawn_row" s_law_drawn_row f fd) (T : RTx mg) (G_law_take : Fd P w K mg base CX0 "_law_take" 1 ["pot", "upto"] spTake) (G_law_some : Fd P w K mg base CX0 "_law_some" 2 ["pot", "pool", "many"] (spSome K)) : FnOk P w K mg base CX0 3 f fd ["pot", "many", "is_whole_v"] spDRow := by
  refine F.ok sc_law_drawn_row (fun vs H Q E h => ?_) (fun cdv A outer s H vs Q E hr h => ?_)
  · obtain ⟨p, n, k, wh, rfl, _⟩ := h
    rfl
  obtain ⟨p, n, k, wh, rfl, h1, h5, hk, hP, q⟩ := h
  refine ⟨_, (pss_cons (ps_set (i := 3) sc_law_drawn_row.nd rfl (Or.inl rfl) (pe_mid (pe_ifExp (pt_truth (pv 2) (by intro _; rfl)) (pv 1) (pe_op op_add pe_int (pe_fd G_law_take (hr.mono (by first | decide | omega)) rfl (pa_cons (pv 0) (pa_cons (pv 1) pa_nil)))))))
  (pss_cons (ps_asg (pe_tup (pa_cons (pe_fd G_law_some (hr.mono (by first | decide | omega)) rfl (pa_cons (pv 0) (pa_cons (pe_listRg rfl rfl T.list (prg_1 rfl T.range (pv 1))) (pa_cons (pv 3) pa_nil)))) (pa_cons (pe_lst pa_nil) (pa_cons (pe_op op_rep (pe_lst (pa_cons pe_non pa_nil)) (pv 1)) pa_nil)))) (pg_tup rfl (pgs_cons (pg_name (i := 4) sc_law_drawn_row.nd rfl (Or.inl rfl)) (pgs_cons (pg_name (i := 5) sc_law_drawn_row.nd rfl (Or.inl rfl)) (pgs_cons (pg_name (i := 6) sc_law_drawn_row.nd rfl (Or.inr rfl)) pgs_nil)))))
  (pss_cons (ps_for PassesOwn.never rfl (pi_range1 rfl T.range (pa_cons (pv 1) pa_nil)) (pg_name (i := 7) sc_law_drawn_row.nd rfl (Or.inl rfl)) (pss_cons (ps_set (i := 8) sc_law_drawn_row.nd rfl (Or.inl rfl) (pe_slice sl_list (pv 4) po_none (po_some (pe_op op_add pe_int (pe_fd G_law_take (hr.mono (by first | decide | omega)) rfl (pa_cons (pv 0) (pa_cons (pe_callB (call_max2 rfl) rfl T.max (by decide +kernel) (pa_cons pe_int (pa_cons (pe_callB call_len rfl T.len (by decide +kernel) (pa_cons (pv 4) pa_nil)) pa_nil))) pa_nil)))))))
  (pss_cons (ps_par (i := 4) (j := 5) (by rfl) sc_law_drawn_row.nd rfl rfl (by decide) rfl rfl (pa_cons (pe_slice sl_list (pv 4) (po_some (pe_callB call_len rfl T.len (by decide +kernel) (pa_cons (pv 8) pa_nil))) po_none) (pa_cons (pe_op op_cat (pv 5) (pv 8)) pa_nil)) (by rfl))
  (pss_one (ps_for PassesOwn.never rfl (pi_list (pv 8)) (pg_name (i := 9) sc_law_drawn_row.nd rfl (Or.inl rfl)) (pss_one (ps_asg (pe_callTy call_tuple_of rfl T.tuple (by decide +kernel) (pa_cons (pe_callB cr_sorted rfl T.sorted (by decide +kernel) (pa_cons (pv 5) pa_nil)) pa_nil)) (pg_sub (pv 6) (pv 9) set_list))))))))
  (pss_cons (ps_setLc (i := 10) (own := [("hand", 9)]) (g := (gName 9))  rfl sc_law_drawn_row.nd rfl rfl (sw_true rfl rfl rfl (by decide +kernel)) (pi_range1 rfl T.range (pa_cons (pv 1) pa_nil)) (blkOk_by (own := [("hand", 9)]) (N := ["pot", "many", "is_whole_v", "few", "left", "seen", "row", "lap", "block", "hand", "there"]) (sc := defScope s_law_drawn_row) (by decide +kernel)) (fun _ _ _ _ _ => (pg_name (i := 9) sc_law_drawn_row.nd rfl (Or.inl rfl))) (fun _ _ _ _ _ => (pts_one (pt_cmpR op_notN (pe_ix ix_listK (pv 6) (pv 9) (fun _ _ => rfl)) pe_non (nomark _)))) (fun _ _ _ _ _ => (pv 9)))
  (pss_cons (ps_for PassesOwn.never rfl (pi_list (pe_mid (pe_ifExp (pt_truth (pv 2) (by intro _; rfl)) (pe_lst pa_nil) (pe_fd G_law_some (hr.mono (by first | decide | omega)) rfl (pa_cons (pv 0) (pa_cons (pv 10) (pa_cons (pe_fd G_law_take (hr.mono (by first | decide | omega)) rfl (pa_cons (pv 0) (pa_cons (pe_callB call_len rfl T.len (by decide +kernel) (pa_cons (pv 10) pa_nil)) pa_nil))) pa_nil))))))) (pg_name (i := 9) sc_law_drawn_row.nd rfl (Or.inl rfl)) (pss_one (ps_asg pe_non (pg_sub (pv 6) (pv 9) set_list))))
  (pss_one (ps_ret (pe_callTy call_tuple_of rfl T.tuple (by decide +kernel) (pa_cons (pv 6) pa_nil))))))))), ?_⟩
  refine ⟨fun v H' => ∃ m : Nat, v = .int m ∧ 1 ≤ m ∧ m ≤ n ∧ (wh = true → m = n) ∧ But [p] H H' ∧ PotAt H' p (k + 1), ?_, ?_⟩
  · refine ⟨_, rfl, wh, rfl, ite2 (fun c => ⟨_, rfl, n, rfl, h1, Nat.le_refl _, fun _ => rfl, But.refl _ _, hP.mono (by omega)⟩) (fun c => ?_)⟩
    refine ⟨_, rfl, _, rfl, p, n, k, rfl, by omega, by omega, by omega, hP, fun d H' hd g hp => ⟨_, _, rfl, rfl, d + 1, ?_, by omega, by omega, fun z => absurd z c, g, hp⟩⟩
    show V.int (1 + (d : Int)) = V.int ((d + 1 : Nat) : Int)
    congr 1
    omega
  rintro y H1 ⟨m, rfl, hm1, hmn, hwm, g1, hP1⟩
  refine g_set ?_
  refine nx_in ?_
  refine seq_in ?_
  refine ⟨_, rfl, _, rfl, n, rfl, .of_le (by omega) (by omega) (by omega) (by omega), fun rg nrg => ?_⟩
  have s1 := same_new nrg (.lst (rgV 0 (n : Int)))
  have hP2 := pot_sm s1 hP1
  refine ⟨_, rfl, p, rg, rgV 0 (n : Int), m, k + 1, rfl, .inl (.of upd_same), by rw [rgV_length]; omega, by rw [rgV_length]; omega, by omega, hP2, fun l ys zs H2 hyl hperm nl hl g2 hP3 => ?_⟩
  rw [rgV_iL] at hperm
  obtain ⟨left0, dropped, rfl, rfl, hpm⟩ := perm_iL hperm
  have gA : But [p] H H2 := (g1.trans (.of s1)).trans g2
  have nlP := but_none ((g1.trans (.of s1))) hP2 nl
  refine ⟨szl (by show 0 ≤ _; decide), fun sn0 nsn0 => ⟨szl (by show 1 ≤ _; decide), fun r1 nr1 => ⟨_, rfl, r1, n, [.non], rfl, rfl, upd_same, by omega, by omega, szl (by show 1 * n ≤ _; omega), fun rw nrw => ?_⟩⟩⟩
  have erep : (List.replicate (n : Int).toNat [V.non]).flatten = List.replicate n V.non := by
    rw [Int.toNat_natCast]
    simp
  rw [erep]
  have s2 := same_new nsn0 (.lst [])
  have s3 := same_new nr1 (.lst [.non])
  have s4 := same_new nrw (.lst (List.replicate n V.non))
  have hPA : PotAt H2 p (k + 6) := hP3.mono (by omega)
  have nsn := but_none gA hPA nsn0
  have nrw' := but_none (gA.trans (.of (s2.trans s3))) (pot_sm (s2.trans s3) hPA) nrw
  have hl4 := s4 _ _ (s3 _ _ (s2 _ _ hl))
  have hsn4 := s4 _ _ (s3 _ _ (upd_same (H := H2) (a := sn0) (o := .lst [])))
  have hrw4 : upd (upd (upd H2 sn0 (.lst [])) r1 (.lst [.non])) rw (.lst (List.replicate n V.non)) rw = some (.lst (List.replicate n V.non)) := upd_same
  have rwl : rw ≠ l := Ne.symm (ne_of_none (s3 _ _ (s2 _ _ hl)) nrw)
  have rwsn : rw ≠ sn0 := Ne.symm (ne_of_none (s3 _ _ (upd_same (H := H2) (a := sn0) (o := .lst []))) nrw)
  have gB : But [p] H _ := gA.trans (.of ((s2.trans s3).trans s4))
  have hPB := pot_sm ((s2.trans s3).trans s4) hPA
  generalize upd (upd (upd H2 sn0 (.lst [])) r1 (.lst [.non])) rw (.lst (List.replicate n V.non)) = H4 at hl4 hsn4 hrw4 gB hPB ⊢
  refine ⟨szl (by show 3 ≤ _; decide), fun t3 nt3 => ⟨t3, _, rfl, .of upd_same, rfl, _, _, rfl, _, _, rfl, _, _, rfl, rfl, ?_⟩⟩
  have s5 := same_new nt3 (.tup [.ref l, .ref sn0, .ref rw])
  refine nx_in ?_
  refine seq_in ?_
  have hlen0 : left0.length = m := by rw [← hyl]; exact (List.length_map _).symm
  have nd0 : (left0 ++ dropped).Nodup := hpm.nodup_iff.mpr List.nodup_range
  have lt0 : ∀ x ∈ left0, x < n := fun x hx => List.mem_range.mp (hpm.mem_iff.mp (List.mem_append_left _ hx))
  refine ⟨_, rfl, (n : Int), rfl, by omega, by omega, for_range (lo := 0) (n := n) (fun i σ H' => ∃ (lf sn : Addr) (u7 u8 u9 : Option V) (seen left : List Nat) (r : RowO) (vs : List V), σ = [some (.ref p), some (.int n), some (.bl wh), some (.int m), some (.ref lf), some (.ref sn), some (.ref rw), u7, u8, u9, none] ∧ But [p] H H' ∧ PotAt H' p (k + 6 + i) ∧ rw ≠ lf ∧ rw ≠ sn ∧ lf ≠ p ∧ sn ≠ p ∧
    H' lf = some (.lst (iL left)) ∧ H' sn = some (.lst (iL seen)) ∧ H' rw = some (.lst vs) ∧ DVs H' vs (r.map oD) ∧ Drw n seen left r ∧ seen.length + left.length = m ∧ left.length ≤ m - i) ?_ ?_ ?_⟩
  · refine ⟨l, sn0, none, none, none, [], left0, List.replicate n none, List.replicate n .non, rfl, gB.trans (.of s5), pot_sm s5 hPB, rwl, rwsn, nlP.2, nsn.2, s5 _ _ hl4, s5 _ _ hsn4, s5 _ _ hrw4, ?_, Drw.start (List.nodup_append.mp nd0).1 lt0, by rw [hlen0]; exact Nat.zero_add _, by rw [hlen0]; omega⟩
    rw [List.map_replicate]
    exact dvs_non _ n
  · rintro i σ H5 hi ⟨lf, sn, u7, u8, u9, seen, left, r, vs, rfl, g5, hP5, rwlf, rwsn, lfp, snp, hlf, hsn, hrw, hvs, D, hsl, hll⟩
    refine g_set ?_
    refine seq_in ?_
    refine ⟨_, rfl, ?_⟩
    refine noP_in ?_
    refine ⟨_, rfl, _, rfl, _, (iL left).length, rfl, .inl ⟨_, .of hlf, rfl⟩, _, _, rfl, p, _, k + 6 + i, rfl, ?_, ?_, by omega, hP5, fun d H6 hd g6 hP6 => ?_⟩
    · split <;> omega
    · rw [List.length_map]
      have : left.length ≤ 5 := by omega
      split <;> omega
    have hlf6 := g6 _ _ (by simpa using lfp) hlf
    refine ⟨_, _, rfl, rfl, _, rfl, lf, _, rfl, .of hlf6, fun bk nbk => ?_⟩
    have s7 := same_new nbk (.lst (cutV (iL left) none (some (1 + (d : Int)))))
    have eblk : cutV (iL left) none (some (1 + (d : Int))) = iL (left.take (d + 1)) := by
      rw [show (1 + (d : Int)) = ((d + 1 : Nat) : Int) by omega, cutA_to, ← List.map_take]
    rw [eblk] at s7 ⊢
    generalize hblk : left.take (d + 1) = blk at s7 ⊢
    have hspl : left = blk ++ left.drop blk.length := by
      rw [← hblk, List.length_take]
      rcases Nat.le_total (d + 1) left.length with z | z
      · rw [Nat.min_eq_left z, List.take_append_drop]
      · rw [Nat.min_eq_right z, List.take_of_length_le z, List.drop_length, List.append_nil]
    have hbl : 0 < left.length → 0 < blk.length := fun z => by rw [← hblk, List.length_take]; omega
    generalize hrest : left.drop blk.length = rest at hspl
    have hll2 : left.length = blk.length + rest.length := by rw [hspl, List.length_append]
    have g7 := g5.trans (g6.trans (.of s7))
    have nbk' := but_none (g5.trans g6) hP6 nbk
    have hP7 := pot_sm s7 hP6
    have rwp : rw ≠ p := nrw'.2
    have rwbk : rw ≠ bk := ne_of_none (g6 _ _ (by simpa using rwp) hrw) nbk
    have hlf7 := s7 _ _ hlf6
    have hsn7 := s7 _ _ (g6 _ _ (by simpa using snp) hsn)
    have hrw7 := s7 _ _ (g6 _ _ (by simpa using rwp) hrw)
    have hvs7 := (hvs.kd (.pot g6 hP5 hP6)).same s7
    have hbk7 : upd H6 bk (.lst (iL blk)) bk = some (.lst (iL blk)) := upd_same
    generalize upd H6 bk (.lst (iL blk)) = H7 at hlf7 hsn7 hrw7 hvs7 hbk7 g7 hP7 ⊢
    refine g_set ?_
    refine nx_in ?_
    refine seq_in ?_
    refine ⟨_, rfl, _, rfl, _, (iL blk).length, rfl, .inl ⟨_, .of hbk7, rfl⟩, _, rfl, ?_⟩
    refine noP_in ?_
    refine ⟨lf, _, rfl, .of hlf7, fun lf2 nlf2 => ?_⟩
    have erst : cutV (iL left) (some (((iL blk).length : Nat) : Int)) none = iL rest := by
      rw [cutA_from, List.length_map, ← List.map_drop, hrest]
    rw [erst]
    have s8 := same_new nlf2 (.lst (iL rest))
    refine ⟨_, rfl, _, rfl, sn, bk, _, _, rfl, rfl, s8 _ _ hsn7, s8 _ _ hbk7, szl (by rw [List.length_map, List.length_map]; omega), fun sn2 nsn2 => ?_⟩
    have ecat : iL seen ++ iL blk = iL (seen ++ blk) := List.map_append.symm
    rw [ecat]
    have s9 := same_new nsn2 (.lst (iL (seen ++ blk)))
    have nlf2' := but_none g7 hP7 nlf2
    have nsn2' := but_none (g7.trans (.of s8)) (pot_sm s8 hP7) nsn2
    have rwlf2 : rw ≠ lf2 := ne_of_none hrw7 nlf2
    have rwsn2 : rw ≠ sn2 := ne_of_none (s8 _ _ hrw7) nsn2
    have g9 := g7.trans (.of (s8.trans s9))
    have hP9 := pot_sm (s8.trans s9) hP7
    have hlf9 := s9 _ _ (upd_same (H := H7) (a := lf2) (o := .lst (iL rest)))
    have hbk9 := s9 _ _ (s8 _ _ hbk7)
    have hrw9 := s9 _ _ (s8 _ _ hrw7)
    have hvs9 := hvs7.same (s8.trans s9)
    have hsn9 : upd (upd H7 lf2 (.lst (iL rest))) sn2 (.lst (iL (seen ++ blk))) sn2 = some (.lst (iL (seen ++ blk))) := upd_same
    generalize upd (upd H7 lf2 (.lst (iL rest))) sn2 (.lst (iL (seen ++ blk))) = H9 at hlf9 hbk9 hrw9 hvs9 hsn9 g9 hP9 ⊢
    refine ⟨_, _, rfl, ?_⟩
    have D' : Drw n seen (blk ++ rest) r := by rw [← hspl]; exact D
    have nd' : (seen ++ blk).Nodup := by
      have := D'.nd
      rw [← List.append_assoc] at this
      exact (List.nodup_append.mp this).1
    have lt' : ∀ x ∈ seen ++ blk, x < n := fun x hx => D'.lt x (by rw [← List.append_assoc]; exact List.mem_append_left _ hx)
    have hsb : (seen ++ blk).length ≤ 5 := by rw [List.length_append]; omega
    refine nx_in ?_
    refine ⟨_, rfl, bk, rfl, ⟨_, .of hbk9⟩, for_list (K := K) (a := bk) (xs := iL blk) (fun t σ H' => ∃ (u9 : Option V) (rt : RowO) (vt : List V), σ = [some (.ref p), some (.int n), some (.bl wh), some (.int m), some (.ref lf2), some (.ref sn2), some (.ref rw), some (.int (0 + (i : Nat))), some (.ref bk), u9, none] ∧ But [p] H H' ∧ PotAt H' p (k + 6 + i + 1) ∧
      H' bk = some (.lst (iL blk)) ∧ H' lf2 = some (.lst (iL rest)) ∧ H' sn2 = some (.lst (iL (seen ++ blk))) ∧ H' rw = some (.lst vt) ∧ DVs H' vt (rt.map oD) ∧ rt.length = n ∧ (∀ j ∈ blk.take t, rt[j]? = some (some (selF n (seen ++ blk)))) ∧ ∀ j, j ∉ blk.take t → rt[j]? = r[j]?) ?_ ?_ ?_ ?_⟩
    · exact ⟨_, r, vs, rfl, g9, hP9, hbk9, hlf9, hsn9, hrw9, hvs9, D.ok.len, fun j hj => (by cases hj), fun _ _ => rfl⟩
    · rintro t σ H' ht ⟨u9, rt, vt, rfl, _, _, h, _⟩
      exact .of h
    · rintro t x σ H10 hx ⟨u9, rt, vt, rfl, g10, hP10, hbk10, hlf10, hsn10, hrw10, hvt, hrl, hin, hout⟩
      rw [List.getElem?_map] at hx
      obtain ⟨h, hh, rfl⟩ := Option.map_eq_some_iff.mp hx
      have hhb := List.mem_of_getElem? hh
      have hhn : h < n := lt' h (List.mem_append_right _ hhb)
      refine g_set ?_
      refine ⟨_, rfl, sn2, (seen ++ blk).map fun a : Nat => (a : Int), rfl, .of (by rw [hsn10, List.map_map]; rfl), by rw [List.length_map]; omega, fun zs q1 hzp hzs nq1 => ?_⟩
      have ez := selF_eq lt' nd' hzp hzs
      subst ez
      have s11 := same_new nq1 (.lst ((selF n (seen ++ blk)).map V.int))
      refine ⟨q1, _, rfl, .inl ⟨.of upd_same, fun tp ntp => ?_⟩⟩
      have s12 := same_new ntp (.tup ((selF n (seen ++ blk)).map V.int))
      have s := s11.trans s12
      have hrw12 := s _ _ hrw10
      have hvl : vt.length = n := by rw [hvt.len, List.length_map, hrl]
      refine ⟨_, rfl, _, rfl, rw, vt, _, h, rfl, rfl, hrw12, by rw [hvl]; exact ixN_nat hhn, ?_⟩
      have hLl : (selF n (seen ++ blk)).length ≤ 1000 := by
        have := hzp.length_eq
        rw [List.length_map] at this
        omega
      have dl : DV (upd (upd H10 q1 (.lst ((selF n (seen ++ blk)).map V.int))) tp (.tup ((selF n (seen ++ blk)).map V.int))) (.ref tp) (lotD (selF n (seen ++ blk))) := .tup upd_same (dvs_ints _ _) (by rw [List.length_map]; exact hLl)
      have kp := DKp.put (ys := vt.set h (.ref tp)) hrw12
      refine ⟨_, rt.set h (some (selF n (seen ++ blk))), _, rfl, but_put (g10.trans (.of s)) nrw'.1, pot_put (pot_sm s hP10) rwp, by rw [upd_ne (Ne.symm rwbk)]; exact s _ _ hbk10, by rw [upd_ne (Ne.symm rwlf2)]; exact s _ _ hlf10, by rw [upd_ne (Ne.symm rwsn2)]; exact s _ _ hsn10, upd_same, ?_, by rw [List.length_set]; exact hrl, fun j hj => ?_, fun j hj => ?_⟩
      · rw [List.map_set]
        exact DVs.set (dl.kd kp) ((hvt.same s).kd kp)
      · rw [List.take_add_one, hh, Option.toList_some, List.mem_append, List.mem_singleton] at hj
        by_cases e : h = j
        · subst e
          rw [List.getElem?_set_self (by rw [hrl]; exact hhn)]
        · rw [List.getElem?_set_ne e]
          exact hin j (hj.resolve_right (fun z => e z.symm))
      · rw [List.take_add_one, hh, Option.toList_some, List.mem_append, List.mem_singleton] at hj
        have e : h ≠ j := fun z => hj (.inr z.symm)
        rw [List.getElem?_set_ne e]
        exact hout j fun z => hj (.inl z)
    · rintro σ H10 ⟨u9, rt, vt, rfl, g10, hP10, hbk10, hlf10, hsn10, hrw10, hvt, hrl, hin, hout⟩
      have et : blk.take (iL blk).length = blk := by rw [List.length_map, List.take_length]
      rw [et] at hin hout
      have D2 := Drw.block (s := rt) (L := selF n (seen ++ blk)) D' hrl (selF_up _ _) (selF_mem lt') hin hout
      refine ⟨lf2, sn2, _, _, _, seen ++ blk, rest, rt, vt, rfl, g10, hP10, rwlf2, rwsn2, nlf2'.2, nsn2'.2, hlf10, hsn10, hrw10, hvt, D2, by rw [List.length_append]; omega, ?_⟩
      by_cases z : 0 < left.length
      · have := hbl z
        omega
      · omega
  · rintro σ H5 ⟨lf, sn, u7, u8, u9, seen, left, r, vs, rfl, g5, hP5, _, _, _, _, _, _, hrw, hvs, D, hsl, hll⟩
    have rwp : rw ≠ p := nrw'.2
    have hvl : vs.length = n := by rw [hvs.len, List.length_map, D.ok.len]
    refine nx_in ?_
    refine seq_in ?_
    refine ⟨_, rfl, (n : Int), rfl, by omega, by omega, fun DD hDD => ?_⟩
    refine lc_it (walk_range (lo := 0) (n := n)) (fun i H' => Same H5 H' ∧ H' DD = some (.lst (iL ((List.range i).filter fun j => (r.getD j none).isSome)))) ⟨same_new hDD _, upd_same⟩ (fun _ _ _ _ => True.intro) ?_ ?_
    · rintro i x H6 H7 hi ⟨g6, h6⟩ ⟨rfl, rfl⟩
      have hirr : i < r.length := by rw [D.ok.len]; exact hi
      have hri : r[i]? = some r[i] := List.getElem?_eq_getElem hirr
      obtain ⟨v, hv, dv⟩ := DVs.get hvs (show (r.map oD)[i]? = some (oD r[i]) by rw [List.getElem?_map, hri]; rfl)
      have en := dv.non_iff
      have eg : r.getD i none = r[i] := by rw [List.getD_eq_getElem?_getD, hri]; rfl
      have fl : ((List.range i).filter fun j => (r.getD j none).isSome).length ≤ i := Nat.le_trans (List.length_filter_le _ _) (by rw [List.length_range]; exact Nat.le_refl _)
      refine ⟨rfl, _, rfl, _, rfl, rw, vs, _, v, rfl, rfl, .of (g6 _ _ hrw), (by rw [Int.zero_add]; exact atI_nat hv), rfl, _, rfl, ?_⟩
      cases e : r[i] with
      | none =>
        rw [e] at en eg
        refine ite_no (by rw [en]; rfl) ⟨g6, ?_⟩
        rw [h6, List.range_succ, List.filter_append, List.filter_cons, eg]
        simp
      | some L =>
        rw [e] at en eg
        refine ite_yes (by rw [en]; rfl) ⟨_, rfl, _, h6, szt (by rw [List.length_map]; omega), fun o u ho => ?_, ?_⟩
        · rw [upd_ne (ne_of_none ho hDD)]; exact g6 _ _ ho
        · rw [upd_same, List.range_succ, List.filter_append, List.filter_cons, eg]
          show some (HO.lst (iL _ ++ [V.int (0 + (i : Int))])) = some (HO.lst (iL (_ ++ [i])))
          rw [Int.zero_add]
          unfold iL
          rw [List.map_append]; rfl
    rintro H6 ⟨g6, h6⟩
    generalize hth : ((List.range n).filter fun j => (r.getD j none).isSome) = th at h6
    have thm : ∀ j, j ∈ th ↔ j < n ∧ ∃ L, r[j]? = some (some L) := fun j => by
      rw [← hth, List.mem_filter, List.mem_range]
      constructor
      · rintro ⟨a, b⟩
        refine ⟨a, ?_⟩
        have hjrr : j < r.length := by rw [D.ok.len]; exact a
        have hri : r[j]? = some r[j] := List.getElem?_eq_getElem hjrr
        rw [List.getD_eq_getElem?_getD, hri] at b
        cases e : r[j] with
        | none => rw [e] at b; cases b
        | some L => exact ⟨L, by rw [hri, e]⟩
      · rintro ⟨a, L, b⟩
        exact ⟨a, by rw [List.getD_eq_getElem?_getD, b]; rfl⟩
    have thn : th.Nodup := by rw [← hth]; exact List.Pairwise.filter _ List.nodup_range
    have thl : th.length ≤ 5 := by
      rw [← hth]
      exact Nat.le_trans (List.length_filter_le _ _) (by rw [List.length_range]; exact h5)
    have hth0 : 0 < th.length := by
      cases seen with
      | nil => simp at hsl; omega
      | cons a b =>
        have ha : a ∈ a :: b := List.mem_cons_self
        exact List.length_pos_of_mem ((thm a).mpr ⟨D.lt a (List.mem_append_left _ ha), (D.has a).mp ha⟩)
    have g56 := g5.trans (.of g6)
    have hP6 := pot_sm g6 hP5
    have nDD := but_none g5 hP5 hDD
    have hrw6 := g6 _ _ hrw
    have hvs6 := hvs.same g6
    refine g_set ?_
    refine nx_in ?_
    refine seq_in ?_
    refine ⟨fun y H' => ∃ (zl : Addr) (zs : List Nat), y = .ref zl ∧ H' zl = some (.lst (iL zs)) ∧ (∀ x ∈ zs, x ∈ th) ∧ zs.length < th.length ∧ (wh = true → zs = []) ∧ But [p] H H' ∧ PotAt H' p (k + 20) ∧ rw ≠ zl ∧ H' rw = some (.lst vs) ∧ DVs H' vs (r.map oD), ?_, ?_⟩
    · refine ⟨_, rfl, wh, rfl, ite2 (fun c => ?_) (fun c => ?_)⟩
      · refine ⟨szl (by show 0 ≤ _; decide), fun zl nzl => ?_⟩
        have s7 := same_new nzl (.lst [])
        exact ⟨zl, [], rfl, upd_same, fun x hx => (by cases hx), hth0, fun _ => rfl, g56.trans (.of s7), (pot_sm s7 hP6).mono (by omega), ne_of_none hrw6 nzl, s7 _ _ hrw6, hvs6.same s7⟩
      · refine ⟨_, rfl, _, rfl, _, rfl, _, rfl, _, (iL th).length, rfl, .inl ⟨_, .of h6, rfl⟩, p, _, k + 6 + n, rfl, ?_, ?_, by omega, hP6, fun d H7 hd g7 hP7 => ?_⟩
        · rw [List.length_map]; omega
        · rw [List.length_map]; omega
        rw [List.length_map] at hd
        have h7 := g7 _ _ (by simpa using nDD.2) h6
        refine ⟨p, DD, iL th, d, k + 6 + n + 1, rfl, .inl (.of h7), by rw [List.length_map]; omega, by rw [List.length_map]; omega, by omega, hP7, fun zl ys zs H8 hyl hzp nzl hzl g8 hP8 => ?_⟩
        obtain ⟨y1, z1, rfl, rfl, hpz⟩ := perm_iL hzp
        have hrw7 := g7 _ _ (by simpa using rwp) hrw6
        have hvs7 := hvs6.kd (.pot g7 hP6 hP7)
        refine ⟨zl, y1, rfl, hzl, fun x hx => hpz.mem_iff.mp (List.mem_append_left _ hx), ?_, fun z => absurd z c, (g56.trans g7).trans g8, hP8.mono (by omega), ne_of_none hrw7 nzl, g8 _ _ (by simpa using rwp) hrw7, hvs7.kd (.pot g8 hP7 hP8)⟩
        rw [List.length_map] at hyl
        omega
    rintro y H7 ⟨zl, zs, rfl, hzl, hzth, hzlen, hwz, g7, hP7, rwzl, hrw7, hvs7⟩
    refine ⟨zl, rfl, ⟨_, .of hzl⟩, for_list (K := K) (a := zl) (xs := iL zs) (fun t σ H' => ∃ (u9 : Option V) (rt : RowO) (vt : List V), σ = [some (.ref p), some (.int n), some (.bl wh), some (.int m), some (.ref lf), some (.ref sn), some (.ref rw), u7, u8, u9, some (.ref DD)] ∧ But [p] H H' ∧ PotAt H' p (k + 20) ∧
      H' zl = some (.lst (iL zs)) ∧ H' rw = some (.lst vt) ∧ DVs H' vt (rt.map oD) ∧ rt.length = n ∧ (∀ j ∈ zs.take t, rt[j]? = some none) ∧ ∀ j, j ∉ zs.take t → rt[j]? = r[j]?) ?_ ?_ ?_ ?_⟩
    · exact ⟨_, r, vs, rfl, g7, hP7, hzl, hrw7, hvs7, D.ok.len, fun j hj => (by cases hj), fun _ _ => rfl⟩
    · rintro t σ H' ht ⟨u9, rt, vt, rfl, _, _, h, _⟩
      exact .of h
    · rintro t x σ H8 hx ⟨u9, rt, vt, rfl, g8, hP8, hzl8, hrw8, hvt, hrl, hin, hout⟩
      rw [List.getElem?_map] at hx
      obtain ⟨h, hh, rfl⟩ := Option.map_eq_some_iff.mp hx
      have hhn : h < n := ((thm h).mp (hzth h (List.mem_of_getElem? hh))).1
      have hvl : vt.length = n := by rw [hvt.len, List.length_map, hrl]
      refine g_set ?_
      refine ⟨_, rfl, _, rfl, rw, vt, _, h, rfl, rfl, hrw8, by rw [hvl]; exact ixN_nat hhn, ?_⟩
      have kp := DKp.put (ys := vt.set h .non) hrw8
      refine ⟨_, rt.set h none, _, rfl, but_put g8 nrw'.1, pot_put hP8 rwp, by rw [upd_ne (Ne.symm rwzl)]; exact hzl8, upd_same, ?_, by rw [List.length_set]; exact hrl, fun j hj => ?_, fun j hj => ?_⟩
      · rw [List.map_set]
        exact DVs.set DV.non (hvt.kd kp)
      · rw [List.take_add_one, hh, Option.toList_some, List.mem_append, List.mem_singleton] at hj
        by_cases e : h = j
        · subst e
          rw [List.getElem?_set_self (by rw [hrl]; exact hhn)]
        · rw [List.getElem?_set_ne e]
          exact hin j (hj.resolve_right (fun z => e z.symm))
      · rw [List.take_add_one, hh, Option.toList_some, List.mem_append, List.mem_singleton] at hj
        have e : h ≠ j := fun z => hj (.inr z.symm)
        rw [List.getElem?_set_ne e]
        exact hout j fun z => hj (.inl z)
    · rintro σ H8 ⟨u9, rt, vt, rfl, g8, hP8, hzl8, hrw8, hvt, hrl, hin, hout⟩
      have et : zs.take (iL zs).length = zs := by rw [List.length_map, List.take_length]
      rw [et] at hin hout
      refine nx_in ?_
      refine ret_in ?_
      refine ⟨_, rfl, rw, _, rfl, .inl ⟨.of hrw8, fun tp ntp => ?_⟩⟩
      have s9 := same_new ntp (.tup vt)
      have O : OkO n rt := D.ok.less hrl fun i L h => by
        by_cases c : i ∈ zs
        · rw [hin i c] at h; cases h
        · rw [hout i c] at h; exact h
      have h1' : 0 < n := h1
      refine q _ _ (rowOD rt) (g8.trans (.of s9)) (pot_sm s9 hP8) (.tup upd_same (hvt.same s9) (by rw [List.length_map]; omega)) (okO_at h1' O ?_) fun z => okO_whole h1' O fun i hi => ?_
      · have : ∃ j ∈ th, j ∉ zs := Classical.byContradiction fun c => by
          have := nodup_le thn fun x hx => Classical.byContradiction fun c2 => c ⟨x, hx, c2⟩
          omega
        obtain ⟨j, hj, hjz⟩ := this
        obtain ⟨_, L, hL⟩ := (thm j).mp hj
        exact ⟨j, L, by rw [hout j hjz]; exact hL⟩
      · have hm := hwm z
        have hsn : seen.length = n := by omega
        have his : i ∈ seen := Classical.byContradiction fun c => by
          have nds := (List.nodup_append.mp D.nd).1
          have := nodup_le (l := i :: seen) (m := List.range n) (List.nodup_cons.mpr ⟨c, nds⟩) fun x hx => by
            rcases List.mem_cons.mp hx with e | e
            · rw [e]; exact List.mem_range.mpr hi
            · exact List.mem_range.mpr (D.lt x (List.mem_append_left _ e))
          rw [List.length_cons, List.length_range] at this
          omega
        obtain ⟨L, hL⟩ := (D.has i).mp his
        exact ⟨L, by rw [hout i (by rw [hwz z]; simp)]; exact hL⟩
end
end Fp
/-! errors of the program's own classes, whose __init__ (a base's) keeps its only argument as value: made and raised -/
namespace Fp
open PySem PySem.Spec PyProof.Rows L2
/-- HandError.__init__: self.value = value -/
def spHInit (K : PySem.W.Frag) : Sp := fun vs H Q _ => ∃ (a C : Addr) (v : V), vs = [.ref a, v] ∧ OexC K C ∧ PySem.W.findIn K (.ref C) "value" = some none ∧ H a = some (exo a C none) ∧
  ∀ dx, H dx = none → dx ≠ a → Q .non (upd (upd H dx (exd dx [("value", v)])) a (exo a C (some dx)))
structure ErrC (P : Program) (w : World) (K : PySem.W.Frag) (mg : Str → Option Value) (base : Heap) (x : Str) (C : Addr) : Prop where
  oex : OexC K C
  at_ : mg x = some (.ref C)
  noV : PySem.W.findIn K (.ref C) "value" = some none
  ex : ∃ (fI : Addr) (fd : FuncData), PySem.W.findIn K (.ref C) "__init__" = some (some (.ref fI)) ∧ PySem.W.typeIn K (.ref fI) = some (.type "function") ∧ Binds K fd ["self", "value"] [] ∧ FnOk P w K mg base CX0 1 fI fd ["self", "value"] (spHInit K)
/-- raise X(e) -/
def tRaiseE (C : Addr) (W : WX) (te : TE) : TS := fun _ σ H => te σ H fun v H1 => ∀ d, H1 d = none → W (.ref C) (some d) σ (upd H1 d (.xd [("value", v)]))
section
variable {X : Cx} {W : WX} {x : Str} {C : Addr} {e : Expr} {te : TE} {p pos pos' : Pos}
theorem del_upd {H : Hp} {a : Addr} {o u : HO} (h : H a = none) : L2.del (upd (upd H a o) a u) a = H := by
  funext b
  by_cases z : b = a
  · rw [z, del_same, h]
  · rw [del_ne z, upd_ne z, upd_ne z]
def tUp (te : TE) : TE := fun σ H Q => ∃ Q' : V → Hp → Prop, te σ H Q' ∧ ∀ x H', Q' x H' → Q x H'
theorem pe_up (he : PE X e te) : PE X e (tUp te) := ⟨fun pins s σ H Q I h => by
  obtain ⟨Q', h, m⟩ := h
  exact thn (he.run pins s σ H _ I h) fun u s1 ⟨x, H1, I1, r1, q1⟩ => ⟨x, H1, I1, r1, m _ _ q1⟩⟩
theorem ps_raiseE (hc : X.calm = true) (tk : Takes X W) (M : ErrC X.prog X.w X.K X.mg X.base x C) (hr : Room 2 X.A) (hg : Gl X x) (he : PE X e te) (hdb : (x == ("__debug__" : Str)) = false := by decide)
    (hs : starEach [e] X.env = (false, eval e X.env) :: starEach [] X.env := by rfl) (hpl : (backTo pos (starEach [] X.env)).any (·.1) = false := by rfl) : PS X (.Raise (some (.Call (.Name x p) [e] [] pos)) none pos') (tRaiseE C W te) := by
  obtain ⟨fI, fd, iC, tI, hb, F⟩ := M.ex
  have r := ps_raise (pos := pos') hc tk (pmk_oex (p := p) (pos := pos) M.oex iC tI F hr hb .nil pass0 hg M.at_ (pa_cons (pe_up he) pa_nil hs) hdb hs hpl)
  refine ⟨fun pins s σ H D I h => r.run pins s σ H D I ?_⟩
  have h : te σ H fun v H1 => ∀ d, H1 d = none → W (.ref C) (some d) σ (upd H1 d (.xd [("value", v)])) := h
  refine ⟨_, h, fun v H1 q => ?_⟩
  refine ⟨by show 1 ≤ 1000; decide, fun a ha => ?_⟩
  refine ⟨a, C, v, rfl, M.oex, M.noV, upd_same, fun dx hdx ne => ⟨rfl, dx, [("value", v)], upd_same, ?_, ?_, ?_⟩⟩
  · rw [upd_ne ne]; exact upd_same
  · rw [upd_ne ne] at hdx; exact hdx
  · rw [upd_ne ne] at hdx
    have e : upd (L2.del (upd (upd (upd H1 a (exo a C none)) dx (exd dx [("value", v)])) a (exo a C (some dx))) a) dx (.xd [("value", v)]) = upd H1 dx (.xd [("value", v)]) := by
      funext b
      by_cases z : b = dx
      · rw [z, upd_same, upd_same]
      · rw [upd_ne z, upd_ne z]
        by_cases z2 : b = a
        · rw [z2, del_same, ha]
        · rw [del_ne z2, upd_ne z2, upd_ne z, upd_ne z2]
    rw [e]
    exact q dx hdx
end
end Fp
/-! values of any kind: is it whole -/
namespace Fp
open PySem PySem.Spec PyProof.Rows L2
/-- a value of a plain kind, and whether it is an integer and no bool -/
inductive KindV (K : PySem.W.Frag) (H : Hp) : V → Bool → Prop
  | int (i : Int) : KindV K H (.int i) true
  | bl (b : Bool) : KindV K H (.bl b) false
  | non : KindV K H .non false
  | str (z : Str) : KindV K H (.str z) false
  | lst {a : Addr} (h : TyX K H (.ref a) (.type "list")) : KindV K H (.ref a) false
  | tup {a : Addr} (h : TyX K H (.ref a) (.type "tuple")) : KindV K H (.ref a) false
  | dct {a : Addr} (h : TyX K H (.ref a) (.type "dict")) : KindV K H (.ref a) false
def spWholeA (K : PySem.W.Frag) : Sp := fun vs H Q _ => ∃ (v : V) (b : Bool), vs = [v] ∧ KindV K H v b ∧ Q (.bl b) H
def spBelowA (K : PySem.W.Frag) : Sp := fun vs H Q _ => ∃ (v : V) (n : Int), vs = [v, .int n] ∧ ((∃ i, v = .int i ∧ Q (.bl (decide (0 ≤ i ∧ i < n))) H) ∨ (KindV K H v false ∧ Q (.bl false) H))
end Fp
/-! calls that may raise, in a def that errors leave -/
namespace Fp
open PySem PySem.Spec PyProof.Rows L2
section
variable {X : Cx} {k : Nat} {C : Addr} {ps : List Str} {sp : Sp} {m x : Str} {p pos apos : Pos} {o e : Expr} {es : List Expr} {ta : TE} {t : TA} {E : XK}
theorem pass_of (tk : Takes X (fun cls d _ H => E cls d H)) : Passes (L2.CX X.prog X.w) X E := fun pins σ H s e s' I c => passAt tk σ pins H s e s' I c
theorem pe_mdE {pl : Sem Bool} (tk : Takes X (fun cls d _ H => E cls d H)) (he : PE X o ta) (c : Cls X.K C) (M : Md X.prog X.w X.K X.mg X.base (L2.CX X.prog X.w) C m k ps sp) (hr : Room k X.A) (ha : PA X (e :: es) t)
    (hst : starEach (e :: es) X.env = (false, eval e X.env) :: starEach es X.env := by rfl) (hpl : (backTo pos (starEach es X.env)).any (·.1) = false := by rfl)
    (ht : eval (.Call (.Attribute o m apos) (e :: es) [] pos) X.env = (do
      let ov ← eval o X.env
      standAt apos.atName
      let (f, first) ← holding [ov] (getMethod ov m pl)
      callWith pos f first (backTo pos (starEach (e :: es) X.env)) (backToKw pos (keywordEach [] X.env))) := by rfl) :
    PE X (.Call (.Attribute o m apos) (e :: es) [] pos) (tMeth C m sp [] E ta t) := by
  obtain ⟨f, fd, h1, h2, h3⟩ := M.ex
  exact pe_meth he c h1 h3 hr h2 .nil (pass_of tk) ha hst hpl ht
theorem pe_fdE (tk : Takes X (fun cls d _ H => E cls d H)) (G : Fd X.prog X.w X.K X.mg X.base (L2.CX X.prog X.w) x k ps sp) (hr : Room k X.A) (hg : Gl X x) (ha : PA X (e :: es) t) (hdb : (x == ("__debug__" : Str)) = false := by decide)
    (he : starEach (e :: es) X.env = (false, eval e X.env) :: starEach es X.env := by rfl) (hpl : (backTo pos (starEach es X.env)).any (·.1) = false := by rfl) :
    PE X (.Call (.Name x p) (e :: es) [] pos) (tCall sp [] E t) := by
  obtain ⟨f, fd, h1, h2, h3, h4⟩ := G.ex
  exact pe_call h4 hr hg h1 h2 h3 .nil (pass_of tk) ha hdb he hpl
end
end Fp
/-! an error that is kept behind its except suite: its object is known from then on -/
namespace L2
open PySem PySem.Spec PyProof.Rows
/-- an exception's object: its class, its own dict -/
def ErrO (cls : Value) (d : Option Addr) (a : Addr) : HO := .ext fun h => ∃ oe vs, h.get? a = some oe ∧ Zc cls d oe ∧ oe.data = .fields vs
section
variable {X : Cx} {pins : List (Addr × Obj)} {σ : St} {H : Hp} {s : Shared}
/-- an object that stands, and is nobody's, is known from now on -/
theorem Inv.know {a : Addr} {oe : Obj} {o : HO} (I : Inv X pins σ H s) (ha : s.heap.get? a = some oe) (na : H a = none) (nL : a ≠ X.env.locals) (n0 : X.s_0.heap.get? a = none) (nc : ∀ v, oe.data ≠ .cell v) (np : ∀ p ∈ X.pn ++ pins, p.1 ≠ a)
    (new : ObjOk X.prog X.w (upd H a o) s.heap a o) : Inv X pins σ (upd H a o) s := by
  have old : ∀ {b : Addr} {u : Obj}, X.s_0.heap.get? b = some u → b ≠ a := fun q z => by rw [z, n0] at q; cases q
  have oth : ∀ {b : Addr} {u : HO}, H b = some u → upd H a o b = some u := fun {b u} q => by rw [upd_ne (ne_of_none q na)]; exact q
  refine ⟨I.ok, I.os, I.bare, ⟨I.base.keep, I.base.slot, fun b u q n hx => ?_, I.base.there, fun b xs q => oth (I.base.tups b xs q), fun b u v q => oth (I.base.frzs b u v q), fun b ps q => ?_⟩, I.loc, I.cell, ?_, fun x c e => ?_, fun p hp => ?_, fun b u q => ?_, I.len⟩
  · rw [upd_ne (old q)]; exact I.base.free b u q n hx
  · obtain ⟨m, z⟩ := I.base.tbls b ps q
    exact ⟨m, oth z⟩
  · rw [upd_ne (Ne.symm nL)]; exact I.free
  · have ne : c ≠ a := fun z => by
      obtain ⟨v, u, hu, hd⟩ := I.cell x c e
      rw [z, ha] at hu
      exact nc v (by rw [Option.some.inj hu]; exact hd)
    rw [upd_ne ne]; exact I.freeC x c e
  · obtain ⟨e, n, r⟩ := I.pin p hp
    exact ⟨e, by rw [upd_ne (np p hp)]; exact n, r⟩
  · by_cases z : b = a
    · subst z
      rw [upd_same] at q
      cases q
      exact new
    · rw [upd_ne z] at q
      exact (I.hok b u q).stay (fun _ _ _ y => y) (fun _ y => oth y) fun _ _ y => oth y
theorem errO_ok {P : Program} {w : World} {H : Hp} {h : Heap} {a : Addr} {cls : Value} {d : Option Addr} {oe : Obj} (e : h.get? a = some oe) (z : Zc cls d oe) (f : ∃ vs, oe.data = .fields vs) : ObjOk P w H h a (ErrO cls d a) := by
  obtain ⟨vs, f⟩ := f
  exact ⟨⟨oe, vs, e, z, f⟩, ⟨oe, e⟩, fun _ _ ⟨o, v, q, r⟩ k => ⟨o, v, k o q, r⟩⟩
end
/-- behind the suite the error is known, and its name is gone -/
def Ends.kept (D : Ends) (i : Nat) (cls : Value) (d : Option Addr) (a : Addr) : Ends where
  nx := fun σ' H' => H' a = none → D.nx (σ'.set i none) (upd H' a (ErrO cls d a))
  rt := fun v H' => H' a = none → D.rt v (upd H' a (ErrO cls d a))
  bk := fun σ' H' => H' a = none → D.bk (σ'.set i none) (upd H' a (ErrO cls d a))
  ct := fun σ' H' => H' a = none → D.ct (σ'.set i none) (upd H' a (ErrO cls d a))
/-- the wish of 'except x as n' whose error is kept -/
def wKept (K : PySem.W.Frag) (c : Value) (i : Nat) (ts : Addr → Value → Option Addr → TS) (Wout : WX) (D : Ends) : WX := fun cls d σ H =>
  ∃ b, PySem.W.exmOne K cls c = some b ∧ (b = true → ∀ a, H a = none → ts a cls d (D.kept i cls d a) (σ.set i (some (.ref a))) H) ∧ (b = false → Wout cls d σ H)
section
variable {X : Cx} {x n : Str} {c : Value} {i : Nat} {body suite : List Stmt} {b₀ : Stmt} {npx pos pos' : Pos} {tb : WX → TS} {ts : Addr → Value → Option Addr → TS} {Wout : WX}
/-- try: body / except x as n: suite, where n's error may be kept -/
theorem ps_try_kept (hs : X.stack = X.env :: X.outer) (hf : X.env.frame = some X.env.locals) (hex : X.ex = []) (hN : X.N.Nodup) (hi : X.N[i]? = some n) (hln : X.env.kindOf n = some .local) (hc : Names X x c) (tk : Takes X Wout)
    (hb : ∀ (W : WX) (pn : List (Addr × Obj)) (xe : Value → Shared → Prop), Takes (X.tr pn xe) W → PassesOwn (model X.prog X.w) X.A X.env xe → PSs (X.tr pn xe) body (tb W))
    (hsu : ∀ (a : Addr) (oe : Obj) (cls : Value) (d : Option Addr) (pn : List (Addr × Obj)), Zc cls d oe → (∃ vs, oe.data = .fields vs) → PSs (X.suite a ((a, oe) :: pn)) (b₀ :: suite) (ts a cls d)) :
    PS X (.Try body [.ExceptHandler (some (.Name x npx)) (some n) (b₀ :: suite) pos'] [] [] pos) (fun D σ H => tb (wKept X.K c i ts Wout D) D σ H) := by
  constructor
  intro pins s σ H D I h
  have ok := I.ok
  have fr : X.A.frames = some (X.env :: X.outer) := by rw [ok.frames, hs]
  have run := (hb (wKept X.K c i ts Wout D) (X.pn ++ pins) (fun e s1 => wpAny (model X.prog X.w) X.A (noteFrame e X.env) (fun _ s2 => wpAny (model X.prog X.w) X.A (setFlight e none) (fun _ s3 =>
    wpAny (model X.prog X.w) X.A (handleBy e X.env [.ExceptHandler (some (.Name x npx)) (some n) (b₀ :: suite) pos']) (SP X pins D) X.xe s3) X.xe s2) X.xe s1) ?takes PassesOwn.looking).run [] s σ H D (I.toTry _) h
  case takes =>
    rintro u s' ⟨a, B, sI, pins', σ', H', cls, d, rfl, JT, nb, up, sky, na, os, ag, b, hb1, hyes, hno⟩
    have J : Inv X pins σ' H' sI := JT.ofTry ok
    rw [show (X.tr (X.pn ++ pins) _).stack = X.env :: X.outer from hs] at sky
    show wpAny _ X.A (noteFrame (.ref a) X.env) _ _ _
    refine Sky.land Zc.steady fr hf sky fun hL fL uL => ?_
    have JL : Inv X pins σ' H' { s' with heap := hL } := J.landed nb fL.1 (up.trans uL) os ag
    obtain ⟨oL, vL, eL, zL, dL⟩ := fL.there
    have out : a ∉ frs (X.env :: X.outer) := fun m => by
      obtain ⟨_, o', e', hnf⟩ := fL.2.2.1.mem m
      rw [eL] at e'
      cases e'
      exact hnf _ dL
    have nL : a ≠ X.env.locals := fun z => out (List.mem_filterMap.mpr ⟨X.env, List.mem_cons_self, by rw [hf, z]⟩)
    have nF : a ∉ X.fs := fun m => out (by
      obtain ⟨e, he, q⟩ := List.mem_filterMap.mp m
      exact List.mem_filterMap.mpr ⟨e, List.mem_cons_of_mem _ he, q⟩)
    -- the error is new since the def's entry, and no pin of ours
    have nB : B.get? a = none := fL.2.1
    have n0 : X.s_0.heap.get? a = none := by
      cases q : X.s_0.heap.get? a with
      | none => rfl
      | some o =>
        obtain ⟨o', e'⟩ := J.base.there a o q (by rw [hex]; simp)
        have := nb a o' e' (by show a ∉ frs X.stack; rw [hs]; exact out)
        rw [nB] at this; cases this
    have np : ∀ p ∈ X.pn ++ pins, p.1 ≠ a := fun p hp z => by
      obtain ⟨e, _⟩ := J.pin p hp
      rw [z] at e
      have := nb a _ e (by show a ∉ frs X.stack; rw [hs]; exact out)
      rw [nB] at this; cases this
    have SL := JL.suite eL dL na nL nF
    refine wpAny_handleBy_cons (codeAny_handlers_test ?_) (by intro q; cases q)
    have LT : PySem.W.Looks (model X.prog X.w) hL (typeOf (.ref a)) cls := fun A Q E s k q => wpAny_typeOf_ref (k _ _ eL) (by rw [zL.1]; exact q)
    have LM := PySem.W.exm_one (M := model X.prog X.w) (JL.kIn) LT hb1
    have named : ∀ {Q E : Value → Shared → Prop}, Q c { s' with heap := hL } → wpAny (model X.prog X.w) (X.A.mark (some (.ref a))) (eval (.Name x npx) X.env) Q E { s' with heap := hL } := fun {Q E} q => by
      obtain ⟨hg, hdbg, hm | ⟨hm, hv, hnn⟩⟩ := hc
      · exact ld_glob (X := X.suite a ((a, oL) :: (X.pn ++ pins))) SL hg hm q hdbg
      · exact ld_blt (X := X.suite a ((a, oL) :: (X.pn ++ pins))) SL hg hm hv q hnn hdbg
    refine named (LM.here ?_)
    cases b with
    | true =>
      refine codeAny_handlers_suite_as (HandSPX.lands_againZ fL fun hM fM uM => ?_)
      have JM : Inv X pins σ' H' { s' with heap := hM } := J.landed nb fM.1 ((up.trans uL).trans uM) os ag
      obtain ⟨oM, vM, eM, zM, dM⟩ := fM.there
      refine store_ok (X := X.suite a ((a, oM) :: (X.pn ++ pins))) (v := .ref a) (JM.suite eM dM na nL nF) hN hi (.inl hln) rfl (fun s5 S5 => ?_) (.inr hln)
      refine wpAny_mono ((hsu a oM cls d (X.pn ++ pins) zM ⟨_, dM⟩).run [] s5 _ H' _ S5 (hyes rfl a na)) (fun f s6 done => ?_) (fun _ _ z => False.elim z)
      have close : ∀ {σ6 : St} {H6 : Hp} {Q : Shared → Prop}, Inv (X.suite a ((a, oM) :: (X.pn ++ pins))) [] σ6 H6 s6 → (∀ s7, H6 a = none → Inv X pins (σ6.set i none) (upd H6 a (ErrO cls d a)) s7 → Q s7) →
          wpAny (model X.prog X.w) X.A (do bindName X.env n .none; unbindBehindTheSuite X.env n pos') (fun _ s7 => Q s7) X.xe s6 := fun {σ6 H6 Q} S6 hq => by
        refine gone_ok (X := X.suite a ((a, oM) :: (X.pn ++ pins))) S6 hN hi hln fun s7 S7 => ?_
        obtain ⟨e7, n7, _, _, c7⟩ := S7.pin (a, oM) (List.mem_append_left _ List.mem_cons_self)
        exact hq s7 n7 <| (S7.unsuite ok).know e7 n7 nL n0 c7 np (errO_ok e7 zM ⟨_, dM⟩)
      cases f with
      | ret u =>
        obtain ⟨v6, σ6, H6, S6, r6, q6⟩ := done
        exact close S6 fun s7 n7 J7 => ⟨_, _, _, J7, r6, q6 n7⟩
      | next =>
        obtain ⟨σ6, H6, S6, q6⟩ := done
        exact close S6 fun s7 n7 J7 => ⟨_, _, J7, q6 n7⟩
      | brk =>
        obtain ⟨σ6, H6, S6, q6⟩ := done
        exact close S6 fun s7 n7 J7 => ⟨_, _, J7, q6 n7⟩
      | cont =>
        obtain ⟨σ6, H6, S6, q6⟩ := done
        exact close S6 fun s7 n7 J7 => ⟨_, _, J7, q6 n7⟩
    | false =>
      show wpAny _ X.A (handleBy (.ref a) X.env []) _ _ _
      refine wpAny_handleBy_nil ?_
      obtain ⟨k1, k2, k3, oe, vs, T, oT, t7, he, hz, hd, h1, hr⟩ := id fL
      unfold PySem.passOn
      refine wpAny_bind (wpAny_field he hd h1 ?_)
      rw [if_neg (show ¬ ((Value.ref T == Value.none) = true) from by simp)]
      have away : wpAny (model X.prog X.w) X.A (setFlight (.ref a) X.env.frame) (fun _ s4 => wpAny (model X.prog X.w) X.A (throw (.ref a) : Sem Flow) (SP X pins D) X.xe s4) X.xe { s' with heap := hL } := by
        rw [hf]
        refine HandSPX.setFlight_upZ fL fun h4 g4 u4 => wpAny_throw (tk _ _ ⟨a, B, sI, pins, σ', H', cls, d, rfl, J, nb, (up.trans uL).trans u4, .inr (.inr (by rw [hs]; exact g4)), na, os, ag, hno rfl⟩)
      first | exact wpAny_bind (wpAny_pure (wpAny_bind away)) | exact wpAny_bind away
  refine wpAny_Try_except (wpAny_mono run (fun f s1 done => ?_) fun _ _ z => z)
  cases f with
  | ret u =>
    obtain ⟨v, σ1, H1, J1, r1, q1⟩ := done
    exact ⟨v, σ1, H1, J1.ofTry ok, r1, q1⟩
  | next =>
    obtain ⟨σ1, H1, J1, q1⟩ := done
    exact wpAny_execs_nil ⟨σ1, H1, J1.ofTry ok, q1⟩
  | brk =>
    obtain ⟨σ1, H1, J1, q1⟩ := done
    exact ⟨σ1, H1, J1.ofTry ok, q1⟩
  | cont =>
    obtain ⟨σ1, H1, J1, q1⟩ := done
    exact ⟨σ1, H1, J1.ofTry ok, q1⟩
end
end L2
/-! a kept error: its class is asked, its value read -/
namespace PySem.W
open PySem PySem.Spec PySem.Calls PyProof.Rows
section
variable {prog : Program} {w : World} {A : Around} {E : Value → Shared → Prop} {s : Shared} {K : Frag} {x D : Addr} {ox : Obj} {od : Option Obj}
theorem findObj_dataA {C : Addr} {name : Str} {a g : Value} (hc : (clsIn K C).isSome = true) (ha : findIn K (.ref C) name = some (some a)) (hg : specialIn K a "__get__" = some (some g)) (ht : takesIn K a = some true) : findObj K C od name = some (.bind g a) := by
  cases od with
  | some o => exact findObj_data hc ha hg ht
  | none => exact findObj_dataN hc ha hg ht
/-- e.__class__ of an error of an own class, with or without a dict of its own -/
theorem err_class {Q : Option Value → Shared → Prop} (T : L2.ExcC K D) (X : K.In s.heap) (I : InstAt s.heap x ox D od) (h : Q (some (.ref D)) { s with toks := s.toks + 1 }) : wpAny (model prog w) A (getAttr? (.ref x) "__class__") Q E s := by
  obtain ⟨cd, hcd, _⟩ := any_some T.hd
  have hf : findObj K D od "__class__" = some (.bind (.builtin "getset_descriptor.__get__") (.builtin "object.__class__")) := findObj_dataA (by rw [hcd]; rfl) T.ha T.hn T.ht
  have n1 : (Value.builtin "BaseException.__getattribute__" == Value.builtin "object.__getattribute__") = false := by decide +kernel
  have n2 : (onTheHeap (Value.ref D) && Value.builtin "BaseException.__getattribute__" == Value.builtin "object.__getattribute__") = false := by rw [n1]; rfl
  obtain ⟨hp, g, dr, tk, os⟩ := s
  have ty := I.type (M := model prog w)
  have ga := looks_findIn (M := model prog w) X T.hg
  have gt := looks_findIn (M := model prog w) X T.hk
  have fd := looks_find (M := model prog w) X I hf
  have exc : Looks (model prog w) hp (isInstance (.ref x) (.type "BaseException")) true := ty.andThen (looks_subIn X T.hs)
  unfold getAttr? getAttrBy? getAttrBy
  refine wpAny_bind (wpAny_mkText (wpAny_bind (wpAny_attempt (wpAny_holding (wpAny_bind (ty.at (wpAny_bind (ga.at ?_))))))))
  show wpAny _ _ (if _ = true then _ else _) _ _ _
  rw [n2, if_neg Bool.false_ne_true]
  unfold getAttrByItsOwn hookBefore
  refine wpAny_bind ?_
  rw [if_pos (show onTheHeap (Value.ref D) = true from rfl)]
  refine gt.at (wpAny_bind (wpAny_attempt (wpAny_holding ?_)))
  unfold callGetattribute
  rw [show (false && onTheHeap (Value.builtin "BaseException.__getattribute__")) = false from rfl, if_neg Bool.false_ne_true]
  unfold boundAndCalled
  rw [PySem.F.excAttr_ValueError.ga.bind (.ref x)]
  refine wpAny_bind (wpAny_pure ?_)
  refine wpAny_call (codeAny_call_builtin PySem.F.excAttr_ValueError.ga.plain PySem.F.entry_bexc_ga ?_)
  refine @check_slot (model prog w) _ _ ⟨hp, g, dr, tk + 1, os⟩ "BaseException.__getattribute__" "BaseException" "__getattribute__" (.ref x) [.str "__class__" tk] [] _ (by decide +kernel) (by decide +kernel) exc (PySem.F.args_bexc_ga (.ref x) (.str "__class__" tk)) ?_
  unfold Builtin.«object.__getattribute__»
  refine wpAny_bind (wpAny_of_eq (a := ((Value.ref x : Value), [Value.str "__class__" tk])) (by first | rfl | (simp only [slotArgs]; rfl)) ?_)
  refine wpAny_bind (wpAny_pure (wpAny_bind (ty.at (wpAny_bind (fd.at ?_)))))
  show wpAny _ _ (holding [Value.builtin "object.__class__"] (call (.builtin "getset_descriptor.__get__") [.builtin "object.__class__", .ref x, .ref D]) >>= ret) _ _ _
  refine wpAny_bind (wpAny_holding (wpAny_call (class_get (s := ⟨hp, g, dr, tk + 1, os⟩) (ox := ox) (od := od) X I T.hm (wpAny_pure ?_))))
  show wpAny _ _ (handedOut (.ref D)) _ _ _
  rw [handedOut_of (v := .ref D) rfl]
  first | exact wpAny_pure (wpAny_pure h) | exact wpAny_pure h | exact wpAny_pure (wpAny_bind (wpAny_pure (wpAny_pure h)))
theorem err_kit (T : L2.ExcC K D) : KitX K (.ref x) (.ref D) (fun h => InstAt h x ox D od) where
  ty := fun _ _ _ I => I.type
  it := fun _ _ X _ => by
    obtain ⟨cd, hcd, _⟩ := any_some T.hd
    unfold clsIn at hcd
    split at hcd
    · rename_i c' d' cd' sl' ho
      intro A' Q' E' s' k q
      exact wpAny_bind (wpAny_loadPart (k _ _ (X _ _ ho)) (wpAny_pure q))
    · cases hcd
  ne := fun h tp dd its n sl X htp => Bool.eq_false_iff.mpr fun q => by
    obtain ⟨cd, hcd, _⟩ := any_some T.hd
    have e : D = tp := Value.ref.inj (beq_iff_eq.mp q)
    subst e
    unfold clsIn at hcd
    split at hcd
    · rename_i c' d' cd' sl' ho
      have z := (X _ _ ho).symm.trans htp
      cases z
    · cases hcd
  ca := fun X I k => err_class T X I k
end
end PySem.W
namespace L2
open PySem PySem.Spec PyProof.Rows
/-- one of two readings of a call -/
theorem callR_or {X : Cx} {f : Value} {r1 r2 : List V → Hp → VK → Prop} (h1 : CallR X f r1) (h2 : CallR X f r2) : CallR X f (fun xs H Q => r1 xs H Q ∨ r2 xs H Q) := by
  intro pins s σ H xs us Q I r h
  rcases h with h | h
  · exact h1 pins s σ H xs us Q I r h
  · exact h2 pins s σ H xs us Q I r h
theorem err_obj {P : Program} {w : World} {H : Hp} {h : Heap} {a D : Addr} {d : Option Addr} (ok : HOk P w H h) (ha : H a = some (ErrO (.ref D) d a)) : ∃ oe, h.get? a = some oe ∧ oe.cls = .ref D ∧ PySem.W.notCls oe = true ∧ oe.dict = d := by
  obtain ⟨⟨oe, vs, e, ⟨z1, z2⟩, f⟩, _, _⟩ := ok a _ ha
  exact ⟨oe, e, z1, by unfold PySem.W.notCls; rw [f] <;> rfl, z2⟩
/-- isinstance(e, c), e a kept error -/
def rIsK (K : PySem.W.Frag) : List V → Hp → VK → Prop := fun xs H Q => ∃ (a D dd : Addr) (fs : List (Str × V)) (c : V) (cv : Value) (b : Bool), xs = [.ref a, c] ∧ H a = some (ErrO (.ref D) (some dd) a) ∧ H dd = some (.xd fs) ∧ ExcC K D ∧ (∀ u, RelV c u → u = cv) ∧ PySem.W.kitOne K (.ref D) cv = some b ∧ Q (.bl b) H
theorem call_isK {X : Cx} : CallR X (.builtin "isinstance") (rIsK X.K) := by
  intro pins s σ H xs us Q I r h
  obtain ⟨a, D, dd, fs, c, cv, b, rfl, ha, hd, C, hcv, e, q⟩ := h
  match us, r with
  | [u1, u2], .cons r1 (.cons r2 .nil) =>
    cases r1
    have ec := hcv _ r2
    subst ec
    obtain ⟨oe, ea, ec, en, ed⟩ := err_obj I.hok ha
    obtain ⟨mA, hns, _⟩ : ObjOk X.prog X.w H s.heap dd (.xd fs) := I.hok dd _ hd
    obtain ⟨od, ho, _⟩ := lookIn_ns hns
    have J : PySem.W.InstAt s.heap a oe D (some od) := ⟨ea, ec, en, by rw [ed]; exact ho⟩
    exact PySem.W.kia_one (PySem.W.err_kit C) I.kIn J e (fun z => nomatch z) fun tk => ⟨.bl b, H, I.kept (t' := tk) fun _ _ z => z, rfl, q⟩
/-- e.f, e a kept error with a dict of its own -/
def tXk (K : PySem.W.Frag) (n : Str) (te : TE) : TE := fun σ H Q => te σ H fun x H1 => ∃ (a C dd : Addr) (fs : List (Str × V)) (v : V), x = .ref a ∧ H1 a = some (ErrO (.ref C) (some dd) a) ∧ H1 dd = some (.xd fs) ∧ fs.lookup n = some v ∧ XfC K C ∧ PySem.W.findIn K (.ref C) n = some none ∧ Q v H1
theorem pe_xk {X : Cx} {e : Expr} {te : TE} {pos : Pos} {n : Str} (he : PE X e te) (hb : attributeBase e n X.env (eval e X.env) = eval e X.env := by rfl) : PE X (.Attribute e n pos) (tXk X.K n te) := by
  constructor
  intro pins s σ H Q I h
  refine attr_of hb (thn (he.run pins s σ H _ I h) fun u s1 hh => ?_)
  obtain ⟨x, H1, I1, rx, a, C, dd, fs, v, rfl, ha, hd, l, T, hno, q⟩ := hh
  cases rx
  obtain ⟨oe, ea, ec, en, ed⟩ := err_obj I1.hok ha
  obtain ⟨mA, hns, hr⟩ : ObjOk X.prog X.w H1 s1.heap dd (.xd fs) := I1.hok dd _ hd
  obtain ⟨od, ho, hl⟩ := lookIn_ns hns
  obtain ⟨u, hu, ru⟩ := RelO.some_of (v := v) (o := mA n) (by rw [← l]; exact hr n)
  have J : PySem.W.InstAt s1.heap a oe C (some od) := ⟨ea, ec, en, by rw [ed]; exact ho⟩
  exact HandSPX.exc_get I1.kIn J T.ga T.gg T.exC (PySem.W.findObj_own T.hdC hno rfl (by rw [hl, hu])) (handed_of ru) ⟨v, H1, I1.tok _, ru, q⟩
end L2
/-! lambdas handed on: their objects and the cells that they look at are known while others hold them -/
namespace L2
open PySem PySem.Spec PyProof.Rows LamX
/-- just this object -/
def PinO (c : Addr) (o : Obj) : HO := .ext fun h => h.get? c = some o
theorem pinO_ok {P : Program} {w : World} {H : Hp} {h : Heap} {a : Addr} {o : Obj} (e : h.get? a = some o) : ObjOk P w H h a (PinO a o) := ⟨e, ⟨o, e⟩, fun _ _ q k => k o q⟩
theorem pinO_get {P : Program} {w : World} {H : Hp} {h : Heap} {a : Addr} {o : Obj} (x : HOk P w H h) (e : H a = some (PinO a o)) : h.get? a = some o := (x a _ e).1
/-- without what stands at cs -/
def dropC (cs : List Addr) (H : Hp) : Hp := fun b => if b ∈ cs then none else H b
/-- at cs as in H, else as in G -/
def backC (cs : List Addr) (H G : Hp) : Hp := fun b => if b ∈ cs then H b else G b
theorem dropC_in {cs : List Addr} {H : Hp} {b : Addr} (h : b ∈ cs) : dropC cs H b = none := if_pos h
theorem dropC_out {cs : List Addr} {H : Hp} {b : Addr} (h : b ∉ cs) : dropC cs H b = H b := if_neg h
theorem backC_in {cs : List Addr} {H G : Hp} {b : Addr} (h : b ∈ cs) : backC cs H G b = H b := if_pos h
theorem backC_out {cs : List Addr} {H G : Hp} {b : Addr} (h : b ∉ cs) : backC cs H G b = G b := if_neg h
/-- what stands at cs is pinned, where it is known -/
def Pins (cs : List Addr) (H : Hp) : Prop := ∀ c ∈ cs, H c = none ∨ ∃ o, H c = some (PinO c o)
def Pinned (cs : List Addr) (H : Hp) : Prop := ∀ c ∈ cs, ∃ o, H c = some (PinO c o)
theorem Pinned.pins {cs : List Addr} {H : Hp} (p : Pinned cs H) : Pins cs H := fun c m => .inr (p c m)
theorem Pins.no {cs : List Addr} {H : Hp} (p : Pins cs H) {b : Addr} {u : HO} (e : H b = some u) (n : ∀ φ, u ≠ .ext φ) : b ∉ cs := fun m => by
  rcases p b m with z | ⟨o, z⟩
  · rw [e] at z; cases z
  · rw [e] at z; exact n _ (Option.some.inj z)
theorem dropC_some {cs : List Addr} {H : Hp} {b : Addr} {u : HO} (e : dropC cs H b = some u) : b ∉ cs ∧ H b = some u := by
  by_cases m : b ∈ cs
  · rw [dropC_in m] at e; cases e
  · exact ⟨m, by rw [dropC_out m] at e; exact e⟩
theorem no_own {a : Addr} : ∀ φ, HO.own a ≠ .ext φ := fun _ z => by cases z
theorem no_tup {xs : List V} : ∀ φ, HO.tup xs ≠ .ext φ := fun _ z => by cases z
theorem no_frz {o : Obj} {u : HO} : ∀ φ, HO.frz o u ≠ .ext φ := fun _ z => by cases z
theorem no_tbl {ps : Array Value} : ∀ φ, HO.tbl ps ≠ .ext φ := fun _ z => by cases z
section
variable {P : Program} {w : World} {cs : List Addr} {H H' G : Hp} {h h' : Heap}
theorem hok_drop (x : HOk P w H h) (p : Pins cs H) : HOk P w (dropC cs H) h := fun b u e => by
  obtain ⟨_, e⟩ := dropC_some e
  exact (x b u e).stay (fun _ _ _ q => q) (fun c q => by rw [dropC_out (p.no q no_own)]; exact q) fun c xs q => by rw [dropC_out (p.no q no_tup)]; exact q
theorem hok_back (x : HOk P w G h) (p : ∀ c ∈ cs, H c = none ∨ ∃ o, H c = some (PinO c o) ∧ h.get? c = some o) (g : ∀ c ∈ cs, G c = none) : HOk P w (backC cs H G) h := fun b u e => by
  by_cases m : b ∈ cs
  · rw [backC_in m] at e
    rcases p b m with z | ⟨o, z, hz⟩
    · rw [z] at e; cases e
    · rw [z] at e; cases e; exact pinO_ok hz
  · rw [backC_out m] at e
    have out : ∀ {c : Addr} {v : HO}, G c = some v → c ∉ cs := fun q m => by rw [g _ m] at q; cases q
    exact (x b u e).stay (fun _ _ _ q => q) (fun c q => by rw [backC_out (out q)]; exact q) fun c xs q => by rw [backC_out (out q)]; exact q
/-- from a state with the pins to one without: what a call did -/
theorem un_drop {fs : List Addr} (p : Pins cs H) (p' : ∀ c ∈ cs, H' c = H c) (x : HOk P w H h) (x' : HOk P w H' h') (u : Un fs [] H H' h h') (nf : ∀ c ∈ cs, c ∉ fs) : Un fs [] (dropC cs H) (dropC cs H') h h' := by
  refine ⟨fun b o q n hf hx => ?_, fun b o q n hf hx => ?_, fun b o q n hx => ?_, u.there, fun b xs q => ?_, fun b o v q => ?_, fun b ps q => ?_⟩
  · by_cases m : b ∈ cs
    · rcases p b m with z | ⟨o', z⟩
      · exact u.keep b o q z hf hx
      · have e1 := pinO_get x z
        rw [q] at e1; cases e1
        exact pinO_get x' (by rw [p' b m]; exact z)
    · rw [dropC_out m] at n; exact u.keep b o q n hf hx
  · by_cases m : b ∈ cs
    · exact absurd hf (nf b m)
    · rw [dropC_out m] at n; exact u.slot b o q n hf hx
  · by_cases m : b ∈ cs
    · exact dropC_in m
    · rw [dropC_out m] at n ⊢; exact u.free b o q n hx
  · obtain ⟨m, q⟩ := dropC_some q
    rw [dropC_out m]; exact u.tups b xs q
  · obtain ⟨m, q⟩ := dropC_some q
    rw [dropC_out m]; exact u.frzs b o v q
  · obtain ⟨m, q⟩ := dropC_some q
    obtain ⟨more, z⟩ := u.tbls b ps q
    exact ⟨more, by rw [dropC_out m]; exact z⟩
theorem back_none (u : ∀ b o, h.get? b = some o → dropC cs H b = none → G b = none) {b : Addr} {o : Obj} (q : h.get? b = some o) (n : H b = none) : backC cs H G b = none := by
  by_cases m : b ∈ cs
  · rw [backC_in m]; exact n
  · rw [backC_out m]; exact u b o q (by rw [dropC_out m]; exact n)
theorem drop_none {b : Addr} (n : H b = none) : dropC cs H b = none := by
  by_cases m : b ∈ cs
  · exact dropC_in m
  · rw [dropC_out m]; exact n
/-- and back: a call that ran without the pins -/
theorem un_back {fs : List Addr} (p : Pins cs H) (u : Un fs [] (dropC cs H) G h h') : Un fs [] H (backC cs H G) h h' := by
  refine ⟨fun b o q n hf hx => u.keep b o q (drop_none n) hf hx, fun b o q n hf hx => u.slot b o q (drop_none n) hf hx, fun b o q n hx => back_none (fun b o q n => u.free b o q n (by simp)) q n, u.there, fun b xs q => ?_, fun b o v q => ?_, fun b ps q => ?_⟩
  · have m := p.no q no_tup
    rw [backC_out m]; exact u.tups b xs (by rw [dropC_out m]; exact q)
  · have m := p.no q no_frz
    rw [backC_out m]; exact u.frzs b o v (by rw [dropC_out m]; exact q)
  · have m := p.no q no_tbl
    obtain ⟨more, z⟩ := u.tbls b ps (by rw [dropC_out m]; exact q)
    exact ⟨more, by rw [backC_out m]; exact z⟩
end
/-- what cells hold, pinned (or fixed for good) -/
def CellsAt (N : List Str) (base : Heap) (σ : St) (cl : List (Str × Addr)) (H : Hp) : Prop := ∀ y c, cl.lookup y = some c → ∃ o ov, (H c = some (PinO c o) ∨ (H c = none ∧ base.get? c = some o)) ∧ o.data = .cell ov ∧ ∀ (i : Nat) (v : V), N[i]? = some y → σ[i]? = some (some v) → ∃ u, ov = some u ∧ RelV v u
/-- each cell is told by its name -/
def CellN (cl : List (Str × Addr)) : Prop := ∀ c ∈ cl.map (·.2), ∃ y, cl.lookup y = some c
theorem CellsAt.pins {N : List Str} {base : Heap} {σ : St} {cl : List (Str × Addr)} {H : Hp} (n : CellN cl) (h : CellsAt N base σ cl H) : Pins (cl.map (·.2)) H := fun c m => by
  obtain ⟨y, e⟩ := n c m
  obtain ⟨o, _, z, _⟩ := h y c e
  rcases z with z | z
  · exact .inr ⟨o, z⟩
  · exact .inl z.1
end L2
/-! lambdas handed on: made, called, and calls that hand them on -/
namespace L2
open PySem PySem.Spec PyProof.Rows LamX
/-- the cells of these names -/
def cellsOf (X : Cx) (ys : List Str) : List (Str × Addr) := ys.filterMap fun y => (X.env.cells.lookup y).map fun c => (y, c)
theorem cellsOf_mem {X : Cx} {y : Str} {c : Addr} : ∀ {ys : List Str}, (y, c) ∈ cellsOf X ys ↔ y ∈ ys ∧ X.env.cells.lookup y = some c := by
  intro ys
  unfold cellsOf
  rw [List.mem_filterMap]
  constructor
  · rintro ⟨z, hz, e⟩
    cases q : X.env.cells.lookup z with
    | none => rw [q] at e; cases e
    | some d => rw [q] at e; cases e; exact ⟨hz, q⟩
  · rintro ⟨hy, e⟩
    exact ⟨y, hy, by rw [e]; rfl⟩
theorem lookup_of {α : Type} {y : Str} {c : α} : ∀ {l : List (Str × α)}, (y, c) ∈ l → (∀ d, (y, d) ∈ l → d = c) → l.lookup y = some c
  | (z, d) :: l, h, u => by
    rw [List.lookup_cons]
    cases e : y == z with
    | true =>
      have e' : y = z := eq_of_beq e
      subst e'
      exact congrArg some (u d List.mem_cons_self)
    | false =>
      rcases List.mem_cons.mp h with q | q
      · cases q
        simp at e
      · exact lookup_of q fun d hd => u d (List.mem_cons_of_mem _ hd)
theorem cellsOf_lookup {X : Cx} {ys : List Str} {y : Str} {c : Addr} : (cellsOf X ys).lookup y = some c ↔ y ∈ ys ∧ X.env.cells.lookup y = some c := by
  constructor
  · intro h
    exact cellsOf_mem.mp (PySem.mem_of_lookup h)
  · intro h
    exact lookup_of (cellsOf_mem.mpr h) fun d hd => by
      have := (cellsOf_mem.mp hd).2
      rw [h.2] at this; cases this; rfl
theorem cellsOf_N {X : Cx} {ys : List Str} : CellN (cellsOf X ys) := fun c m => by
  obtain ⟨⟨y, c'⟩, h, rfl⟩ := List.mem_map.mp m
  exact ⟨y, cellsOf_lookup.mpr (cellsOf_mem.mp h)⟩
/-- a name that lies in a cell -/
def InCell (X : Cx) (y : Str) : Prop := X.env.scope.names.lookup y = some .cell ∨ X.env.scope.names.lookup y = some .free
section
variable {X : Cx} {pins : List (Addr × Obj)} {σ : St} {H : Hp} {s : Shared}
/-- cells of these names are no frames of the callers -/
def NoFr (X : Cx) (ys : List Str) : Prop := X.Ok → ∀ y ∈ ys, ∀ c, X.env.cells.lookup y = some c → c ∉ X.fs
theorem noFr_def {ys : List Str} (h : X.fn = fun _ => true) : NoFr X ys := fun ok y _ c e m => by
  have h1 := ok.cab y c (by rw [h]) e
  obtain ⟨_, o, ho, _⟩ := ok.funs.mem m
  exact Nat.lt_irrefl _ (Nat.lt_of_lt_of_le (Heap.lt_size ho) h1)
/-- cells of a frame, pinned -/
theorem Inv.cells (I : Inv X pins σ H s) (ys : List Str) (hk : ∀ y ∈ ys, InCell X y) (hf : NoFr X ys) : ∃ cs HZ, dropC cs HZ = H ∧ Pinned cs HZ ∧ CellsAt X.N X.base σ (cellsOf X ys) HZ ∧ (∀ c ∈ cs, c ∉ frs X.stack) ∧ Env0 X.prog X.w X.K X.mg X.base X.A X.stack s HZ := by
  let cs : List Addr := ((cellsOf X ys).map (·.2)).filter fun c => (X.base.get? c).isNone
  have csm : ∀ {c}, c ∈ cs → (∃ y, y ∈ ys ∧ X.env.cells.lookup y = some c) ∧ X.base.get? c = none := fun {c} m => by
    obtain ⟨m1, m2⟩ := List.mem_filter.mp m
    obtain ⟨⟨y, c'⟩, h, rfl⟩ := List.mem_map.mp m1
    exact ⟨⟨y, cellsOf_mem.mp h⟩, Option.isNone_iff_eq_none.mp m2⟩
  have free : ∀ c ∈ cs, H c = none := fun c m => by
    obtain ⟨⟨y, _, e⟩, _⟩ := csm m
    exact I.freeC y c e
  let HZ : Hp := fun b => if b ∈ cs then (s.heap.get? b).map (PinO b) else H b
  have hin : ∀ {b}, b ∈ cs → HZ b = (s.heap.get? b).map (PinO b) := fun m => if_pos m
  have hout : ∀ {b}, b ∉ cs → HZ b = H b := fun m => if_neg m
  have nfr : ∀ c ∈ cs, c ∉ frs X.stack := fun c m z => by
    obtain ⟨⟨y, hy, e⟩, _⟩ := csm m
    rcases List.mem_cons.mp (I.stkSub c z) with q | q
    · exact I.cne y c e q
    · exact hf I.ok y hy c e q
  have keep : ∀ {b u}, H b = some u → HZ b = some u := fun {b u} q => by rw [hout (fun m => by rw [free b m] at q; cases q)]; exact q
  refine ⟨cs, HZ, ?_, fun c m => ?_, fun y c e => ?_, nfr, ⟨I.ok.frames, I.ok.mod, fun b o e => ⟨(I.bs b o e).1, ?_⟩, Nat.le_trans I.ok.bsz I.sz, I.stack, fun b hb => ?_, fun b u e => ?_, I.bare⟩⟩
  · funext b
    by_cases m : b ∈ cs
    · rw [dropC_in m, free b m]
    · rw [dropC_out m, hout m]
  · obtain ⟨⟨y, hy, e⟩, _⟩ := csm m
    obtain ⟨ov, o, ho, hd⟩ := I.cell y c e
    exact ⟨o, by rw [hin m, ho]; rfl⟩
  · obtain ⟨hy, e⟩ := cellsOf_lookup.mp e
    obtain ⟨ov, o, ho, hd⟩ := I.cell y c e
    refine ⟨o, ov, ?_, hd, fun i v e1 e2 => ?_⟩
    · by_cases m : c ∈ cs
      · exact .inl (by rw [hin m, ho]; rfl)
      · right
        refine ⟨by rw [hout m]; exact I.freeC y c e, ?_⟩
        cases q : X.base.get? c with
        | none => exact absurd (List.mem_filter.mpr ⟨List.mem_map.mpr ⟨(y, c), cellsOf_mem.mpr ⟨hy, e⟩, rfl⟩, by rw [q]; rfl⟩) m
        | some o' =>
          have := (I.bs c o' q).1
          rw [ho] at this; cases this; rfl
    · obtain ⟨mm, _, hl⟩ := I.loc
      obtain ⟨u, r, q⟩ := hl i y v e1 e2 ((hk y hy).elim (fun z => .inr (.inl z)) (fun z => .inr (.inr z)))
      rcases q with ⟨k, _⟩ | ⟨_, c', e', o', ho', hd'⟩
      · have k : X.env.scope.names.lookup y = some .local := k
        rcases hk y hy with z | z <;> rw [z] at k <;> cases k
      · rw [e] at e'; cases e'
        rw [ho] at ho'; cases ho'
        rw [hd] at hd'; cases hd'
        exact ⟨u, rfl, r⟩
  · rw [hout (fun m => by rw [(csm m).2] at e; cases e)]
    exact (I.bs b o e).2
  · rw [hout (fun m => nfr b m hb)]; exact I.stkFree b hb
  · by_cases m : b ∈ cs
    · rw [hin m] at e
      cases q : s.heap.get? b with
      | none => rw [q] at e; cases e
      | some o => rw [q] at e; cases e; exact pinO_ok q
    · rw [hout m] at e
      exact (I.hok b u e).stay (fun _ _ _ q => q) (fun c q => keep q) fun c xs q => keep q
/-- a call that hands lambdas on: what they look at is pinned while it runs -/
def tCallC (X : Cx) (ys : List Str) (sp : Sp) (t : TA) : TE := fun σ H Q => t σ H fun vs H1 => X.Ok → σ.length = X.N.length → ∀ cs HZ, dropC cs HZ = H1 → Pinned cs HZ → CellsAt X.N X.base σ (cellsOf X ys) HZ → sp vs HZ (fun v H' => (∀ c ∈ cs, H' c = HZ c) ∧ Q v (dropC cs H')) E0
end
section
variable {X : Cx} {x : Str} {k : Nat} {ps : List Str} {sp : Sp} {e : Expr} {es : List Expr} {t : TA} {p pos : Pos} {ys : List Str}
theorem pe_fdC (ys : List Str) (hk : ∀ y ∈ ys, InCell X y) (hf : NoFr X ys) (G : Fp.FdG X.prog X.w X.K X.mg X.base CX0 x k ps sp) (hr : Room k X.A) (hgu : X.A.guards = some []) (hg : Gl X x) (ha : PA X (e :: es) t) (hdb : (x == ("__debug__" : Str)) = false := by decide)
    (he : starEach (e :: es) X.env = (false, eval e X.env) :: starEach es X.env := by rfl) (hpl : (backTo pos (starEach es X.env)).any (·.1) = false := by rfl) :
    PE X (.Call (.Name x p) (e :: es) [] pos) (tCallC X ys sp t) := by
  obtain ⟨f, fd, hm, hkk, hb, F⟩ := G.ex
  constructor
  intro pins s σ H Q I h
  refine wpAny_Call_Name_kw (ld_glob I hg hm ?_ hdb)
  refine PySem.W.callWith_K (h₀ := X.base) I.ok.mod.kin hkk (thn (ha.run pos pins s σ H _ I h) fun us s1 ⟨vs, H1, I1, r, q⟩ => ⟨I1.kIn, ?_⟩) he hpl
  obtain ⟨cs, HZ, e1, e2, e3, e4, e0⟩ := I1.cells ys hk hf
  have q1 := q I1.ok I1.len cs HZ e1 e2 e3
  have r2 : Vals (vs ++ []) (us ++ []) := r.append .nil
  rw [List.append_nil, List.append_nil] at r2
  have hl : us.length = ps.length := by rw [← r2.length]; exact F.len _ _ _ _ q1
  have bb := hb s1 us I1.kIn (by rw [List.append_nil]; exact hl)
  rw [List.append_nil] at bb
  refine wpAny_call (codeAny_mono (F.run X.A X.stack s1 HZ ⟨us, []⟩ us vs _ E0 hr hgu e0 bb r2 q1) fun r s' hq => ?_)
  cases r with
  | error er => exact pass0 pins σ H1 s1 er s' I1 hq
  | ok fl =>
    cases fl with
    | ret u =>
      obtain ⟨v, H', os, bare, un, hok, rv, hp, qq⟩ := hq
      refine I1.after ⟨v, dropC cs H', os, bare, ?_, hok_drop hok (fun c m => by rw [hp c m]; exact e2.pins c m), rv, qq⟩
      rw [← e1]
      exact un_drop e2.pins hp e0.hok hok un e4
    | next => exact False.elim hq
    | brk => exact False.elim hq
    | cont => exact False.elim hq
end
end L2
/-! lambdas handed on: made, and called -/
namespace L2
open PySem PySem.Spec PyProof.Rows LamX
/-- a lambda that was made in X stands at f -/
def LamAt (X : Cx) (H : Hp) (f : Addr) (params : Arguments) (body : Expr) (scope : Scope) : Prop :=
  ∃ c' pm ctv, H f = some (PinO f (PySem.W.kla_obj "<lambda>" (X.env.qual ++ "<lambda>") params body scope (cloFrom X.env.cells scope.names []) pm c' ctv)) ∧ H c' = some (CodeO c' (X.env.qual ++ "<lambda>"))
theorem LamAt.ext {X : Cx} {H H' : Hp} {f : Addr} {params : Arguments} {body : Expr} {scope : Scope} (h : LamAt X H f params body scope) (e : ∀ b φ, H b = some (.ext φ) → H' b = some (.ext φ)) : LamAt X H' f params body scope := by
  obtain ⟨c', pm, ctv, h1, h2⟩ := h
  exact ⟨c', pm, ctv, e _ _ h1, e _ _ h2⟩
abbrev lamCl (X : Cx) (scope : Scope) : List (Str × Addr) := cloFrom X.env.cells scope.names []
abbrev lamCs (X : Cx) (scope : Scope) : List Addr := (lamCl X scope).map (·.2)
section
variable {X : Cx} {σ : St} {scope : Scope}
theorem lamCl_get (ok : X.Ok) (L : LamS X.env.scope scope) {y : Str} {c : Addr} (e : (lamCl X scope).lookup y = some c) : X.env.cells.lookup y = some c ∧ (y, NameKind.free) ∈ scope.names := by
  rcases cloFrom_mem (PySem.mem_of_lookup e) with m | ⟨h1, h2⟩
  · cases m
  · obtain ⟨c1, hc⟩ := L.has ok _ h1 rfl
    have hc : X.env.cells.lookup y = some c1 := hc
    rw [hc] at h2
    exact ⟨by rw [hc, h2] <;> rfl, h1⟩
theorem lamCl_N (ok : X.Ok) (L : LamS X.env.scope scope) : CellN (lamCl X scope) := fun c m => by
  obtain ⟨⟨y, c'⟩, h, rfl⟩ := List.mem_map.mp m
  refine ⟨y, lookup_of h fun d hd => ?_⟩
  have f : ∀ {z}, (y, z) ∈ lamCl X scope → z = (X.env.cells.lookup y).getD 0 := fun {z} h => by
    rcases cloFrom_mem h with q | ⟨_, q⟩
    · cases q
    · exact q
  rw [f h, f hd]
/-- what a lambda looks at is among the names that are pinned -/
theorem CellsAt.lam {ys : List Str} {H : Hp} (h : CellsAt X.N X.base σ (cellsOf X ys) H) (ok : X.Ok) (L : LamS X.env.scope scope) (hy : ∀ y ∈ scope.names, y.2 = .free → y.1 ∈ ys) : CellsAt X.N X.base σ (lamCl X scope) H := fun y c e => by
  obtain ⟨e1, e2⟩ := lamCl_get ok L e
  exact h y c (cellsOf_lookup.mpr ⟨hy _ e2 rfl, e1⟩)
/-- the lambda's body begins -/
theorem lam_inv {A : Around} {outer : List Env} {E : XK} {f c' : Addr} {HZ : Hp} {s : Shared} {h₁ : Heap} {tk : Nat} (ok : X.Ok) (hl : σ.length = X.N.length) (L : LamS X.env.scope scope) (e0 : Env0 X.prog X.w X.K X.mg X.base A outer s HZ) (hd : A.handled = none)
    (cA : CellsAt X.N X.base σ (lamCl X scope) HZ) (hns : h₁.Ns s.heap.objs.size fun y => ([] : List (Str × Value)).reverse.lookup y) (kp : ∀ b o, s.heap.get? b = some o → h₁.get? b = some o) :
    Inv (lamCx X A outer s (dropC (lamCs X scope) HZ) E scope f c') [] σ (dropC (lamCs X scope) HZ) { s with heap := h₁, toks := tk } := by
  have ps := cA.pins (lamCl_N ok L)
  have none0 : ∀ b : Addr, b ∉ (lamCx X A outer s (dropC (lamCs X scope) HZ) E scope f c').ex := fun b z => absurd (show b ∈ ([] : List Addr) from z) (by simp)
  have here : ∀ {y c}, (lamCl X scope).lookup y = some c → ∃ o ov, s.heap.get? c = some o ∧ o.data = .cell ov ∧ ∀ (i : Nat) (v : V), X.N[i]? = some y → σ[i]? = some (some v) → ∃ u, ov = some u ∧ RelV v u := fun {y c} e => by
    obtain ⟨o, ov, z, r, q⟩ := cA y c e
    rcases z with z | z
    · exact ⟨o, ov, pinO_get e0.hok z, r, q⟩
    · exact ⟨o, ov, (e0.bs c o z.2).1, r, q⟩
  have find : ∀ {y}, scope.names.lookup y = some .free → ∃ c, (lamCl X scope).lookup y = some c := fun {y} q => mem_lookup (cloFrom_has (cells := X.env.cells) (acc := []) (PySem.mem_of_lookup q))
  have only : ∀ {y}, Vis scope y → scope.names.lookup y = some .free := fun {y} q => by
    rcases q with q | q | q
    · exact absurd rfl (L.own _ (PySem.mem_of_lookup q)).1
    · exact absurd rfl (L.own _ (PySem.mem_of_lookup q)).2
    · exact q
  refine ⟨⟨e0.mod, L.kind, rfl, rfl, Nat.le_refl _, fun y z c e1 e2 => ok.inj y z c (lamCl_get ok L e1).1 (lamCl_get ok L e2).1, fun y hy => find (only (.inr hy)), fun y c z _ => (by cases (show false = true from z)), fun _ => hd, Around.frames_deeper e0.frames, .inr ⟨rfl, rfl⟩,
      fun b z => absurd z (none0 b), fun b o e => ⟨(e0.bs b o e).1, drop_none (e0.bs b o e).2⟩, e0.bsz, fun b _ _ => none0 b, fun b z => absurd z (none0 b), e0.funs, fun b m => drop_none (e0.frf b m)⟩,
    rfl, e0.bare, Un.kept kp, ⟨_, hns, fun i y v e1 e2 e3 => ?_⟩, fun y c e => ?_, drop_none (e0.hok.fresh (Nat.le_refl _)), fun y c e => ?_, fun q hq => absurd (show q ∈ ([] : List (Addr × Obj)) ++ [] from hq) (by simp), (hok_drop e0.hok ps).kept kp, hl⟩
  · have hk := only e3
    obtain ⟨c, hc⟩ := find hk
    obtain ⟨o, ov, ho, hov, q⟩ := here hc
    obtain ⟨u, rfl, r⟩ := q i v e1 e2
    exact ⟨u, r, .inr ⟨.inr hk, c, hc, o, kp _ _ ho, hov⟩⟩
  · obtain ⟨o, ov, ho, hov, _⟩ := here e
    exact ⟨ov, o, kp _ _ ho, hov⟩
  · exact dropC_in (List.mem_map.mpr ⟨(y, c), PySem.mem_of_lookup e, rfl⟩)
end
/-- what is called keeps its promise in every state in which the promise holds -/
def CloOk (P : Program) (w : World) (K : PySem.W.Frag) (mg : Str → Option Value) (base : Heap) (k : Nat) (f : Addr) (sp : Hp → VK → XK → Prop) : Prop :=
  ∀ (A : Around) (outer : List Env) (s : Shared) (H : Hp) (Q : VK) (E : XK), Room k A → Env0 P w K mg base A outer s H → sp H Q E → PySem.W.FnAt f s.heap ∧ codeAny (model P w) A (.call (.ref f) ⟨[], []⟩) (CR (L2.CX P w) outer P w H s Q E) s
section
variable {X : Cx} {σ : St} {scope : Scope} {params : Arguments} {body : Expr} {k : Nat} {f : Addr} {t : XK → TE}
/-- a lambda keeps what its body's reading tells -/
theorem lam_clo (ok : X.Ok) (hl : σ.length = X.N.length) (L : LamS X.env.scope scope)
    (hbind : ∀ (q : Str) (cl : List (Str × Addr)) (pm cv ctv : Value), bindArgs (PySem.W.kla_fn "<lambda>" q params body scope cl pm cv ctv) ⟨[], []⟩ = pure [])
    (hbody : ∀ (A : Around) (outer : List Env) (s : Shared) (H : Hp) (E : XK) (f c' : Addr), Room k (A.deeper (lamEnv X scope s.heap.objs.size f c')) → PE (lamCx X A outer s H E scope f c') body (t E)) :
    CloOk X.prog X.w X.K X.mg X.base (k + 1) f fun H Q E => LamAt X H f params body scope ∧ CellsAt X.N X.base σ (lamCl X scope) H ∧
      t (fun cls d G => (∀ c ∈ lamCs X scope, G c = none) → E cls d (backC (lamCs X scope) H G)) σ (dropC (lamCs X scope) H) fun v G => (∀ c ∈ lamCs X scope, G c = none) → Q v (backC (lamCs X scope) H G) := by
  intro A outer s H Q E hr e0 ⟨⟨c', pm, ctv, hf, hc⟩, cA, ht⟩
  have of1 := pinO_get e0.hok hf
  obtain ⟨⟨oc, vs, tq, hoc, hdc, hvc⟩, _, _⟩ := e0.hok c' _ hc
  refine ⟨⟨_, _, _, _, of1⟩, ?_⟩
  have ps := cA.pins (lamCl_N ok L)
  have lim : s.heap.NoLimit := e0.mod.nolimit.keeps fun b o e => (e0.bs b o e).1
  -- cells are no frames
  have run : codeAny (model X.prog X.w) A (.call (.ref f) ⟨[], []⟩) (CR (L2.CX X.prog X.w) outer X.prog X.w (dropC (lamCs X scope) H) s (fun v G => (∀ c ∈ lamCs X scope, G c = none) → Q v (backC (lamCs X scope) H G)) (fun cls d G => (∀ c ∈ lamCs X scope, G c = none) → E cls d (backC (lamCs X scope) H G))) s := by
    refine PySem.W.kla_callFunE hr.depth of1 rfl L.co L.gen rfl ⟨c', oc, vs, tq, rfl, hoc, hdc, hvc⟩ ?_
    rw [hbind]
    refine wpAny_pure (wpAny_newFunctionEnv (fun y hy => (L.own y hy).2) (fun y hy => absurd hy (by simp)) (fun h₁ hns hsb => ⟨lim.fresh _ hsb, ?_⟩) L.kind)
    have kp : ∀ b o, s.heap.get? b = some o → h₁.get? b = some o := fun b o e => hsb.extBut b o (Nat.ne_of_lt (Heap.lt_size e)) (Heap.get?_push_of_some _ e)
    have J := lam_inv (f := f) (c' := c') (E := fun cls d G => (∀ c ∈ lamCs X scope, G c = none) → E cls d (backC (lamCs X scope) H G)) (tk := s.toks + ([] : List (Str × Value)).length) ok hl L e0 hr.hd cA hns kp
    show codeAny _ _ (.expr body (lamEnv X scope s.heap.objs.size f c')) _ _
    refine PySem.W.kla_codeExpr (wpAny_mono ((hbody A outer s (dropC (lamCs X scope) H) _ f c' (hr.deeper _)).run [] _ _ _ _ J ht) (fun v s' hq => ?_) fun _ _ hq => hq)
    obtain ⟨w', G, J', rv, q⟩ := hq
    exact ⟨w', G, J'.os, J'.bare, J'.base, J'.hok, rv, q⟩
  have pin : ∀ {h' : Heap} {G : Hp}, (∀ b o, s.heap.get? b = some o → dropC (lamCs X scope) H b = none → b ∉ frs outer → h'.get? b = some o) →
      ∀ c ∈ lamCs X scope, H c = none ∨ ∃ o, H c = some (PinO c o) ∧ h'.get? c = some o := fun {h' G} kk c m => by
    rcases ps c m with z | ⟨o, z⟩
    · exact .inl z
    · exact .inr ⟨o, z, kk c o (pinO_get e0.hok z) (dropC_in m) fun mm => by rw [e0.frf c mm] at z; cases z⟩
  have gone : ∀ {G : Hp}, (∀ b o, s.heap.get? b = some o → dropC (lamCs X scope) H b = none → G b = none) → ∀ c ∈ lamCs X scope, G c = none := fun {G} kk c m => by
    obtain ⟨y, e⟩ := lamCl_N ok L c m
    obtain ⟨o, _, z, _⟩ := cA y c e
    rcases z with z | z
    · exact kk c o (pinO_get e0.hok z) (dropC_in m)
    · exact kk c o (e0.bs c o z.2).1 (dropC_in m)
  refine codeAny_mono run fun r s' hq => ?_
  cases r with
  | ok fl =>
    cases fl with
    | ret u =>
      obtain ⟨v, G, os, bare, un, hok, rv, q⟩ := hq
      exact ⟨v, _, os, bare, un_back ps un, hok_back hok (pin (G := G) fun b o e n nf => un.keep b o e n nf (by simp)) (gone fun b o e n => un.free b o e n (by simp)), rv, q (gone fun b o e n => un.free b o e n (by simp))⟩
    | next => exact False.elim hq
    | brk => exact False.elim hq
    | cont => exact False.elim hq
  | error er =>
    obtain ⟨a, B, G, cls, d, rfl, fl, hok, ub, na, os, ag, hE⟩ := hq
    have kB : ∀ c ∈ lamCs X scope, H c = none ∨ ∃ o, H c = some (PinO c o) ∧ B.get? c = some o := pin (G := G) fun b o e n nf => ub.keep b o e n nf
    refine ⟨a, B, _, cls, d, rfl, fl, hok_back hok kB (gone ub.free), ⟨fun b o e n nf => ub.keep b o e (drop_none n) nf, ub.slot, fun b o e n => back_none ub.free e n, ub.there, fun b xs q => ?_, fun b o v q => ?_, fun b qs q => ?_⟩, ?_, os, ag, hE (gone ub.free)⟩
    · have m := ps.no q no_tup
      rw [backC_out m]; exact ub.tups b xs (by rw [dropC_out m]; exact q)
    · have m := ps.no q no_frz
      rw [backC_out m]; exact ub.frzs b o v (by rw [dropC_out m]; exact q)
    · have m := ps.no q no_tbl
      obtain ⟨more, z⟩ := ub.tbls b qs (by rw [dropC_out m]; exact q)
      exact ⟨more, by rw [backC_out m]; exact z⟩
    · by_cases m : a ∈ lamCs X scope
      · rcases kB a m with z | ⟨o, _, z⟩
        · rw [backC_in m]; exact z
        · rw [fl.2.1] at z; cases z
      · rw [backC_out m]; exact na
end
section
variable {X : Cx} {i k : Nat} {x : Str} {p pos : Pos} {E : St → XK}
/-- x(), x a name of the def that holds what keeps a promise -/
def tCallClo (P : Program) (w : World) (K : PySem.W.Frag) (mg : Str → Option Value) (base : Heap) (i k : Nat) (E : St → XK) : TE := fun σ H Q => ∃ f sp, σ[i]? = some (some (.ref f)) ∧ CloOk P w K mg base k f sp ∧ sp H Q (E σ)
theorem pe_callClo (hr : Room k X.A) (hN : X.N[i]? = some x) (hv : Vis X.env.scope x) (hx : ∀ σ, PassesAt (L2.CX X.prog X.w) X σ (E σ)) (hdb : (x == ("__debug__" : Str)) = false := by decide) (hcd : (x == ("__classdict__" : Str)) = false := by decide) :
    PE X (.Call (.Name x p) [] [] pos) (tCallClo X.prog X.w X.K X.mg X.base i k E) := by
  constructor
  intro pins s σ H Q I ⟨f, sp, hs, C, h⟩
  refine wpAny_Call_Name_kw (thn ((pe_var (pos := p) hN hv hdb hcd).run pins s σ H (fun v H1 => v = .ref f ∧ H1 = H) I ⟨.ref f, hs, rfl, rfl⟩) fun u s1 ⟨v, H1, I1, r1, q1⟩ => ?_)
  obtain ⟨rfl, rfl⟩ := q1
  cases r1
  obtain ⟨fn, run⟩ := C X.A X.stack s1 _ Q (E σ) hr I1.env0 h
  refine PySem.W.callWith_F0 fn (wpAny_call (codeAny_mono run fun r s' hq => ?_))
  cases r with
  | error er => exact hx σ pins _ s1 er s' I1 hq
  | ok fl =>
    cases fl with
    | ret u => exact I1.after hq
    | next => exact False.elim hq
    | brk => exact False.elim hq
    | cont => exact False.elim hq
end
end L2
/-! a lambda is made, and is new -/
namespace L2
open PySem PySem.Spec PyProof.Rows LamX
/-- the reading: tables grow, all else stays; the lambda stands at a new place -/
def tLamE (X : Cx) (T : List (Addr × Str)) (params : Arguments) (body : Expr) (scope : Scope) : TE := fun σ H Q => Tabs T H ∧ ∀ f H1, ExtN H H1 → Tabs T H1 → H f = none → LamAt X H1 f params body scope → Q (.ref f) H1
section
variable {X : Cx} {pins : List (Addr × Obj)} {σ : St} {H : Hp} {s : Shared} {T : List (Addr × Str)} {c P : Addr} {params : Arguments} {body : Expr} {scope : Scope} {pos : Pos}
/-- the new function's object is pinned -/
theorem Inv.newFn {s1 : Shared} {H1 : Hp} {f c' : Addr} {pm ctv : Value} {q : Str} {cl : List (Str × Addr)} (I : Inv X pins σ H s) (I1 : Inv X pins σ H1 s1) (hz : s.heap.objs.size ≤ f) (n1 : H1 f = none) (ho : s1.heap.get? f = some (PySem.W.kla_obj "<lambda>" q params body scope cl pm c' ctv)) :
    Inv X pins σ (upd H1 f (PinO f (PySem.W.kla_obj "<lambda>" q params body scope cl pm c' ctv))) s1 := by
  refine I1.know ho n1 (fun z => ?_) ?_ (fun v z => by cases z) (fun p hp z => ?_) (pinO_ok ho)
  · have := I.lt
    rw [← z] at this
    exact Nat.lt_irrefl _ (Nat.lt_of_lt_of_le this hz)
  · cases e : X.s_0.heap.get? f with
    | none => rfl
    | some o => exact absurd (Nat.lt_of_lt_of_le (Heap.lt_size e) (Nat.le_trans I.sz hz)) (Nat.lt_irrefl _)
  · have := Heap.lt_size (I.pin p hp).1
    rw [z] at this
    exact Nat.lt_irrefl _ (Nat.lt_of_lt_of_le this hz)
theorem pe_lam (TB : TabB X.base X.mg c P) (hcode : X.env.code = .ref c) (hm : (P, X.env.qual ++ "<lambda>") ∈ T) (hu : ∀ p ∈ T, p.1 = P → p.2 = X.env.qual ++ "<lambda>") (hdef : defaultsOf params X.env = ([], [])) (L : LamS X.env.scope scope) :
    PE X (.Lambda params body scope pos) (tLamE X T params body scope) := by
  constructor
  rintro pins s σ H Q I ⟨hT, h⟩
  have has := L.has I.ok
  obtain ⟨ps, hP, ht, ha⟩ := hT _ hm
  have blt : s.heap.BuiltinsAt X.mg P := TB.bm.keeps I.bk
  have tab : s.heap.get? P = some { cls := .none, data := .fields ps } := I.hok P _ hP
  refine PySem.W.kla_eval hdef ?_
  cases hc : codeAmong pos ps.toList with
  | some cv =>
    obtain ⟨c', rfl, hco⟩ := ha pos cv hc
    refine PySem.W.kla_makeFunctionHit (mg := X.mg) (c := c) (P := P) (ps := ps) (closure_ok has) I.ok.glob (I.mod.glob.keeps I.bk) hcode (TB.code.keeps I.bk) tab ht hc blt fun ctv h' tk hx hsz => ?_
    have I1 : Inv X pins σ H { s with heap := h'.push (PySem.W.kla_obj "<lambda>" (X.env.qual ++ "<lambda>") params body scope (lamCl X scope) ((X.mg "__name__").getD .none) c' ctv), toks := tk } := I.kept fun b o e => Heap.get?_push_of_some _ (hx b o e)
    have nf : H h'.objs.size = none := I.hok.fresh hsz
    have J := I.newFn I1 hsz nf (Heap.get?_push_size _ rfl)
    have sm : ∀ b o, H b = some o → upd H h'.objs.size (PinO h'.objs.size (PySem.W.kla_obj "<lambda>" (X.env.qual ++ "<lambda>") params body scope (lamCl X scope) ((X.mg "__name__").getD .none) c' ctv)) b = some o := fun b o e => by rw [upd_ne (ne_of_none e nf)]; exact e
    exact ⟨.ref h'.objs.size, _, J, rfl, h _ _ (.of sm) (hT.ext sm) nf ⟨c', _, ctv, upd_same, sm _ _ hco⟩⟩
  | none =>
    refine PySem.W.kla_makeFunction (mg := X.mg) (c := c) (P := P) (ps := ps) (closure_ok has) I.ok.glob (I.mod.glob.keeps I.bk) hcode (TB.code.keeps I.bk) tab ht hc TB.gP blt fun c' ctv h' tk hx hge hlt hrec htb => ?_
    obtain ⟨c2, oc, vs, tq, e2, hoc, hd, hv⟩ := hrec
    cases e2
    have hsz : s.heap.objs.size ≤ h'.objs.size := Nat.le_trans hge (Nat.le_of_lt hlt)
    have nC : H c' = none := I.hok.fresh hge
    have nPC : P ≠ c' := ne_of_none hP nC
    have I1 := inv_table (t' := tk) (more := #[rawInt pos.line, rawInt pos.col, .ref c']) (h' := h'.push (PySem.W.kla_obj "<lambda>" (X.env.qual ++ "<lambda>") params body scope (lamCl X scope) ((X.mg "__name__").getD .none) c' ctv)) I hP
      (fun b o hb e => Heap.get?_push_of_some _ (hx b o hb e)) (Heap.get?_push_of_some _ htb) hge ⟨oc, vs, tq, Heap.get?_push_of_some _ hoc, hd, hv⟩
    have nf : upd (upd H P (.tbl (ps ++ #[rawInt pos.line, rawInt pos.col, .ref c']))) c' (CodeO c' (X.env.qual ++ "<lambda>")) h'.objs.size = none := by
      rw [upd_ne (Nat.ne_of_gt hlt), upd_ne (Nat.ne_of_gt (Nat.lt_of_lt_of_le (Heap.lt_size tab) hsz))]
      exact I.hok.fresh hsz
    have J := I.newFn I1 hsz nf (Heap.get?_push_size _ rfl)
    have eA : ∀ b o, H b = some o → (∀ qs, o ≠ .tbl qs) → upd (upd H P (.tbl (ps ++ #[rawInt pos.line, rawInt pos.col, .ref c']))) c' (CodeO c' (X.env.qual ++ "<lambda>")) b = some o := fun b o e n => by
      rw [upd_ne (ne_of_none e nC), upd_ne (fun z => n ps (Option.some.inj (e.symm.trans (by rw [z]; exact hP))))]
      exact e
    have tT : Tabs T (upd (upd H P (.tbl (ps ++ #[rawInt pos.line, rawInt pos.col, .ref c']))) c' (CodeO c' (X.env.qual ++ "<lambda>"))) := fun p hp => by
      have more : (ps ++ #[rawInt pos.line, rawInt pos.col, .ref c']).toList = ps.toList ++ [rawInt pos.line, rawInt pos.col, .ref c'] := by simp
      by_cases hb : p.1 = P
      · refine ⟨ps ++ #[rawInt pos.line, rawInt pos.col, .ref c'], by rw [hb, upd_ne nPC, upd_same], by rw [more]; exact PySem.TriplesOk_snoc _ _ _ _ ht, fun p' cv hcv => ?_⟩
        rw [more] at hcv
        rw [hu p hp hb]
        rcases among_app _ ht hcv with z | z
        · obtain ⟨c0, e1, e2⟩ := ha p' cv z
          exact ⟨c0, e1, eA _ _ e2 codeO_ne⟩
        · exact ⟨c', z, upd_same⟩
      · obtain ⟨qs, a1, a2, a3⟩ := hT p hp
        refine ⟨qs, by rw [upd_ne (ne_of_none a1 nC), upd_ne hb]; exact a1, a2, fun p' cv hcv => ?_⟩
        obtain ⟨c0, e1, e2⟩ := a3 p' cv hcv
        exact ⟨c0, e1, eA _ _ e2 codeO_ne⟩
    refine ⟨.ref h'.objs.size, _, J, rfl, h _ _ (fun b o e n => ?_) (tT.ext fun b o e => by rw [upd_ne (ne_of_none e nf)]; exact e) (I.hok.fresh hsz) ⟨c', _, ctv, upd_same, by rw [upd_ne (Nat.ne_of_lt hlt)]; exact upd_same⟩⟩
    have e' := eA b o e n
    rw [upd_ne (ne_of_none e' nf)]; exact e'
end
end L2
/-! list comprehensions whose items hand lambdas on -/
namespace L2
open PySem PySem.Spec PyProof.Rows LamX
/-- a block of X: what is known where it begins -/
structure BlkAt (X : Cx) (σ0 : St) (scope : Scope) (s : Shared) (H : Hp) (cl : List (Str × Addr)) (fp : List Addr) : Prop where
  inv : ∃ pins, Inv X pins σ0 H s ∧ ∀ b ∈ fp, FpOk X pins H b
  cl : cl = cellsFrom (s.heap.objs.size + 1) scope.names (cloFrom X.env.cells scope.names [])
/-- an item's expression in a block of X -/
def PEb (X : Cx) (scope : Scope) (vs : List Nat) (e : Expr) (t : TE) : Prop :=
  ∀ (σ0 : St) (s0 : Shared) (H0 : Hp) (C : Addr) (cl : List (Str × Addr)) (fp : List Addr), BlkAt X σ0 scope s0 H0 cl fp →
    ∀ (pins : List (Addr × Obj)) (s : Shared) (σ : St) (H : Hp) (Q : VK), wipe σ vs = wipe σ0 vs → Inv (X.blk s0 H0 scope (compEnvC scope cl C X.env) fp) pins σ H s → t σ H Q →
      wpAny (model X.prog X.w) X.A (eval e (compEnvC scope cl C X.env)) (EP (X.blk s0 H0 scope (compEnvC scope cl C X.env) fp) pins σ Q) (fun _ _ => False) s
theorem peb_of {X : Cx} {scope : Scope} {vs : List Nat} {e : Expr} {t : TE} (h : ∀ (s : Shared) (H : Hp) (C : Addr) (cl : List (Str × Addr)) (fp : List Addr), PE (X.blk s H scope (compEnvC scope cl C X.env) fp) e t) : PEb X scope vs e t :=
  fun _ s0 H0 C cl fp _ pins s σ H Q _ I q => (h s0 H0 C cl fp).run pins s σ H Q I q
section
variable {X : Cx}
theorem pe_lcX {elt tg iter : Expr} {ifs : List Expr} {scope : Scope} {own : List (Str × Nat)} {pos : Pos} {wi : TI} {g : TG} {tt : TT} {te : TE} (hc : X.calm = true) (hN : X.N.Nodup) (hi : PI X tg iter wi) (ok : BlkOk X.N X.env.scope scope own)
    (hg : ∀ (s : Shared) (H : Hp) (C : Addr) (cl : List (Str × Addr)) (fp : List Addr), PG (X.blk s H scope (compEnvC scope cl C X.env) fp) tg g) (ht : ∀ (s : Shared) (H : Hp) (C : Addr) (cl : List (Str × Addr)) (fp : List Addr), PTs (X.blk s H scope (compEnvC scope cl C X.env) fp) ifs tt)
    (he : PEb X scope (own.map (·.2)) elt te) (hs : ∀ x, foldedSetIterable iter X.env x = pure x := by intro _; rfl) :
    PE X (.ListComp elt [⟨tg, iter, ifs, 0⟩] scope pos) (tLc wi g tt te (own.map (·.2))) := by
  constructor
  intro pins s σ H Q I h
  rw [eval_ListComp]
  have caught : ∀ y ∈ scope.names, y.2 = .free → ∃ c, X.env.cells.lookup y.1 = some c := fun y hy e => (ok.free y hy e).elim (fun k => I.ok.has _ (.inl k)) fun k => I.ok.has _ (.inr k)
  refine wpAny_comprehension_free rfl hs (closure_ok caught) ok.kind (fun y hy e => by rw [ok.uniq y hy, e]) (thn (hi.run pins s σ H _ I h) fun xv s1 hx => thn hx fun itv s2 h2 => ?_)
  obtain ⟨it, fp, tn, J, H2, rfl, I2, T, st2, f2, q⟩ := h2
  refine wpAny_newObj_type (newEnv_comp ?_) (by show 0 ≤ sizeLine; decide)
  generalize hD : s2.heap.objs.size = D
  have nD : H2 D = none := I2.hok.fresh (Nat.le_of_eq hD)
  obtain ⟨W, ⟨m0, w0⟩, turn⟩ := q D nD
  have grow : ∀ {l : List Value} {b : Addr} {o : Obj}, s2.heap.get? b = some o → (s2.heap.push { cls := .type "list", data := .seq l.toArray }).get? b = some o := fun e => Heap.get?_push_of_some _ e
  have I3 : Inv X pins σ (upd H2 D (.lst [])) { s2 with heap := s2.heap.push { cls := .type "list", data := .seq ([] : List Value).toArray } } :=
    I2.laid (t' := s2.toks) (fun b o e => grow e) (Nat.le_of_eq hD) ⟨Nat.zero_le _, [], 0, .nil, by rw [← hD]; exact Heap.get?_push_size _ rfl⟩
  have f3 : ∀ b ∈ fp, FpOk X pins (upd H2 D (.lst [])) b ∧ b < (s2.heap.push { cls := .type "list", data := .seq ([] : List Value).toArray }).objs.size := fun b hb => by
    obtain ⟨o, e, _⟩ := T.obj _ _ st2 b hb
    have lt := Heap.lt_size e
    exact ⟨⟨by rw [upd_ne (by rw [← hD]; exact Nat.ne_of_lt lt)]; exact (f2 b hb).1, (f2 b hb).2⟩, by rw [Heap.size_push]; exact Nat.lt_succ_of_lt lt⟩
  have st3 := T.keep _ _ (s2.heap.push { cls := .type "list", data := .seq ([] : List Value).toArray }) st2 fun b _ o e => grow e
  generalize hs3 : ({ s2 with heap := s2.heap.push { cls := .type "list", data := .seq ([] : List Value).toArray } } : Shared) = s3 at I3 ⊢
  have e3 : s3.heap = s2.heap.push { cls := .type "list", data := .seq ([] : List Value).toArray } := by rw [← hs3]
  rw [← e3] at f3 st3
  have I4 := block_start I3 ok hN f3
  have B : BlkAt X σ scope s3 (upd H2 D (.lst [])) (cellsFrom (s3.heap.objs.size + 1) scope.names (cloFrom X.env.cells scope.names [])) fp := ⟨⟨pins, I3, fun b hb => (f3 b hb).1⟩, rfl⟩
  have pg := hg s3 (upd H2 D (.lst [])) s3.heap.objs.size (cellsFrom (s3.heap.objs.size + 1) scope.names (cloFrom X.env.cells scope.names [])) fp
  have pt := ht s3 (upd H2 D (.lst [])) s3.heap.objs.size (cellsFrom (s3.heap.objs.size + 1) scope.names (cloFrom X.env.cells scope.names [])) fp
  have pe := he σ s3 (upd H2 D (.lst [])) s3.heap.objs.size (cellsFrom (s3.heap.objs.size + 1) scope.names (cloFrom X.env.cells scope.names [])) fp B
  show codeAny _ _ (.compStart (.ListComp elt [⟨tg, iter, ifs, 0⟩] scope pos) 0 (.ref it) (.ref D) (compEnvC scope (cellsFrom (s3.heap.objs.size + 1) scope.names (cloFrom X.env.cells scope.names [])) s3.heap.objs.size X.env)) _ { s3 with heap := pushCells (s3.heap.push { cls := .type "dict", data := .dict #[] }) scope.names }
  have nfp : ∀ b ∈ fp, (upd H2 D (.lst [])) b = none := fun b hb => (f3 b hb).1.1
  generalize hce : compEnvC scope (cellsFrom (s3.heap.objs.size + 1) scope.names (cloFrom X.env.cells scope.names [])) s3.heap.objs.size X.env = ce at I4 pg pt pe ⊢
  have cL : ce.locals = s3.heap.objs.size := by subst hce; rfl
  generalize upd H2 D (.lst []) = H3 at I3 I4 pg pt pe w0 nfp f3
  generalize hs4 : ({ s3 with heap := pushCells (s3.heap.push { cls := .type "dict", data := .dict #[] }) scope.names } : Shared) = s4 at I4 ⊢
  have st4 : tn 0 s4.heap := T.keep _ _ _ st3 fun b _ o e => by rw [← hs4]; exact pushCells_keeps _ _ _ _ (Heap.get?_push_of_some _ e)
  have still : ∀ {σ' : St} {H' : Hp} {s' : Shared}, Inv (X.blk s3 H3 scope ce fp) [] σ' H' s' → (∀ b ∈ fp, H' b = none) → ∀ b ∈ fp, FpOk (X.blk s3 H3 scope ce fp) [] H' b := fun {σ' H' s'} I' hn b hb =>
    ⟨hn b hb, (I'.ok.exf b hb).1, I'.ok.exfs b hb, .inl hb, fun x c e => (I'.ok.exf b hb).2 x c e, fun p hp => absurd (show p ∈ ([] : List (Addr × Obj)) ++ [] from hp) (by simp)⟩
  have loop : codeAny (model X.prog X.w) X.A (.compLoop (.ListComp elt [⟨tg, iter, ifs, 0⟩] scope pos) 0 (.ref it) (.ref D) ce) (compPost (model X.prog X.w) X.A X.xe none (EP X pins σ Q) (.ref D) s3.heap.objs.size) s4 := by
    refine compLoop_any (fun n s' => ∃ i H', Inv (X.blk s3 H3 scope ce fp) [] (wipe σ (own.map (·.2))) H' s' ∧ tn i s'.heap ∧ (∀ b ∈ fp, H' b = none) ∧ W i n H') ?_ m0 ⟨0, H3, I4, st4, nfp, w0⟩
    rintro n s5 ⟨i, H5, I5, st5, n5, w5⟩
    rcases turn i n H5 w5 with ⟨stop, qq⟩ | ⟨go, Nx, hNx, step⟩
    · refine thnF (T.done (X.blk s3 H3 scope ce fp) rfl rfl rfl hc i [] s5 _ H5 (fun _ _ => False) I5 (still I5 n5) st5 stop) fun r s6 ⟨hr, I6⟩ => ?_
      subst hr
      have I7 : Inv X pins σ H5 s6 := I3.call' (ch := fp) I6.os I6.base I6.hok I6.bare fun b hb => ⟨(f3 b hb).1.2.2.2.1, (f3 b hb).1.2.1, (f3 b hb).1.2.2.2.2.1, (f3 b hb).1.2.2.2.2.2⟩
      have nC : H5 s3.heap.objs.size = none := by
        have z : H5 ce.locals = none := I6.free
        rw [cL] at z; exact z
      obtain ⟨m, hn, _⟩ := I6.loc
      have hn : s6.heap.Ns ce.locals m := hn
      rw [cL] at hn
      obtain ⟨g0, g1, g2, g3, g4, g5⟩ := I3.fpOk (Nat.le_refl s3.heap.objs.size) nC
      exact ⟨m, hn, fun h'' sb => ⟨.ref D, H5, I7.turned (t' := s6.toks) (fun b o hb e => (sb.2 b hb).trans e) g0 g1 g3 g4 g5, rfl, qq⟩⟩
    · refine thnF (T.item (X.blk s3 H3 scope ce fp) rfl rfl rfl hc i [] s5 _ H5 (fun _ _ => False) I5 (still I5 n5) st5 go) fun r s6 ⟨u, hr, h6⟩ => ?_
      subst hr
      refine thnF h6 fun _ s7 ⟨x, H7, I7, r7, y7, st7, n7⟩ => ?_
      have J7 := I7.pinned (still I7 n7) (T.obj _ _ st7)
      refine thnF (pg.run _ s7 _ H7 x u _ J7 r7 (step x H7 y7)) fun _ s8 ⟨σ8, H8, I8, hw8, q8⟩ => ?_
      refine thnF (pt.run _ s8 σ8 H8 _ I8 q8) fun b s9 ⟨H9, I9, q9⟩ => ?_
      have next : ∀ {s' : Shared} {H' : Hp}, Inv (X.blk s3 H3 scope ce fp) ([] ++ pinsAt fp s7.heap) σ8 H' s' → Nx H' → ∃ m, m < n ∧ ∃ i H', Inv (X.blk s3 H3 scope ce fp) [] (wipe σ (own.map (·.2))) H' s' ∧ tn i s'.heap ∧ (∀ b ∈ fp, H' b = none) ∧ W i m H' := fun {s' H'} I' nx => by
        obtain ⟨m', hm, w'⟩ := hNx H' nx
        have pp : ∀ b ∈ fp, ∀ o, s7.heap.get? b = some o → s'.heap.get? b = some o ∧ H' b = none := fun b hb o e =>
          have z := I'.pin (b, o) (List.mem_append_right _ (List.mem_append_right _ (mem_pinsAt hb e)))
          ⟨z.1, z.2.1⟩
        refine ⟨m', hm, i + 1, H', (I'.unpinned (pins := [])).weak (by rw [← wipe_length σ8 (own.map (·.2)), hw8]) (fun j v e => ?_), T.keep _ _ _ st7 fun b hb o e => (pp b hb o e).1, fun b hb => ?_, w'⟩
        · rw [← hw8] at e; exact (wipe_some e).1
        · obtain ⟨o, e, _⟩ := T.obj _ _ st7 b hb
          exact (pp b hb o e).2
      cases b with
      | false =>
        simp only [Bool.false_eq_true, if_false] at q9 ⊢
        exact next I9 q9
      | true =>
        simp only [if_true] at q9 ⊢
        refine thnF (pe _ s9 σ8 H9 _ hw8 I9 q9) fun z s10 ⟨yv, H10, I10, r10, acc, hD10, hz10, nx⟩ => ?_
        exact app_ok (X := X.blk s3 H3 scope ce fp) I10 hD10 hz10 r10 fun s11 I11 => next I11 nx
  exact codeAny_compStart_list loop (T.self X.A 0 _ _ _ st4 loop)
end
end L2
/-! within a comprehension: calls that hand on lambdas of the def around -/
namespace L2
open PySem PySem.Spec PyProof.Rows LamX
theorem wipe_get {σ : St} {i : Nat} : ∀ {vs : List Nat}, i ∉ vs → (wipe σ vs)[i]? = σ[i]?
  | [], _ => rfl
  | v :: vs, h => by
    unfold wipe
    rw [List.getElem?_set_ne (fun z => h (by rw [z]; exact List.mem_cons_self))]
    exact wipe_get fun m => h (List.mem_cons_of_mem _ m)
section
variable {P : Program} {w : World} {K : PySem.W.Frag} {mg : Str → Option Value} {base : Heap} {A : Around} {outer : List Env} {s : Shared} {H : Hp}
/-- objects that nobody knows, pinned -/
theorem pin_state (e0 : Env0 P w K mg base A outer s H) (cs : List Addr) (h : ∀ c ∈ cs, H c = none ∧ c ∉ frs outer ∧ base.get? c = none) :
    ∃ HZ, dropC cs HZ = H ∧ Pins cs HZ ∧ (∀ c ∈ cs, HZ c = (s.heap.get? c).map (PinO c)) ∧ (∀ b, b ∉ cs → HZ b = H b) ∧ Env0 P w K mg base A outer s HZ := by
  let HZ : Hp := fun b => if b ∈ cs then (s.heap.get? b).map (PinO b) else H b
  have hin : ∀ {b}, b ∈ cs → HZ b = (s.heap.get? b).map (PinO b) := fun m => if_pos m
  have hout : ∀ {b}, b ∉ cs → HZ b = H b := fun m => if_neg m
  have keep : ∀ {b u}, H b = some u → HZ b = some u := fun {b u} q => by rw [hout (fun m => by rw [(h b m).1] at q; cases q)]; exact q
  refine ⟨HZ, ?_, fun c m => ?_, fun c m => hin m, fun b m => hout m, ⟨e0.frames, e0.mod, fun b o e => ⟨(e0.bs b o e).1, ?_⟩, e0.bsz, e0.funs, fun b hb => ?_, fun b u e => ?_, e0.bare⟩⟩
  · funext b
    by_cases m : b ∈ cs
    · rw [dropC_in m, (h b m).1]
    · rw [dropC_out m, hout m]
  · rw [hin m]
    cases s.heap.get? c with
    | none => exact .inl rfl
    | some o => exact .inr ⟨o, rfl⟩
  · rw [hout (fun m => by rw [(h b m).2.2] at e; cases e)]
    exact (e0.bs b o e).2
  · rw [hout (fun m => (h b m).2.1 hb)]; exact e0.frf b hb
  · by_cases m : b ∈ cs
    · rw [hin m] at e
      cases q : s.heap.get? b with
      | none => rw [q] at e; cases e
      | some o => rw [q] at e; cases e; exact pinO_ok q
    · rw [hout m] at e
      exact (e0.hok b u e).stay (fun _ _ _ q => q) (fun c q => keep q) fun c xs q => keep q
end
section
variable {X : Cx} {x : Str} {k : Nat} {ps : List Str} {sp : Sp} {e : Expr} {es : List Expr} {t : TA} {p pos : Pos} {scope : Scope} {vs : List Nat}
/-- g(e, ..) in a comprehension, where lambdas that the def around made are handed on -/
theorem peb_fdC (ys : List Str) (hk : ∀ y ∈ ys, InCell X y) (hf : NoFr X ys) (hv : ∀ y ∈ ys, ∀ i, X.N[i]? = some y → i ∉ vs) (G : Fp.FdG X.prog X.w X.K X.mg X.base CX0 x k ps sp) (hr : Room k X.A) (hgu : X.A.guards = some [])
    (hg : ∀ (s : Shared) (H : Hp) (C : Addr) (cl : List (Str × Addr)) (fp : List Addr), Gl (X.blk s H scope (compEnvC scope cl C X.env) fp) x)
    (ha : ∀ (s : Shared) (H : Hp) (C : Addr) (cl : List (Str × Addr)) (fp : List Addr), PA (X.blk s H scope (compEnvC scope cl C X.env) fp) (e :: es) t) (hdb : (x == ("__debug__" : Str)) = false := by decide)
    (he : ∀ env : Env, starEach (e :: es) env = (false, eval e env) :: starEach es env := by intro _; rfl) (hpl : ∀ env : Env, (backTo pos (starEach es env)).any (·.1) = false := by intro _; rfl) :
    PEb X scope vs (.Call (.Name x p) (e :: es) [] pos) (tCallC X ys sp t) := by
  obtain ⟨f, fd, hm, hkk, hb, F⟩ := G.ex
  intro σ0 s0 H0 C cl fp B pins s σ H Q hw I h
  obtain ⟨⟨pins0, I0, hfp⟩, _⟩ := B
  refine wpAny_Call_Name_kw (ld_glob (X := X.blk s0 H0 scope (compEnvC scope cl C X.env) fp) I (hg s0 H0 C cl fp) hm ?_ hdb)
  refine PySem.W.callWith_K (h₀ := X.base) I.ok.mod.kin hkk (thn ((ha s0 H0 C cl fp).run pos pins s σ H _ I h) fun us s1 ⟨ws, H1, I1, r, q⟩ => ⟨I1.kIn, ?_⟩) (he _) (hpl _)
  let cs : List Addr := ((cellsOf X ys).map (·.2)).filter fun c => (X.base.get? c).isNone
  have csm : ∀ {c}, c ∈ cs → (∃ y, y ∈ ys ∧ X.env.cells.lookup y = some c) ∧ X.base.get? c = none := fun {c} m => by
    obtain ⟨m1, m2⟩ := List.mem_filter.mp m
    obtain ⟨⟨y, c'⟩, h, rfl⟩ := List.mem_map.mp m1
    exact ⟨⟨y, cellsOf_mem.mp h⟩, Option.isNone_iff_eq_none.mp m2⟩
  have nfr : ∀ y ∈ ys, ∀ c, X.env.cells.lookup y = some c → c ∉ frs X.stack := fun y hy c e z => by
    rcases List.mem_cons.mp (I0.stkSub c z) with q | q
    · exact I0.cne y c e q
    · exact hf I0.ok y hy c e q
  have nfp : ∀ y c, X.env.cells.lookup y = some c → c ∉ fp := fun y c e m => (hfp c m).2.2.2.2.1 y c e rfl
  -- what stands there since the block began
  have here : ∀ y ∈ ys, ∀ c, X.env.cells.lookup y = some c → ∃ o ov, s1.heap.get? c = some o ∧ H1 c = none ∧ s0.heap.get? c = some o ∧ o.data = .cell ov := fun y hy c e => by
    obtain ⟨ov, o, ho, hd⟩ := I0.cell y c e
    have n0 := I0.freeC y c e
    exact ⟨o, ov, I1.base.keep c o ho n0 (nfr y hy c e) (nfp y c e), I1.base.free c o ho n0 (nfp y c e), ho, hd⟩
  obtain ⟨HZ, e1, e2, e3, e4, e0⟩ := pin_state I1.env0 cs fun c m => by
    obtain ⟨⟨y, hy, e⟩, hb⟩ := csm m
    obtain ⟨_, _, _, n, _⟩ := here y hy c e
    exact ⟨n, nfr y hy c e, hb⟩
  have cA : CellsAt X.N X.base σ (cellsOf X ys) HZ := fun y c e => by
    obtain ⟨hy, e⟩ := cellsOf_lookup.mp e
    obtain ⟨o, ov, h1, n1, h0, hd⟩ := here y hy c e
    refine ⟨o, ov, ?_, hd, fun i v a1 a2 => ?_⟩
    · by_cases m : c ∈ cs
      · exact .inl (by rw [e3 c m, h1]; rfl)
      · right
        refine ⟨by rw [e4 c m]; exact n1, ?_⟩
        cases q : X.base.get? c with
        | none => exact absurd (List.mem_filter.mpr ⟨List.mem_map.mpr ⟨(y, c), cellsOf_mem.mpr ⟨hy, e⟩, rfl⟩, by rw [q]; rfl⟩) m
        | some o' =>
          have := (I0.bs c o' q).1
          rw [h0] at this; cases this; rfl
    · have ni := hv y hy i a1
      have a0 : σ0[i]? = some (some v) := by rw [← wipe_get ni, ← hw, wipe_get ni]; exact a2
      obtain ⟨mm, _, hl⟩ := I0.loc
      obtain ⟨u, r, q⟩ := hl i y v a1 a0 ((hk y hy).elim (fun z => .inr (.inl z)) (fun z => .inr (.inr z)))
      rcases q with ⟨k, _⟩ | ⟨_, c', e', o', ho', hd'⟩
      · have k : X.env.scope.names.lookup y = some .local := k
        rcases hk y hy with z | z <;> rw [z] at k <;> cases k
      · rw [e] at e'; cases e'
        rw [h0] at ho'; cases ho'
        rw [hd] at hd'; cases hd'
        exact ⟨u, rfl, r⟩
  have eP : Pinned cs HZ := fun c m => by
    obtain ⟨⟨y, hy, e⟩, _⟩ := csm m
    obtain ⟨o, _, h1, _⟩ := here y hy c e
    exact ⟨o, by rw [e3 c m, h1]; rfl⟩
  have q1 := q I0.ok I1.len cs HZ e1 eP cA
  have r2 : Vals (ws ++ []) (us ++ []) := r.append .nil
  rw [List.append_nil, List.append_nil] at r2
  have hl : us.length = ps.length := by rw [← r2.length]; exact F.len _ _ _ _ q1
  have bb := hb s1 us I1.kIn (by rw [List.append_nil]; exact hl)
  rw [List.append_nil] at bb
  refine wpAny_call (codeAny_mono (F.run X.A X.stack s1 HZ ⟨us, []⟩ us ws _ E0 hr hgu e0 bb r2 q1) fun r s' hq => ?_)
  cases r with
  | error er => exact (show False from hq)
  | ok fl =>
    cases fl with
    | ret u =>
      obtain ⟨v, H', os, bare, un, hok, rv, hp, qq⟩ := hq
      refine I1.after ⟨v, dropC cs H', os, bare, ?_, hok_drop hok (fun c m => by rw [hp c m]; exact e2 c m), rv, qq⟩
      rw [← e1]
      exact un_drop e2 hp e0.hok hok un fun c m => by
        obtain ⟨⟨y, hy, e⟩, _⟩ := csm m
        exact nfr y hy c e
    | next => exact False.elim hq
    | brk => exact False.elim hq
    | cont => exact False.elim hq
end
end L2
namespace L2
open PySem PySem.Spec PyProof.Rows LamX
/-- within a block, too, cells are no frames -/
theorem noFr_blk {X : Cx} {scope : Scope} {own : List (Str × Nat)} {ys : List Str} {σ0 : St} {s : Shared} {H : Hp} {C : Addr} {cl : List (Str × Addr)} {fp : List Addr} (okb : BlkOk X.N X.env.scope scope own) (hf : NoFr X ys) (B : BlkAt X σ0 scope s H cl fp) :
    NoFr (X.blk s H scope (compEnvC scope cl C X.env) fp) ys := fun _ y hy c e m => by
  obtain ⟨⟨pins0, I0, _⟩, hcl⟩ := B
  have e : cl.lookup y = some c := e
  have m : c ∈ frs X.stack := m
  rw [hcl] at e
  have mem := PySem.mem_of_lookup e
  rw [← Heap.size_push s.heap { cls := .type "cell", data := .cell none }] at mem
  rcases cells_mem mem with q | ⟨_, q, _⟩
  · rcases cloFrom_mem q with q | ⟨q1, q2⟩
    · cases q
    · obtain ⟨c1, hc⟩ : ∃ c1, X.env.cells.lookup y = some c1 := by
        rcases okb.free _ q1 rfl with k | k
        · exact I0.ok.has _ (.inl k)
        · exact I0.ok.has _ (.inr k)
      have ec : c = c1 := by rw [q2, hc]; rfl
      subst ec
      rcases List.mem_cons.mp (I0.stkSub c m) with z | z
      · exact I0.cne y c hc z
      · exact hf I0.ok y hy c hc z
  · obtain ⟨_, o, ho, _⟩ := I0.stack.mem m
    rw [Heap.size_push] at q
    exact Nat.lt_irrefl _ (Nat.lt_of_lt_of_le (Heap.lt_size ho) (Nat.le_of_succ_le q))
def tAllB (t : Shared → Hp → Addr → List (Str × Addr) → List Addr → TE) : TE := fun σ H Q => ∀ s0 H0 C cl fp, t s0 H0 C cl fp σ H Q
theorem all_in {t : Shared → Hp → Addr → List (Str × Addr) → List Addr → TE} {σ : St} {H : Hp} {Q : VK} (h : ∀ s0 H0 C cl fp, t s0 H0 C cl fp σ H Q) : tAllB t σ H Q := h
/-- an item's expression, whatever the block -/
theorem peb_all {X : Cx} {scope : Scope} {vs : List Nat} {e : Expr} {t : Shared → Hp → Addr → List (Str × Addr) → List Addr → TE}
    (h : ∀ (σ0 : St) (s : Shared) (H : Hp) (C : Addr) (cl : List (Str × Addr)) (fp : List Addr), BlkAt X σ0 scope s H cl fp → PE (X.blk s H scope (compEnvC scope cl C X.env) fp) e (t s H C cl fp)) :
    PEb X scope vs e (tAllB t) :=
  fun σ0 s0 H0 C cl fp B pins s σ H Q _ I q => (h σ0 s0 H0 C cl fp B).run pins s σ H Q I (q s0 H0 C cl fp)
end L2
/-! the end of a law whose defs make lambdas and show data -/
namespace L2
open PySem PySem.Spec PyProof.Rows LamX
theorem law_callTG {P : Program} {w : World} {K : PySem.W.Frag} {mg mb : Str → Option Value} {CX : CXT} {k : Nat} {fa a : Addr} {cs : List (Addr × Addr)} {fd : FuncData} {x : Str} {sp : Sp} {s₁ : Shared} {vs : List Value} {ns : List Int}
    (KX : K.In s₁.heap) (hns : s₁.heap.Ns mainGlobals mg) (hb : s₁.heap.Ns builtinsNs mb) (hbb : ∀ x : Str, x ≠ "__name__" → mb x = bootBuiltins x) (hlim : s₁.heap.NoLimit) (hg : s₁.gens = #[])
    (hT : ∀ p ∈ cs, s₁.heap.get? p.2 = some { cls := .none, data := .fields #[] }) (nT : ∀ p ∈ cs, K.lookup p.2 = none) (C : ∀ p ∈ cs, PySem.W.CodeHd s₁.heap p.1 p.2)
    (hbm : ∃ (bm : Addr) (ob : Obj), mg "__builtins__" = some (.ref bm) ∧ bm ≠ builtinsNs ∧ s₁.heap.get? bm = some ob ∧ ob.cls = .type "module" ∧ ob.dict = some builtinsNs ∧ ob.data = .plain)
    (ha : s₁.heap.get? a = some { cls := .type "list", data := .seq vs.toArray }) (hi : IntsAre vs ns) (hl : ns.length ≤ sizeLine) (hr : Room k callerA)
    (F : ∀ base : Heap, K.In base → base.Ns mainGlobals mg → (∀ p ∈ cs, TabB base mg p.1 p.2) → FnOkG P w K mg base CX k fa fd [x] sp) (hbind : ∀ (s : Shared) (u : Value), BindsTo s fd ⟨[u], []⟩ [(x, u)])
    (hsp : ∀ H : Hp, (∀ p ∈ cs, H p.2 = some (.tbl #[])) → (∀ b qs, H b = some (.tbl qs) → b ∈ cs.map (·.2)) → SqL K H a (ns.map V.int) → sp [.ref a] H (fun v _ => v = .bl true) fun _ _ _ => False)
    (hCX : ∀ H e s', CX [] H s₁ (fun _ _ _ => False) e s' → False) :
    codeAny (model P w) callerA (.call (.ref fa) ⟨[.ref a], []⟩) (fun r s' => r = .ok (.ret (.bool true)) ∧ OldK s₁.heap s'.heap ∧ s'.os = s₁.os ∧ AllBare s'.gens) s₁ := by
  have rv := vals_ints hi
  have lenV := hi.length
  have tab : ∀ b, b ∈ cs.map (·.2) → s₁.heap.get? b = some { cls := .none, data := .fields #[] } ∧ K.lookup b = none := fun b hb => by
    obtain ⟨p, hp, rfl⟩ := List.mem_map.mp hb
    exact ⟨hT p hp, nT p hp⟩
  have inT : ∀ p ∈ cs, p.2 ∈ cs.map (·.2) := fun p hp => List.mem_map.mpr ⟨p, hp, rfl⟩
  have aT : a ∉ cs.map (·.2) := fun z => by
    have q := (tab a z).1
    rw [ha] at q
    have z' : Data.seq vs.toArray _ = Data.fields #[] := congrArg Obj.data (Option.some.inj q)
    cases z'
  -- the script is locked, unless it is one of the module's own objects
  let H : Hp := fun b => if b ∈ cs.map (·.2) then some (.tbl #[]) else if b = a ∧ K.lookup a = none then some (.frz { cls := .type "list", data := .seq vs.toArray } (.lst (ns.map V.int))) else none
  have hTab : ∀ b, b ∈ cs.map (·.2) → H b = some (.tbl #[]) := fun b m => if_pos m
  have hOut : ∀ b, b ∉ cs.map (·.2) → H b = if b = a ∧ K.lookup a = none then some (.frz { cls := .type "list", data := .seq vs.toArray } (.lst (ns.map V.int))) else none := fun b m => if_neg m
  have kinds : ∀ b u, H b = some u → (b ∈ cs.map (·.2) ∧ u = .tbl #[]) ∨ (b = a ∧ K.lookup a = none ∧ u = .frz { cls := .type "list", data := .seq vs.toArray } (.lst (ns.map V.int))) := fun b u e => by
    by_cases m : b ∈ cs.map (·.2)
    · rw [hTab b m] at e; cases e; exact .inl ⟨m, rfl⟩
    · rw [hOut b m] at e
      by_cases q : b = a ∧ K.lookup a = none
      · rw [if_pos q] at e; cases e; exact .inr ⟨q.1, q.2, rfl⟩
      · rw [if_neg q] at e; cases e
  have hok : HOk P w H s₁.heap := fun b u e => by
    rcases kinds b u e with ⟨m, rfl⟩ | ⟨rfl, _, rfl⟩
    · exact (tab b m).1
    · exact ⟨ha, by rw [List.length_map]; exact hl, vs, _, rv, ha⟩
  have hS : SqL K H a (ns.map V.int) := by
    cases hk : K.lookup a with
    | none => exact .inl (.inr ⟨_, by rw [hOut a aT, if_pos ⟨rfl, hk⟩]⟩)
    | some o =>
      have e := KX a o hk
      rw [ha] at e; cases e
      exact .inr ⟨_, vs.toArray, _, hk, rfl, rfl, rfl, by rw [List.size_toArray, lenV]; exact hl, by simpa using rv⟩
  have other : ∀ {b : Addr} {o : Obj}, s₁.heap.get? b = some o → (∀ vs n, o.data ≠ .seq vs n) → o.data ≠ .fields #[] → H b = none := fun {b o} e h1 h2 => by
    cases q : H b with
    | none => rfl
    | some u =>
      rcases kinds b u q with ⟨m, _⟩ | ⟨rfl, _, _⟩
      · rw [(tab b m).1] at e; cases e; exact (h2 rfl).elim
      · rw [ha] at e; cases e; exact (h1 _ _ rfl).elim
  have keep : ∀ {b : Addr} {o : Obj}, s₁.heap.get? b = some o → H b = none → (hidT s₁.heap H).get? b = some o := fun e n => hidT_get e n
  have dict : ∀ {b : Addr} {m : Str → Option Value}, s₁.heap.Ns b m → (hidT s₁.heap H).Ns b m := fun {b m} ⟨o, es, ep, e, d, r⟩ => ⟨o, es, ep, keep e (other e (fun vs n z => by rw [d] at z; cases z) fun z => by rw [d] at z; cases z), d, r⟩
  have hKb : K.In (hidT s₁.heap H) := fun b o e => keep (KX b o e) (by
    cases q : H b with
    | none => rfl
    | some u =>
      rcases kinds b u q with ⟨m, _⟩ | ⟨rfl, n, _⟩
      · rw [(tab b m).2] at e; cases e
      · rw [n] at e; cases e)
  have hM : L2.Mod K mg (hidT s₁.heap H) := ⟨hKb, dict hns, ⟨mb, dict hb, hbb⟩, let ⟨mc, h1, h2⟩ := hlim; ⟨mc, dict h1, h2⟩⟩
  have TB : ∀ p ∈ cs, TabB (hidT s₁.heap H) mg p.1 p.2 := fun p hp => by
    have hP := hT p hp
    refine ⟨?_, ?_, fun z => ?_⟩
    · obtain ⟨o, us, file, tf, flags, tg, inF, text, tt, e1, r1, r2, r3, r⟩ := C p hp
      refine ⟨o, us, file, tf, flags, tg, inF, text, tt, keep e1 (other e1 (fun vs n z => ?_) fun z => ?_), r1, r2, r3, r⟩
      · rw [r2] at z; cases z
      · rw [r2] at z; cases z; simp at r3
    · obtain ⟨bm, ob, b1, b2, b3, b4, b5, b6⟩ := hbm
      refine ⟨bm, ob, b1, b2, fun q => ?_, fun q => ?_, keep b3 (other b3 (fun vs n z => ?_) fun z => ?_), b4, b5, b6⟩
      · obtain ⟨o, es, ep, e, hd, _⟩ := hns
        rw [q, e] at b3; cases b3
        rw [hd] at b6; cases b6
      · rw [q, hP] at b3; cases b3; cases b6
      · rw [b6] at z; cases z
      · rw [b6] at z; cases z
    · obtain ⟨o, es, ep, e, hd, _⟩ := hns
      rw [z, hP] at e; cases e; cases hd
  have e0 : Env0 P w K mg (hidT s₁.heap H) callerA [] s₁ H := ⟨rfl, hM, fun b o e => of_hidT e, Nat.le_of_eq (hidT_size _ _), trivial, fun b hb => absurd (show b ∈ ([] : List Addr) from hb) (by simp), hok, .of_eq hg⟩
  refine codeAny_mono ((F _ hKb (dict hns) TB).run callerA [] s₁ H ⟨[.ref a], []⟩ [.ref a] [.ref a] _ _ hr rfl e0 (hbind s₁ (.ref a)) (.cons rfl .nil) (hsp H (fun p hp => hTab _ (inT p hp)) (fun b qs e => ?_) hS)) fun r s' h => ?_
  · rcases kinds b _ e with ⟨m, _⟩ | ⟨_, _, z⟩
    · exact m
    · cases z
  cases r with
  | error e => exact (hCX H e s' h).elim
  | ok fl =>
    cases fl with
    | next => exact False.elim h
    | brk => exact False.elim h
    | cont => exact False.elim h
    | ret u =>
      obtain ⟨v, H', os, bare, un, hok', r', q⟩ := h
      have q' : v = .bl true := q
      subst q'
      obtain rfl : u = Value.bool true := r'
      have old : ∀ b o, b ∉ cs.map (·.2) → s₁.heap.get? b = some o → s'.heap.get? b = some o := fun b o nb e => by
        cases q : H b with
        | none => exact un.keep b o e q (by intro z; exact absurd (show b ∈ ([] : List Addr) from z) (by simp)) (by simp)
        | some u =>
          rcases kinds b u q with ⟨m, _⟩ | ⟨rfl, _, rfl⟩
          · exact absurd m nb
          · obtain ⟨e2, _⟩ := hok' b _ (un.frzs b _ _ q)
            rw [ha] at e; cases e
            exact e2
      have grown : ∀ p ∈ cs, ∃ more : Array Value, s'.heap.get? p.2 = some { cls := .none, data := .fields more } := fun p hp => by
        obtain ⟨more, z⟩ := un.tbls p.2 #[] (hTab _ (inT p hp))
        exact ⟨_, hok' p.2 _ z⟩
      refine ⟨rfl, ⟨fun b o e => ?_, fun b o e => ?_⟩, os, bare⟩
      · by_cases m : b ∈ cs.map (·.2)
        · obtain ⟨p, hp, rfl⟩ := List.mem_map.mp m
          obtain ⟨more, hm⟩ := grown p hp
          rw [hT p hp] at e; cases e
          exact .inr (.inl ⟨((C p hp).tab (hT p hp)).isCodeTable, rfl, #[], more, rfl, by rw [Array.empty_append]; exact hm⟩)
        · exact .inl (old b o m e)
      · by_cases m : b ∈ cs.map (·.2)
        · obtain ⟨p, hp, rfl⟩ := List.mem_map.mp m
          obtain ⟨more, hm⟩ := grown p hp
          exact ⟨_, hm⟩
        · exact ⟨o, old b o m e⟩
end L2
/-! the walk to the end of such a law -/
namespace L2
open PySem PySem.Spec PyProof.Rows LamX
/-- what is known of the law's promise; xs: the defs that make lambdas -/
def LawAtT (l : PySem.W.OpenLaw) (w : World) (K : PySem.W.Frag) (CX : CXT) (k n : Nat) (x : Str) (xs : List Str) (mg : Str → Option Value) (fa : Addr) : Prop :=
  ∃ (fd : FuncData) (cs : List (Addr × Addr)) (sp : Sp), (∀ p ∈ cs, ∃ y ∈ xs, PySem.W.tabIn K y = some p) ∧ (∀ p ∈ cs, K.lookup p.2 = none) ∧ (∀ (s : Shared) (u : Value), BindsTo s fd ⟨[u], []⟩ [(x, u)]) ∧
    (∀ (H : Hp) (a : Addr) (ns : List Int), ns.length ≤ n → (∀ p ∈ cs, H p.2 = some (.tbl #[])) → (∀ b qs, H b = some (.tbl qs) → b ∈ cs.map (·.2)) → SqL K H a (ns.map V.int) → sp [.ref a] H (fun v _ => v = .bl true) fun _ _ _ => False) ∧
    ∀ base : Heap, K.In base → base.Ns mainGlobals mg → (∀ p ∈ cs, TabB base mg p.1 p.2) → FnOkG l.prog w K mg base CX k fa fd [x] sp
theorem walk_ofTG {l : PySem.W.OpenLaw} {n k : Nat} {q : Program} {loose : List Str} {XP : (Str → Option Value) → Heap → Prop} {YP : World → Heap → Prop} {d : DefRec} {K : Params → PySem.W.Frag} {CX : World → CXT} {x : Str} {xs : List Str}
    (hn : l.most = some n) (hn2 : n ≤ sizeLine) (hdf : d.params.defaults = []) (hr : Room k callerA) (hrec : (xs.all fun y => (recsOf q).any fun e => e.name == y) = true) (hY : ∀ (w : World) (h : Heap), YP w h → (K w.params).In h)
    (F : ∀ (w : World) (mg : Str → Option Value) (fa : Addr) (h : Heap), (K w.params).In h → h.Ns mainGlobals mg → mg d.name = some (.ref fa) → LawAtT l w (K w.params) (CX w) k n x xs mg fa)
    (hCX : ∀ (w : World) (H : Hp) (s : Shared) (e : Value) (s' : Shared), CX w [] H s (fun _ _ _ => False) e s' → False) :
    PySem.W.WalkO q loose XP YP l.row.toRowW d [] (fun f vs => PySem.call f vs) := by
  refine Att.attach_callB hn hdf fun w s₀ s₁ mg mb fa o pm cd doc a vs ns G Y ho hd hcd hmg hobj hints hlen hbits hg => ?_
  have KX := hY w _ Y
  obtain ⟨fd, cs, sp, hcs, nT, hb, hsp, hF⟩ := F w mg fa _ KX G.T.g hmg
  have tabs : ∀ p ∈ cs, PySem.W.CodeHd s₁.heap p.1 p.2 ∧ s₁.heap.get? p.2 = some { cls := .none, data := .fields #[] } := fun p hp => by
    obtain ⟨y, hy, ht⟩ := hcs p hp
    obtain ⟨dL, hm, he⟩ := List.any_eq_true.mp (List.all_eq_true.mp hrec y hy)
    obtain ⟨dF, hF⟩ : ∃ dF, (recsOf q).find? (fun e => e.name == y) = some dF := Option.isSome_iff_exists.mp (List.find?_isSome.mpr ⟨dL, hm, he⟩)
    exact PySem.W.tab_of G.T KX hF ht
  exact law_callTG KX G.T.g G.T.b G.T.builtins G.T.nolimit hg (fun p hp => (tabs p hp).2) nT (fun p hp => (tabs p hp).1) G.T.bmain hobj hints (Nat.le_trans hlen hn2) hr hF hb (fun H hH hN hS => hsp H a ns hlen hH hN hS) fun H e s' => hCX w H s₁ e s'
end L2
/-! values of any kind, as data -/
namespace Fp
open PySem PySem.Spec PyProof.Rows L2 LamX
mutual
inductive DA (H : Hp) : V → PyData → Prop where
  | non : DA H .non .none
  | bl (b : Bool) : DA H (.bl b) (.bool b)
  | int (i : Int) : DA H (.int i) (.int i)
  | str (z : Str) : DA H (.str z) (.str z)
  | tup {a : Addr} {xs : List V} {ds : List PyData} : H a = some (.tup xs) → DAs H xs ds → DA H (.ref a) (.tuple ds)
  | lst {a : Addr} {xs : List V} {ds : List PyData} : H a = some (.lst xs) → DAs H xs ds → DA H (.ref a) (.list ds)
  | dct {a : Addr} : H a = some (.dK []) → DA H (.ref a) (.dict [])
inductive DAs (H : Hp) : List V → List PyData → Prop where
  | nil : DAs H [] []
  | cons {v vs d ds} : DA H v d → DAs H vs ds → DAs H (v :: vs) (d :: ds)
end
/-- what is no table stays -/
theorem ExtN.at_ {H H' : Hp} (g : ExtN H H') {a : Addr} {o : HO} (h : H a = some o) (n : ∀ ps, o ≠ .tbl ps) : H' a = some o := g a o h n
mutual
theorem DA.ext {H H' : Hp} (g : ExtN H H') : ∀ {v : V} {d : PyData}, DA H v d → DA H' v d
  | _, _, .non => .non
  | _, _, .bl b => .bl b
  | _, _, .int i => .int i
  | _, _, .str z => .str z
  | _, _, .tup h t => .tup (g _ _ h fun _ z => by cases z) (DAs.ext g t)
  | _, _, .lst h t => .lst (g _ _ h fun _ z => by cases z) (DAs.ext g t)
  | _, _, .dct h => .dct (g _ _ h fun _ z => by cases z)
theorem DAs.ext {H H' : Hp} (g : ExtN H H') : ∀ {vs : List V} {ds : List PyData}, DAs H vs ds → DAs H' vs ds
  | _, _, .nil => .nil
  | _, _, .cons h t => .cons (DA.ext g h) (DAs.ext g t)
end
mutual
theorem DA.dp {K : PySem.W.Frag} {H : Hp} : ∀ {v : V} {d : PyData}, DA H v d → d.hasDict = false → Dp K H v d
  | _, _, .non, _ => .non
  | _, _, .bl b, _ => .bl b
  | _, _, .int i, _ => .int i
  | _, _, .str z, _ => .str z
  | _, _, .tup h t, e => .tup (.of h) (DAs.dp t (by simpa [PyData.hasDict] using e))
  | _, _, .lst h t, e => .lst (.of h) (DAs.dp t (by simpa [PyData.hasDict] using e))
  | _, _, .dct h, e => by simp [PyData.hasDict] at e
theorem DAs.dp {K : PySem.W.Frag} {H : Hp} : ∀ {vs : List V} {ds : List PyData}, DAs H vs ds → PyData.hasDictAll ds = false → DpAll K H vs ds
  | _, _, .nil, _ => .nil
  | _, _, .cons h t, e => by
    simp only [PyData.hasDictAll, Bool.or_eq_false_iff] at e
    exact .cons (DA.dp h e.1) (DAs.dp t e.2)
end
theorem DAs.len {H : Hp} : ∀ {vs : List V} {ds : List PyData}, DAs H vs ds → vs.length = ds.length
  | _, _, .nil => rfl
  | _, _, .cons _ t => congrArg (· + 1) (DAs.len t)
theorem DAs.at_ {H : Hp} {v : V} : ∀ {i : Nat} {vs : List V} {ds : List PyData}, DAs H vs ds → vs[i]? = some v → ∃ d, ds[i]? = some d ∧ DA H v d
  | 0, _, _, .cons h t, e => by cases e; exact ⟨_, rfl, h⟩
  | i + 1, _, _, .cons h t, e => DAs.at_ (i := i) t e
  | _, _, _, .nil, e => by simp at e
/-- of which built-in type -/
def tyN : PyData → String
  | .none => "NoneType" | .bool _ => "bool" | .int _ => "int" | .str _ => "str" | .tuple _ => "tuple" | .list _ => "list" | .dict _ => "dict"
theorem DA.ty {K : PySem.W.Frag} {H : Hp} {v : V} {d : PyData} (h : DA H v d) : TyX K H v (.type (tyN d)) := by
  cases h with
  | non => exact .base .non
  | bl b => exact .base (.bl b)
  | int i => exact .base (.int i)
  | str z => exact .base (.str z)
  | tup h t => exact .base (.tup h)
  | lst h t => exact .base (.lst h)
  | dct h => exact .base (.dK h)
theorem kit_tuple {K : PySem.W.Frag} (d : PyData) : PySem.W.kitOne K (.type (tyN d)) (.type "tuple") = some (match d with | .tuple _ => true | _ => false) := by
  cases d <;> first | rfl | decide +kernel | kernel_rfl
theorem kit_int {K : PySem.W.Frag} (d : PyData) : PySem.W.kitOne K (.type (tyN d)) (.type "int") = some (match d with | .int _ => true | .bool _ => true | _ => false) := by
  cases d <;> first | rfl | decide +kernel | kernel_rfl
theorem kit_bool {K : PySem.W.Frag} (d : PyData) : PySem.W.kitOne K (.type (tyN d)) (.type "bool") = some (match d with | .bool _ => true | _ => false) := by
  cases d <;> first | rfl | decide +kernel | kernel_rfl
/-- repr of any such data: without dicts, or an empty dict itself -/
def ShowOk (d : PyData) : Prop := (∃ k n, Sm k n d ∧ k ≤ 64 ∧ n ≤ 1000000) ∨ d = .dict []
section
variable {X : Cx}
theorem call_reprX {K : PySem.W.Frag} (hgu : X.A.guards = some []) (hu : X.A.units + 66 < cLine) (e : X.K = K := by rfl) : CallR X (.builtin "repr") (fun xs H Q => ∃ (x : V) (d : PyData), xs = [x] ∧ DA H x d ∧ ShowOk d ∧ Q (.str d.shown) H) := by
  subst e
  intro pins s σ H xs us Q I r h
  obtain ⟨x, d, rfl, hd, ok, q⟩ := h
  rcases ok with ⟨k, n, sm, hk, hn⟩ | rfl
  · exact call_reprA hgu hu pins s σ H _ us Q I r ⟨x, d, k, n, rfl, hd.dp (PyData.hasDict_of_canLay _ sm.lay), sm, hk, hn, q⟩
  · cases hd with
    | @dct a ha =>
      obtain ⟨u, rfl, rx⟩ := vals1 r
      cases rx
      obtain ⟨_, ns, vs, rv, o, es, ep, ho, hx, hd, hks, hps, _⟩ := (show ObjOk X.prog X.w H s.heap a (.dK []) from I.hok a _ ha)
      cases rv
      have he : es.toList = [] := by cases he : es.toList with
        | nil => rfl
        | cons x xs => rw [he] at hps; cases hps
      have rd : Reads s.heap (.ref a) (.dict []) (a :: [] ++ []) := by
        refine .dict ho hx.1 hd ?_ ?_ <;> (rw [he]; exact .nil)
      exact repr_of_reads' rd (by decide +kernel) (fun _ m => by
        have e : sysModules = a := by simpa using m
        rw [← e] at ns; simp at ns) hgu (by show _ + 2 < _; omega) (fun _ _ z => z) (fun h' u tk k => ⟨.str (PyData.dict []).shown, H, I.kept (t' := tk) k, ⟨_, rfl⟩, q⟩) (by decide +kernel)
end
/-! ### small values -/
def smallD : Nat → PyData → Bool
  | 0, .tuple _ => false
  | n + 1, .tuple ds => decide (ds.length ≤ 60) && ds.all (smallD n)
  | _, .none => true
  | _, .int i => decide (-9999 ≤ i) && decide (i ≤ 9999)
  | _, _ => false
def isInt : PyData → Bool
  | .int _ => true
  | _ => false
def spWholeD : Sp := fun vs H Q _ => ∃ v d, vs = [v] ∧ DA H v d ∧ Q (.bl (isInt d)) H
def spBelowD : Sp := fun vs H Q _ => ∃ (v : V) (d : PyData) (n : Int), vs = [v, .int n] ∧ DA H v d ∧ Q (.bl (match d with | .int i => decide (0 ≤ i ∧ i < n) | _ => false)) H
def spSmD (n : Nat) : Sp := fun vs H Q _ => ∃ (v : V) (d : PyData) (deep : Nat), vs = [v, .int deep] ∧ DA H v d ∧ deep < n ∧ ∀ H', Same H H' → Q (.bl (smallD deep d)) H'
def spSmallD : Sp := fun vs H Q _ => ∃ (v : V) (d : PyData), vs = [v] ∧ DA H v d ∧ ∀ H', Same H H' → Q (.bl (smallD 12 d)) H'
end Fp
/-! values that can be shown: without dicts (b = true) or without lists (b = false); N: the addresses that may change -/
namespace Fp
open PySem PySem.Spec PyProof.Rows L2
mutual
inductive SA (b : Bool) (N : Addr → Prop) (H : Hp) : Nat → Nat → V → PyData → Prop where
  | non {k n} : SA b N H k n .non .none
  | bl {k n} (c : Bool) : SA b N H k n (.bl c) (.bool c)
  | int {k n} (i : Int) : -200000000 ≤ i → i ≤ 200000000 → SA b N H k n (.int i) (.int i)
  | str {k n} (z : Str) : z.cps.size ≤ n → (z.cps.toList.all fun c => decide (c < 16 ^ 8)) = true → SA b N H k n (.str z) (.str z)
  | tup {k n} {a : Addr} {xs : List V} {ds : List PyData} : H a = some (.tup xs) → SAs b N H k n xs ds → ds.length ≤ 1000 → SA b N H (k + 1) n (.ref a) (.tuple ds)
  | lst {k n} {a : Addr} {xs : List V} {ds : List PyData} : b = true → ¬ N a → H a = some (.lst xs) → SAs b N H k n xs ds → SA b N H (k + 1) n (.ref a) (.list ds)
  | dct0 {k n} {a : Addr} : b = false → ¬ N a → H a = some (.dK []) → SA b N H (k + 1) n (.ref a) (.dict [])
  | dct1 {k n} {a : Addr} (z : Str) (i : Int) : b = false → ¬ N a → H a = some (.dK [(.inr z, .int i)]) → -9999 ≤ i → i ≤ 9999 → z.cps.size + 2 ≤ n → (z.cps.toList.all fun c => decide (c < 16 ^ 8)) = true → SA b N H (k + 1) n (.ref a) (.dict [(.str z, .int i)])
inductive SAs (b : Bool) (N : Addr → Prop) (H : Hp) : Nat → Nat → List V → List PyData → Prop where
  | nil {k n} : SAs b N H k n [] []
  | cons {k m n q v vs d ds} : SA b N H k m v d → SAs b N H k n vs ds → m + 1 + n ≤ q → SAs b N H k q (v :: vs) (d :: ds)
end
section
variable {b : Bool} {N N' : Addr → Prop} {H H' : Hp}
mutual
theorem SA.mono {k n k' n' : Nat} (hk : k ≤ k') (hn : n ≤ n') : ∀ {v : V} {d : PyData}, SA b N H k n v d → SA b N H k' n' v d
  | _, _, .non => .non
  | _, _, .bl c => .bl c
  | _, _, .int i h g => .int i h g
  | _, _, .str z h g => .str z (Nat.le_trans h hn) g
  | _, _, .tup (k := q) h t l => by
    obtain ⟨k2, rfl⟩ : ∃ k2, k' = k2 + 1 := ⟨k' - 1, by omega⟩
    exact .tup h (SAs.mono (by omega) hn t) l
  | _, _, .lst (k := q) e a h t => by
    obtain ⟨k2, rfl⟩ : ∃ k2, k' = k2 + 1 := ⟨k' - 1, by omega⟩
    exact .lst e a h (SAs.mono (by omega) hn t)
  | _, _, .dct0 (k := q) e a h => by
    obtain ⟨k2, rfl⟩ : ∃ k2, k' = k2 + 1 := ⟨k' - 1, by omega⟩
    exact .dct0 e a h
  | _, _, .dct1 (k := q) z i e a h h1 h2 h3 h4 => by
    obtain ⟨k2, rfl⟩ : ∃ k2, k' = k2 + 1 := ⟨k' - 1, by omega⟩
    exact .dct1 z i e a h h1 h2 (by omega) h4
theorem SAs.mono {k n k' n' : Nat} (hk : k ≤ k') (hn : n ≤ n') : ∀ {vs : List V} {ds : List PyData}, SAs b N H k n vs ds → SAs b N H k' n' vs ds
  | _, _, .nil => .nil
  | _, _, .cons h t l => .cons (SA.mono hk (Nat.le_refl _) h) (SAs.mono hk (Nat.le_refl _) t) (by omega)
end
mutual
theorem SA.step (g : ∀ a o, ¬ N a → H a = some o → H' a = some o ∧ ¬ N' a) (gt : ∀ {a xs}, H a = some (.tup xs) → H' a = some (.tup xs)) : ∀ {k n : Nat} {v : V} {d : PyData}, SA b N H k n v d → SA b N' H' k n v d
  | _, _, _, _, .non => .non
  | _, _, _, _, .bl c => .bl c
  | _, _, _, _, .int i h h2 => .int i h h2
  | _, _, _, _, .str z h h2 => .str z h h2
  | _, _, _, _, .tup h t l => .tup (gt h) (SAs.step g gt t) l
  | _, _, _, _, .lst e a h t => .lst e (g _ _ a h).2 (g _ _ a h).1 (SAs.step g gt t)
  | _, _, _, _, .dct0 e a h => .dct0 e (g _ _ a h).2 (g _ _ a h).1
  | _, _, _, _, .dct1 z i e a h h1 h2 h3 h4 => .dct1 z i e (g _ _ a h).2 (g _ _ a h).1 h1 h2 h3 h4
theorem SAs.step (g : ∀ a o, ¬ N a → H a = some o → H' a = some o ∧ ¬ N' a) (gt : ∀ {a xs}, H a = some (.tup xs) → H' a = some (.tup xs)) : ∀ {k n : Nat} {vs : List V} {ds : List PyData}, SAs b N H k n vs ds → SAs b N' H' k n vs ds
  | _, _, _, _, .nil => .nil
  | _, _, _, _, .cons h t l => .cons (SA.step g gt h) (SAs.step g gt t) l
end
theorem SA.same {k n : Nat} {v : V} {d : PyData} (g : Same H H') (h : SA b N H k n v d) : SA b N H' k n v d := h.step (fun a o na q => ⟨g a o q, na⟩) fun q => g _ _ q
theorem SAs.same {k n : Nat} {v : List V} {d : List PyData} (g : Same H H') (h : SAs b N H k n v d) : SAs b N H' k n v d := h.step (fun a o na q => ⟨g a o q, na⟩) fun q => g _ _ q
theorem SA.but {S : List Addr} {k n : Nat} {v : V} {d : PyData} (g : But S H H') (hS : ∀ a ∈ S, N a) (kp : DKp H H') (h : SA b N H k n v d) : SA b N H' k n v d := h.step (fun a o na q => ⟨g a o (fun m => na (hS a m)) q, na⟩) kp.t
theorem SAs.but {S : List Addr} {k n : Nat} {v : List V} {d : List PyData} (g : But S H H') (hS : ∀ a ∈ S, N a) (kp : DKp H H') (h : SAs b N H k n v d) : SAs b N H' k n v d := h.step (fun a o na q => ⟨g a o (fun m => na (hS a m)) q, na⟩) kp.t
mutual
/-- the look of a value that need not be shown -/
def dtO : PyData → Dt
  | .none => .non
  | .bool c => .bl c
  | .int i => .int i
  | .str _ => .oth
  | .list _ => .oth
  | .dict _ => .oth
  | .tuple ds => .tup (dtOs ds)
def dtOs : List PyData → List Dt
  | [] => []
  | d :: ds => dtO d :: dtOs ds
end
theorem dtOs_map : ∀ ds : List PyData, dtOs ds = ds.map dtO
  | [] => by simp [dtOs]
  | d :: ds => by rw [dtOs, List.map_cons, dtOs_map ds]
theorem dtOs_len (ds : List PyData) : (dtOs ds).length = ds.length := by rw [dtOs_map, List.length_map]
mutual
theorem SA.dv : ∀ {k n : Nat} {v : V} {d : PyData}, SA b N H k n v d → DV H v (dtO d)
  | _, _, _, _, .non => by rw [dtO]; exact .non
  | _, _, _, _, .bl c => by rw [dtO]; exact .bl c
  | _, _, _, _, .int i _ _ => by rw [dtO]; exact .int i
  | _, _, _, _, .str z _ _ => by rw [dtO]; exact .str z
  | _, _, _, _, .tup h t l => by rw [dtO]; exact .tup h (SAs.dv t) (by rw [dtOs_len]; exact l)
  | _, _, _, _, .lst e a h t => by rw [dtO]; exact .lst h
  | _, _, _, _, .dct0 e a h => by rw [dtO]; exact .dct h
  | _, _, _, _, .dct1 z i e a h _ _ _ _ => by rw [dtO]; exact .dct h
theorem SAs.dv : ∀ {k n : Nat} {vs : List V} {ds : List PyData}, SAs b N H k n vs ds → DVs H vs (dtOs ds)
  | _, _, _, _, .nil => by rw [dtOs]; exact .nil
  | _, _, _, _, .cons h t l => by rw [dtOs]; exact .cons (SA.dv h) (SAs.dv t)
end
theorem SAs.len : ∀ {k n : Nat} {vs : List V} {ds : List PyData}, SAs b N H k n vs ds → vs.length = ds.length
  | _, _, _, _, .nil => rfl
  | _, _, _, _, .cons _ t _ => by rw [List.length_cons, List.length_cons, SAs.len t]
theorem SAs.at_ {v : V} : ∀ {i k n : Nat} {vs : List V} {ds : List PyData}, SAs b N H k n vs ds → vs[i]? = some v → ∃ d, ds[i]? = some d ∧ SA b N H k n v d
  | _, _, _, _, _, .nil, e => by simp at e
  | 0, _, _, _, _, .cons h _ l, e => by
    simp at e; subst e
    exact ⟨_, rfl, h.mono (Nat.le_refl _) (by omega)⟩
  | i + 1, _, _, _, _, .cons _ t l, e => by
    obtain ⟨d, h1, h2⟩ := SAs.at_ t (by simpa using e)
    exact ⟨d, by simpa using h1, h2.mono (Nat.le_refl _) (by omega)⟩
theorem SAs.app : ∀ {k m n : Nat} {vs ws : List V} {ds es : List PyData}, SAs b N H k m vs ds → SAs b N H k n ws es → SAs b N H k (m + n) (vs ++ ws) (ds ++ es)
  | _, _, _, _, _, _, _, .nil, g => g.mono (Nat.le_refl _) (by omega)
  | _, _, n, _, _, _, _, .cons (n := q) h t l, g => .cons (n := q + n) h (t.app g) (by omega)
theorem SAs.take {i : Nat} : ∀ {k n : Nat} {vs : List V} {ds : List PyData}, SAs b N H k n vs ds → SAs b N H k n (vs.take i) (ds.take i) := by
  induction i with
  | zero => intros; exact .nil
  | succ i ih =>
    intro k n vs ds h
    cases h with
    | nil => exact .nil
    | cons h t l => exact .cons h (ih t) l
theorem SAs.drop {i : Nat} : ∀ {k n : Nat} {vs : List V} {ds : List PyData}, SAs b N H k n vs ds → SAs b N H k n (vs.drop i) (ds.drop i) := by
  induction i with
  | zero => intro k n vs ds h; exact h
  | succ i ih =>
    intro k n vs ds h
    cases h with
    | nil => exact .nil
    | cons h t l => exact (ih t).mono (Nat.le_refl _) (by omega)
theorem SAs.rev : ∀ {k n : Nat} {vs : List V} {ds : List PyData}, SAs b N H k n vs ds → SAs b N H k n vs.reverse ds.reverse
  | _, _, _, _, .nil => .nil
  | _, _, _, _, .cons h t l => by
    rw [List.reverse_cons, List.reverse_cons]
    exact ((SAs.rev t).app (.cons (n := 0) h .nil (Nat.le_refl _))).mono (Nat.le_refl _) (by omega)
end
/-! ### they can be shown -/
theorem sa_int_len {i : Int} (h : -200000000 ≤ i) (g : i ≤ 200000000) : (PyData.int i).shown.length ≤ 13 := PyData.shown_int_le (by omega)
theorem sa_log {i : Int} (h0 : -200000000 ≤ i) (h1 : i ≤ 200000000) : i.natAbs.log2 < 1920 := by
  by_cases h : i.natAbs = 0
  · rw [h]; decide
  · have : i.natAbs.log2 < 28 := (Nat.log2_lt h).mpr (show i.natAbs < 2 ^ 28 by omega)
    omega
structure ShD (k n : Nat) (d : PyData) : Prop where
  sh : d.showable = true
  lv : d.leavesShort 13 = true
  blk : d.bulk ≤ n
  dep : d.depth ≤ k
structure ShDs (k n : Nat) (d : List PyData) : Prop where
  sh : PyData.showableAll d = true
  lv : PyData.leavesShortAll 13 d = true
  blk : PyData.bulkAll d ≤ n
  dep : PyData.depthAll d ≤ k
section
variable {b : Bool} {N N' : Addr → Prop} {H H' : Hp}
mutual
theorem SA.shd : ∀ {k n : Nat} {v : V} {d : PyData}, SA b N H k n v d → ShD k n d
  | _, _, _, _, .non => ⟨by simp [PyData.showable], by simp [PyData.leavesShort], by simp [PyData.bulk], by simp [PyData.depth]⟩
  | _, _, _, _, .bl c => ⟨by simp [PyData.showable], by simp [PyData.leavesShort], by simp [PyData.bulk], by simp [PyData.depth]⟩
  | _, _, _, _, .int i h g => ⟨by simp only [PyData.showable, decide_eq_true_eq]; exact sa_log h g, by simp only [PyData.leavesShort, decide_eq_true_eq]; exact sa_int_len h g, by simp [PyData.bulk], by simp [PyData.depth]⟩
  | _, _, _, _, .str z h g => ⟨by simp [PyData.showable], by simpa only [PyData.leavesShort] using g, by simpa only [PyData.bulk] using h, by simp [PyData.depth]⟩
  | _, _, _, _, .tup h t l => by
    have s := SAs.shd t
    exact ⟨by simpa [PyData.showable] using s.sh, by simpa [PyData.leavesShort] using s.lv, by have := s.blk; simpa only [PyData.bulk] using this, by have := s.dep; simp only [PyData.depth]; omega⟩
  | _, _, _, _, .lst e a h t => by
    have s := SAs.shd t
    exact ⟨by simpa [PyData.showable] using s.sh, by simpa [PyData.leavesShort] using s.lv, by have := s.blk; simpa only [PyData.bulk] using this, by have := s.dep; simp only [PyData.depth]; omega⟩
  | _, _, _, _, .dct0 e a h => ⟨by simp [PyData.showable, PyData.showableKv], by simp [PyData.leavesShort, PyData.leavesShortKv], by simp [PyData.bulk, PyData.bulkKv], by simp [PyData.depth, PyData.depthKv]⟩
  | _, _, _, _, .dct1 z i e a h h1 h2 h3 h4 => by
    refine ⟨?_, ?_, ?_, ?_⟩
    · simp only [PyData.showable, PyData.showableKv, Bool.and_true, Bool.true_and, decide_eq_true_eq]; exact sa_log (by omega) (by omega)
    · simp only [PyData.leavesShort, PyData.leavesShortKv, Bool.and_true, Bool.and_eq_true, decide_eq_true_eq]; exact ⟨h4, sa_int_len (by omega) (by omega)⟩
    · simp only [PyData.bulk, PyData.bulkKv]; omega
    · simp only [PyData.depth, PyData.depthKv]; omega
theorem SAs.shd : ∀ {k n : Nat} {vs : List V} {ds : List PyData}, SAs b N H k n vs ds → ShDs k n ds
  | _, _, _, _, .nil => ⟨by simp [PyData.showableAll], by simp [PyData.leavesShortAll], by simp [PyData.bulkAll], by simp [PyData.depthAll]⟩
  | _, _, _, _, .cons h t l => by
    have s := SA.shd h
    have u := SAs.shd t
    exact ⟨by simp [PyData.showableAll, s.sh, u.sh], by simp [PyData.leavesShortAll, s.lv, u.lv], by have := s.blk; have := u.blk; simp only [PyData.bulkAll]; omega, by have := s.dep; have := u.dep; simp only [PyData.depthAll]; omega⟩
end
end
end Fp
namespace Fp
open PySem PySem.Spec PyProof.Rows L2
section
variable {X : Cx} {pins : List (Addr × Obj)} {σ : L2.St} {H : Hp} {s : Shared} {b : Bool} {N : Addr → Prop}
mutual
theorem SA.reads (I : Inv X pins σ H s) : ∀ {k n : Nat} {v : V} {d : PyData}, SA b N H k n v d → ∀ u, RelV v u → ∃ as, Reads s.heap u d as ∧ (b = false → sysModules ∉ as) ∧ (b = true → d.hasDict = false)
  | _, _, _, _, .non, u, r => by
    cases r
    exact ⟨_, .none, fun _ => by simp, fun _ => by simp [PyData.hasDict]⟩
  | _, _, _, _, .bl c, u, r => by
    cases r
    exact ⟨_, .bool c, fun _ => by simp, fun _ => by simp [PyData.hasDict]⟩
  | _, _, _, _, .int i _ _, u, r => by
    obtain ⟨t, rfl⟩ := r
    exact ⟨_, .int i t, fun _ => by simp, fun _ => by simp [PyData.hasDict]⟩
  | _, _, _, _, .str z _ _, u, r => by
    obtain ⟨t, rfl⟩ := r
    exact ⟨_, .str z t, fun _ => by simp, fun _ => by simp [PyData.hasDict]⟩
  | _, _, _, _, .tup (a := a) (xs := xs) h t _, u, r => by
    cases r
    obtain ⟨its, rv, ⟨o, ho, hc, n, hd⟩, _⟩ := I.tuple (show SqT X.K H a xs from .of h)
    obtain ⟨as, hr, h1, h2⟩ := SAs.reads I t its rv
    exact ⟨_, Reads.tuple ho hc hd hr, h1, fun e => by simp only [PyData.hasDict]; exact h2 e⟩
  | _, _, _, _, .lst (a := a) (xs := xs) e _ h t, u, r => by
    cases r
    obtain ⟨its, rv, ⟨o, n, ho, hc, _, hd⟩, _⟩ := I.list (show SqL X.K H a xs from .of h)
    obtain ⟨as, hr, h1, h2⟩ := SAs.reads I t its rv
    exact ⟨_, Reads.list ho hc hd hr, (fun z => absurd (e.symm.trans z) (by decide) : b = false → _), fun e => by simp only [PyData.hasDict]; exact h2 e⟩
  | _, _, _, _, .dct0 (a := a) e _ h, u, r => by
    cases r
    obtain ⟨_, ns, vs, rv, o, es, ep, ho, hx, hd, hks, hps, _⟩ := (show ObjOk X.prog X.w H s.heap a (.dK []) from I.hok a _ h)
    cases rv
    have he : es.toList = [] := by cases he : es.toList with
      | nil => rfl
      | cons x xs => rw [he] at hps; cases hps
    refine ⟨a :: [] ++ [], .dict ho hx.1 hd ?_ ?_, fun _ m => ?_, (fun z => absurd (e.symm.trans z) (by decide) : b = true → _)⟩
    · rw [he]; exact .nil
    · rw [he]; exact .nil
    · have e : sysModules = a := by simpa using m
      rw [← e] at ns; simp at ns
  | _, _, _, _, .dct1 (a := a) z i e _ h _ _ _ _, u, r => by
    cases r
    obtain ⟨_, ns, vs, rv, o, es, ep, ho, hx, hd, hks, hps, _⟩ := (show ObjOk X.prog X.w H s.heap a (.dK [(.inr z, .int i)]) from I.hok a _ h)
    cases rv with
    | cons q r =>
      cases r
      obtain ⟨q1, q2⟩ := q
      obtain ⟨t, q2⟩ := q2
      cases he : es.toList with
      | nil => rw [he] at hps; cases hps
      | cons x xs =>
        rw [he] at hps
        cases hps with
        | cons h1 h2 h3 =>
          cases h3
          rw [← q1] at h1
          obtain ⟨t2, h1⟩ := Value.isStrOf_shape (show Value.isStrOf z x.key = true from h1)
          refine ⟨a :: ([] ++ []) ++ ([] ++ []), .dict ho hx.1 hd ?_ ?_, fun _ m => ?_, (fun z => absurd (e.symm.trans z) (by decide) : b = true → _)⟩
          · rw [he]
            show ReadsAll s.heap [x.key] [.str z] _
            rw [h1]
            exact .cons (.str z t2) .nil
          · rw [he]
            show ReadsAll s.heap [x.val] [.int i] _
            rw [h2, q2]
            exact .cons (.int i t) .nil
          · have e : sysModules = a := by simpa using m
            rw [← e] at ns; simp at ns
theorem SAs.reads (I : Inv X pins σ H s) : ∀ {k n : Nat} {vs : List V} {ds : List PyData}, SAs b N H k n vs ds → ∀ us, Vals vs us → ∃ as, ReadsAll s.heap us ds as ∧ (b = false → sysModules ∉ as) ∧ (b = true → PyData.hasDictAll ds = false)
  | _, _, _, _, .nil, us, r => by
    cases r
    exact ⟨_, .nil, fun _ => by simp, fun _ => by simp [PyData.hasDictAll]⟩
  | _, _, _, _, .cons h t _, us, r => by
    cases r with
    | cons r1 r2 =>
      obtain ⟨as, a1, a2, a3⟩ := SA.reads I h _ r1
      obtain ⟨bs, b1, b2, b3⟩ := SAs.reads I t _ r2
      refine ⟨_, .cons a1 b1, fun z m => ?_, fun z => by simp only [PyData.hasDictAll, a3 z, b3 z, Bool.or_false]⟩
      rcases List.mem_append.mp m with m | m
      · exact a2 z m
      · exact b2 z m
end
end
/-- repr of such a value -/
def rReprS (N : Addr → Prop) : List V → Hp → VK → Prop := fun xs H Q => ∃ (b : Bool) (x : V) (d : PyData) (k n : Nat), xs = [x] ∧ SA b N H k n x d ∧ k ≤ 64 ∧ n ≤ 1000000 ∧ Q (.str d.shown) H
theorem call_reprS {X : Cx} {N : Addr → Prop} (hgu : X.A.guards = some []) (hu : X.A.units + 66 < cLine) : CallR X (.builtin "repr") (rReprS N) := by
  intro pins s σ H xs us Q I r h
  obtain ⟨b, x, d, k, n, rfl, hd, hk, hn, q⟩ := h
  obtain ⟨u, rfl, rx⟩ := vals1 r
  obtain ⟨as, rd, n1, n2⟩ := SA.reads I hd u rx
  have S := hd.shd
  have sm : d.hasDict = true → sysModules ∉ as := fun z => by
    cases b with
    | false => exact n1 rfl
    | true => rw [n2 rfl] at z; cases z
  have hz : d.shown.length ≤ sizeLine := PyData.shown_fits_bulk (B := 13) (by decide) (by decide) S.lv (Nat.le_trans S.blk (Nat.le_trans hn (by decide)))
  have hu2 : X.A.units + (d.depth + 1) < cLine := by have := S.dep; omega
  have hQ : ∀ h' u tk, (∀ b o, s.heap.get? b = some o → h'.get? b = some o) → EP X pins σ Q (.str d.shown u) { s with heap := h', toks := tk } := fun h' u tk k => ⟨.str d.shown, H, I.kept (t' := tk) k, ⟨_, rfl⟩, q⟩
  have hs := S.sh
  cases rd with
  | none => exact PySem.P.repr_of_none (hQ _ _ _ fun _ _ e => e)
  | bool b => exact PySem.P.repr_of_bool (hQ _ _ _ fun _ _ e => e)
  | int i t => exact PySem.P.repr_of_int (by simpa only [PyData.showable, decide_eq_true_eq] using hs) (by simpa only [PyData.shown] using hQ _ _ _ fun _ _ e => e)
  | str x t => exact PySem.P.repr_of_str (by simpa only [PyData.shown] using hQ _ _ _ fun _ _ e => e) (by simpa only [PyData.shown] using hz)
  | list a b c e => exact repr_of_reads' (.list a b c e) hs sm hgu hu2 (fun _ _ z => z) hQ hz
  | tuple a b c e => exact repr_of_reads' (.tuple a b c e) hs sm hgu hu2 (fun _ _ z => z) hQ hz
  | dict a b c e f => exact repr_of_reads' (.dict a b c e f) hs sm hgu hu2 (fun _ _ z => z) hQ hz
end Fp
namespace Fp
open PySem PySem.Spec PyProof.Rows L2
/-! ### repr of a truth -/
def rReprB : List V → Hp → VK → Prop := fun xs H Q => ∃ b : Bool, xs = [.bl b] ∧ Q (.str (if b then "True" else "False")) H
theorem call_reprB {X : Cx} : CallR X (.builtin "repr") rReprB := by
  intro pins s σ H xs us Q I r h
  obtain ⟨b, rfl, q⟩ := h
  obtain ⟨u, rfl, rx⟩ := vals1 r
  cases (show u = Value.bool b from rx)
  exact PySem.P.repr_of_bool ⟨.str (if b then "True" else "False"), H, I.tok _, ⟨_, rfl⟩, q⟩
end Fp
/-! odd values that can be shown -/
namespace Fp
open PySem PySem.Spec PyProof.Rows L2
/-- what is new is none of those that may change -/
def Fr (N : Addr → Prop) (H : Hp) : Prop := ∀ a, H a = none → ¬ N a
theorem Fr.same {N : Addr → Prop} {H H' : Hp} (f : Fr N H) (g : Same H H') : Fr N H' := fun a h => f a (by
  cases e : H a with
  | none => rfl
  | some o => rw [g _ _ e] at h; cases h)
theorem Fr.but {N : Addr → Prop} {H H' : Hp} {p : Addr} {n : Nat} (f : Fr N H) (g : But [p] H H') (hP : PotAt H' p n) : Fr N H' := fun a h => f a (by
  exact (but_none g hP h).1)
def OkV (N : Addr → Prop) (H : Hp) (v : V) : Prop := ∃ b d, SA b N H 8 200 v d
theorem OkV.same {N : Addr → Prop} {H H' : Hp} {v : V} (g : Same H H') : OkV N H v → OkV N H' v := fun ⟨b, d, h⟩ => ⟨b, d, h.same g⟩
theorem OkV.but {N : Addr → Prop} {H H' : Hp} {v : V} {p : Addr} (g : But [p] H H') (hp : N p) (kp : DKp H H') : OkV N H v → OkV N H' v := fun ⟨b, d, h⟩ => ⟨b, d, h.but g (fun a m => by rw [List.mem_singleton.mp m]; exact hp) kp⟩
/-- a reading that tells a value without lists and dicts -/
def OdP (N : Addr → Prop) (k n : Nat) (te : TE) : Prop := ∀ (σ : L2.St) (H : Hp) (Q : VK), Fr N H → (∀ v H', Same H H' → (∃ d, ∀ b, SA b N H' k n v d) → Q v H') → te σ H Q
def OdE (N : Addr → Prop) (te : TE) : Prop := ∀ (σ : L2.St) (H : Hp) (Q : VK), Fr N H → (∀ v H', Same H H' → OkV N H' v → Q v H') → te σ H Q
def OdA (N : Addr → Prop) (n : Nat) (ta : TA) : Prop := ∀ (σ : L2.St) (H : Hp) (Q : List V → Hp → Prop), Fr N H → (∀ vs H', Same H H' → vs.length = n → (∀ x ∈ vs, OkV N H' x) → Q vs H') → ta σ H Q
section
variable {N : Addr → Prop} {k n m q : Nat}
theorem odp_non : OdP N k n (tC .non) := fun σ H Q f h => h _ _ (Same.refl _) ⟨_, fun _ => .non⟩
theorem odp_bl (c : Bool) : OdP N k n (tC (.bl c)) := fun σ H Q f h => h _ _ (Same.refl _) ⟨_, fun _ => .bl c⟩
theorem odp_int (i : Int) (h1 : -200000000 ≤ i) (h2 : i ≤ 200000000) : OdP N k n (tC (.int i)) := fun σ H Q f h => h _ _ (Same.refl _) ⟨_, fun _ => .int i h1 h2⟩
theorem odp_str (z : Str) (h1 : z.cps.size ≤ n) (h2 : (z.cps.toList.all fun c => decide (c < 16 ^ 8)) = true) : OdP N k n (tC (.str z)) := fun σ H Q f h => h _ _ (Same.refl _) ⟨_, fun _ => .str z h1 h2⟩
theorem odp_neg (i : Int) (h1 : -200000000 ≤ -i) (h2 : -i ≤ 200000000) : OdP N k n (tUn (rU fun i => .int (-i)) (tC (.int i))) := fun σ H Q f h => ⟨i, rfl, h _ _ (Same.refl _) ⟨_, fun _ => .int _ h1 h2⟩⟩
theorem odp_pow : OdP N k n (tOp (rI CPow fun i j => V.int (i ^ j.toNat)) (tC (.int 10)) (tC (.int 8))) := fun σ H Q f h => ⟨10, 8, rfl, rfl, ⟨by decide, by decide, by decide⟩, h _ _ (Same.refl _) ⟨_, fun _ => .int _ (by decide) (by decide)⟩⟩
theorem odp_tup0 : OdP N (k + 1) n (tTup tNil) := fun σ H Q f h => ⟨szl (by show 0 ≤ _; decide), fun p np => h _ _ (same_new np _) ⟨.tuple [], fun b => .tup upd_same .nil (by show 0 ≤ 1000; decide)⟩⟩
theorem odp_tup1 {a : TE} (h : OdP N k n a) (hq : n + 1 ≤ q) : OdP N (k + 1) q (tTup (tCons a tNil)) := fun σ H Q f g => by
  refine h σ H _ f fun v H1 g1 ⟨d, dv⟩ => ⟨szl (by show 1 ≤ _; decide), fun p np => ?_⟩
  have g2 := same_new np (.tup [v])
  exact g _ _ (g1.trans g2) ⟨.tuple [d], fun b => .tup upd_same (.cons (n := 0) ((dv b).same g2) .nil (by omega)) (by show 1 ≤ 1000; decide)⟩
theorem odp_tup2 {a c : TE} (h : OdP N k n a) (h2 : OdP N k m c) (hq : n + 1 + (m + 1) ≤ q) : OdP N (k + 1) q (tTup (tCons a (tCons c tNil))) := fun σ H Q f g => by
  refine h σ H _ f fun v H1 g1 ⟨d, dv⟩ => ?_
  refine h2 σ H1 _ (f.same g1) fun u H2 g2 ⟨e, ev⟩ => ⟨szl (by show 2 ≤ _; decide), fun p np => ?_⟩
  have g3 := same_new np (.tup [v, u])
  exact g _ _ ((g1.trans g2).trans g3) ⟨.tuple [d, e], fun b => .tup upd_same (.cons ((dv b).same (g2.trans g3)) (.cons (n := 0) ((ev b).same g3) .nil (Nat.le_refl _)) hq) (by show 2 ≤ 1000; decide)⟩
theorem OdP.e {te : TE} (h : OdP N k n te) (hk : k ≤ 8) (hn : n ≤ 200) : OdE N te := fun σ H Q f g => h σ H _ f fun v H' g1 ⟨d, dv⟩ => g _ _ g1 ⟨true, d, (dv true).mono hk hn⟩
theorem ode_lst0 : OdE N (tLst tNil) := fun σ H Q f h => ⟨szl (by show 0 ≤ _; decide), fun p np => h _ _ (same_new np _) ⟨true, .list [], .lst rfl (f p np) upd_same .nil⟩⟩
theorem ode_lst1 {a : TE} (h : OdP N k n a) (hk : k ≤ 7) (hq : n + 1 ≤ 200) : OdE N (tLst (tCons a tNil)) := fun σ H Q f g => by
  refine h σ H _ f fun v H1 g1 ⟨d, dv⟩ => ⟨szl (by show 1 ≤ _; decide), fun p np => ?_⟩
  have g2 := same_new np (.lst [v])
  exact g _ _ (g1.trans g2) ⟨true, .list [d], .lst rfl (f.same g1 p np) upd_same (.cons (n := 0) (((dv true).same g2).mono hk (Nat.le_refl _)) .nil (by omega))⟩
theorem ode_dnew : OdE N tDNewK := fun σ H Q f h => fun p np => h _ _ (same_new np _) ⟨false, .dict [], .dct0 rfl (f p np) upd_same⟩
theorem ode_disp (a : Str) (i : Int) (h1 : -9999 ≤ i) (h2 : i ≤ 9999) (h3 : a.cps.size + 2 ≤ 200) (h4 : (a.cps.toList.all fun c => decide (c < 16 ^ 8)) = true) : OdE N (tDisp [(tC (.str a), tC (.int i))]) := fun σ H Q f h p np => by
  refine ⟨upd_same, [(Sum.inr a, .int i)], rfl, (by show 1 ≤ 15; decide), h _ _ (fun b o q => ?_) ⟨false, .dict [(.str a, .int i)], .dct1 a i rfl (f p np) upd_same h1 h2 h3 h4⟩⟩
  have ne := ne_of_none q np
  rw [upd_ne ne, upd_ne ne]; exact q
theorem oda_nil : OdA N 0 tNil := fun σ H Q f h => h _ _ (Same.refl _) rfl fun x hx => by cases hx
theorem oda_cons {te : TE} {ta : TA} (h : OdE N te) (t : OdA N n ta) : OdA N (n + 1) (tCons te ta) := fun σ H Q f g => by
  refine h σ H _ f fun v H1 g1 dv => ?_
  exact t σ H1 _ (f.same g1) fun vs H2 g2 hl dvs => g _ _ (g1.trans g2) (by rw [List.length_cons, hl]) fun x hx => by
    rcases List.mem_cons.mp hx with e | hx
    · rw [e]; exact dv.same g2
    · exact dvs x hx
theorem oda_lst {ta : TA} (h : OdA N n ta) (hn : n ≤ 1000) {σ : L2.St} {H : Hp} {Q : VK} (f : Fr N H) (g : ∀ l xs H', Same H H' → H' l = some (.lst xs) → xs.length = n → (∀ x ∈ xs, OkV N H' x) → Q (.ref l) H') : tLst ta σ H Q := by
  refine h σ H _ f fun vs H1 g1 hl dvs => ⟨szl (by omega), fun p np => ?_⟩
  have g2 := same_new np (.lst vs)
  exact g _ _ _ (g1.trans g2) upd_same hl fun x hx => (dvs x hx).same g2
end
def spOddS : Sp := fun vs H Q _ => ∃ (p : Addr) (k : Nat) (N : Addr → Prop), vs = [.ref p] ∧ k < 100000 ∧ PotAt H p k ∧ N p ∧ Fr N H ∧ ∀ v H', But [p] H H' → PotAt H' p (k + 1) → OkV N H' v → Q v H'
section
variable {P : Program} {w : World} {K : PySem.W.Frag} {mg : Str → Option Value} {base : Heap} {f : Addr} {fd : FuncData} {C : Addr}
abbrev s_law_odd : Stmt := top 35
theorem sc_law_odd : FnScope ["pot", "some"] ["pot"] (defScope s_law_odd) := ⟨rfl, rfl, rfl, by decide +kernel, rfl, by decide +kernel, by decide +kernel⟩
theorem ok_law_odd (F : Fun K "_law_odd" "_law_odd" s_law_odd f fd) (T : RTx mg) (G_law_of : Fd P w K mg base CX0 "_law_of" 2 ["pot", "some"] (spOf K)) : FnOk P w K mg base CX0 3 f fd ["pot"] spOddS := by
  refine F.ok sc_law_odd (fun vs H Q E h => ?_) (fun cdv A outer s H vs Q E hr h => ?_)
  · obtain ⟨p, k, N, rfl, _⟩ := h
    rfl
  obtain ⟨p, k, N, rfl, hk, hP, hN, hF, q⟩ := h
  refine ⟨_, (pss_cons (ps_set (i := 1) sc_law_odd.nd rfl (Or.inl rfl) (pe_lst (pa_cons pe_non (pa_cons pe_bl (pa_cons pe_bl (pa_cons pe_int (pa_cons pe_int (pa_cons (pe_un un_neg pe_int) (pa_cons pe_int (pa_cons pe_str (pa_cons pe_str (pa_cons (pe_tup pa_nil) (pa_cons (pe_lst pa_nil) (pa_cons pe_dnewK (pa_cons (pe_tup (pa_cons pe_int pa_nil)) (pa_cons (pe_tup (pa_cons (pe_tup pa_nil) pa_nil)) (pa_cons (pe_lst (pa_cons pe_int pa_nil)) (pa_cons (pe_tup (pa_cons pe_str pa_nil)) (pa_cons (pe_tup (pa_cons pe_int (pa_cons pe_int pa_nil))) (pa_cons (pe_tup (pa_cons pe_int (pa_cons pe_int pa_nil))) (pa_cons (pe_op op_pow pe_int pe_int) pa_nil)))))))))))))))))))))
  (pss_one (ps_ret (pe_fd G_law_of (hr.mono (by first | decide | omega)) rfl (pa_cons (pv 0) (pa_cons (pe_op op_cat (pv 1) (pe_lst (pa_cons (pe_tup (pa_cons (pe_tup (pa_cons pe_int pa_nil)) (pa_cons (pe_tup (pa_cons pe_int (pa_cons pe_int pa_nil))) pa_nil))) (pa_cons (pe_tup (pa_cons pe_non pa_nil)) (pa_cons (pe_disp (pps_cons pe_str pe_int pps_nil) (by rfl) (by rfl) (by simp) (by decide)) (pa_cons (pe_tup (pa_cons pe_bl pa_nil)) (pa_cons (pe_tup (pa_cons (pe_tup (pa_cons pe_int pa_nil)) (pa_cons pe_non pa_nil))) (pa_cons pe_int (pa_cons pe_int (pa_cons (pe_tup (pa_cons pe_non (pa_cons pe_non pa_nil))) (pa_cons pe_str pa_nil))))))))))) pa_nil)))))), ?_⟩
  refine seq_in ?_
  refine asg_in ?_
  refine oda_lst (N := N) (n := 19) ?t1 (by decide) hF ?k1
  case t1 => repeat (first | exact oda_nil | refine oda_cons ?_ ?_ | exact (odp_non (k := 1) (n := 0)).e (by decide) (by decide) | exact (odp_bl (k := 1) (n := 0) _).e (by decide) (by decide) | exact (odp_int (k := 1) (n := 0) _ (by decide) (by decide)).e (by decide) (by decide) | exact (odp_str (k := 1) (n := 9) _ (by decide) (by decide)).e (by decide) (by decide) | exact (odp_neg (k := 1) (n := 0) _ (by decide) (by decide)).e (by decide) (by decide) | exact ode_dnew | exact (odp_pow (k := 1) (n := 0)).e (by decide) (by decide) | exact ode_disp _ _ (by decide) (by decide) (by decide) (by decide) | exact ode_lst0 | refine OdP.e (k := 5) (n := 60) (odp_tup1 (n := 40) ?_ (by decide)) (by decide) (by decide) | refine OdP.e (k := 5) (n := 100) (odp_tup2 (n := 40) (m := 40) ?_ ?_ (by decide)) (by decide) (by decide) | exact (odp_tup0 (k := 1) (n := 0)).e (by decide) (by decide) | refine ode_lst1 (k := 4) (n := 40) ?_ (by decide) (by decide) | exact odp_non | exact odp_bl _ | exact odp_int _ (by decide) (by decide) | exact odp_str _ (by decide) (by decide) | exact odp_tup0 | refine odp_tup1 (n := 20) ?_ (by decide) | refine odp_tup2 (n := 15) (m := 15) ?_ ?_ (by decide))
  intro l1 xs1 H1 g1 hl1 n1 dv1
  refine g_set ?_
  refine nx_in ?_
  refine ret_in ?_
  refine ⟨_, rfl, _, rfl, ?_⟩
  refine oda_lst (N := N) (n := 9) ?t2 (by decide) (hF.same g1) ?k2
  case t2 => repeat (first | exact oda_nil | refine oda_cons ?_ ?_ | exact (odp_non (k := 1) (n := 0)).e (by decide) (by decide) | exact (odp_bl (k := 1) (n := 0) _).e (by decide) (by decide) | exact (odp_int (k := 1) (n := 0) _ (by decide) (by decide)).e (by decide) (by decide) | exact (odp_str (k := 1) (n := 9) _ (by decide) (by decide)).e (by decide) (by decide) | exact (odp_neg (k := 1) (n := 0) _ (by decide) (by decide)).e (by decide) (by decide) | exact ode_dnew | exact (odp_pow (k := 1) (n := 0)).e (by decide) (by decide) | exact ode_disp _ _ (by decide) (by decide) (by decide) (by decide) | exact ode_lst0 | refine OdP.e (k := 5) (n := 60) (odp_tup1 (n := 40) ?_ (by decide)) (by decide) (by decide) | refine OdP.e (k := 5) (n := 100) (odp_tup2 (n := 40) (m := 40) ?_ ?_ (by decide)) (by decide) (by decide) | exact (odp_tup0 (k := 1) (n := 0)).e (by decide) (by decide) | refine ode_lst1 (k := 4) (n := 40) ?_ (by decide) (by decide) | exact odp_non | exact odp_bl _ | exact odp_int _ (by decide) (by decide) | exact odp_str _ (by decide) (by decide) | exact odp_tup0 | refine odp_tup1 (n := 20) ?_ (by decide) | refine odp_tup2 (n := 15) (m := 15) ?_ ?_ (by decide))
  intro l2 xs2 H2 g2 hl2 n2 dv2
  refine ⟨l1, l2, _, _, rfl, rfl, g2 _ _ hl1, hl2, szl (by omega), fun l3 nl3 => ?_⟩
  have g3 := same_new nl3 (.lst (xs1 ++ xs2))
  have gg := (g1.trans g2).trans g3
  have hPn := pot_sm gg hP
  have nl3' := but_none (.of (g1.trans g2)) (pot_sm (g1.trans g2) hP) nl3
  refine ⟨p, l3, xs1 ++ xs2, k, rfl, .of upd_same, nl3'.2, fun z => ?_, by rw [List.length_append]; omega, by omega, hPn, fun d v H4 hv g4 hP4 => ?_⟩
  · have := congrArg List.length z
    rw [List.length_append, n1, n2] at this
    cases this
  · refine q v H4 ((But.of gg).trans g4) hP4 (OkV.but g4 hN (.pot g4 hPn hP4) ?_)
    rcases List.mem_append.mp (List.mem_of_getElem? hv) with m | m
    · exact (dv1 v m).same (g2.trans g3)
    · exact (dv2 v m).same g3
end
end Fp
namespace Fp
open PySem PySem.Spec PyProof.Rows L2
/-- None, small integers, short tuples of such, at most so deep -/
def pP : Nat → PyData → Prop
  | _, .none => True
  | _, .int i => -100 ≤ i ∧ i ≤ 100
  | k + 1, .tuple ds => ds.length ≤ 6 ∧ ∀ d ∈ ds, pP k d
  | _, _ => False
theorem pP_pl : ∀ {k : Nat} {d : PyData}, pP k d → pl k (dtO d) = true
  | 0, .none, _ => by rw [dtO]; rfl
  | 0, .int _, _ => by rw [dtO]; rfl
  | k + 1, .none, _ => by rw [dtO]; rfl
  | k + 1, .int _, _ => by rw [dtO]; rfl
  | k + 1, .tuple ds, h => by
    rw [dtO, dtOs_map]
    exact pl_tup.mpr fun e he => by
      obtain ⟨d, hd, rfl⟩ := List.mem_map.mp he
      exact pP_pl (h.2 d hd)
  | 0, .tuple _, h => h.elim
  | 0, .bool _, h => h.elim
  | k + 1, .bool _, h => h.elim
  | 0, .str _, h => h.elim
  | k + 1, .str _, h => h.elim
  | 0, .list _, h => h.elim
  | k + 1, .list _, h => h.elim
  | 0, .dict _, h => h.elim
  | k + 1, .dict _, h => h.elim
theorem pl_3 {k : Nat} {d : Dt} (hk : k ≤ 3) (h : pl k d = true) : pl 3 d = true := by
  rcases (show k = 0 ∨ k = 1 ∨ k = 2 ∨ k = 3 by omega) with rfl | rfl | rfl | rfl
  · exact pl_up (pl_up (pl_up h))
  · exact pl_up (pl_up h)
  · exact pl_up h
  · exact h
section
variable {b b' : Bool} {N : Addr → Prop} {H : Hp}
mutual
theorem SA.flip : ∀ {m k n : Nat} {v : V} {d : PyData}, pP m d → SA b N H k n v d → SA b' N H k n v d
  | _, _, _, _, _, _, .non => .non
  | _, _, _, _, _, _, .int i h g => .int i h g
  | m + 1, _, _, _, _, p, .tup h t l => .tup h (SAs.flip (m := m) p.2 t) l
  | 0, _, _, _, _, p, .tup h t l => p.elim
  | 0, _, _, _, _, p, .bl _ => p.elim
  | m + 1, _, _, _, _, p, .bl _ => p.elim
  | 0, _, _, _, _, p, .str _ _ _ => p.elim
  | m + 1, _, _, _, _, p, .str _ _ _ => p.elim
  | 0, _, _, _, _, p, .lst _ _ _ _ => p.elim
  | m + 1, _, _, _, _, p, .lst _ _ _ _ => p.elim
  | 0, _, _, _, _, p, .dct0 _ _ _ => p.elim
  | m + 1, _, _, _, _, p, .dct0 _ _ _ => p.elim
  | 0, _, _, _, _, p, .dct1 _ _ _ _ _ _ _ _ _ => p.elim
  | m + 1, _, _, _, _, p, .dct1 _ _ _ _ _ _ _ _ _ => p.elim
theorem SAs.flip : ∀ {m k n : Nat} {vs : List V} {ds : List PyData}, (∀ d ∈ ds, pP m d) → SAs b N H k n vs ds → SAs b' N H k n vs ds
  | _, _, _, _, _, _, .nil => .nil
  | _, _, _, _, _, p, .cons h t l => .cons (SA.flip (p _ List.mem_cons_self) h) (SAs.flip (fun d hd => p d (List.mem_cons_of_mem _ hd)) t) l
end
theorem SAs.len_le : ∀ {k n : Nat} {vs : List V} {ds : List PyData}, SAs b N H k n vs ds → ds.length ≤ n
  | _, _, _, _, .nil => Nat.zero_le _
  | _, _, _, _, .cons _ t l => by
    have := SAs.len_le t
    rw [List.length_cons]; omega
theorem SAs.cut {k n : Nat} {vs : List V} {ds : List PyData} {lo hi : Option Int} (h : SAs b N H k n vs ds) : ∃ es, SAs b N H k n (cutV vs lo hi) es := by
  unfold cutV
  exact ⟨_, (h.drop).take⟩
end
/-- how much may come of a value that is bent -/
def fB : Nat → Nat → Nat
  | 0, n => 2 * n + 200
  | m + 1, n => 2 * n + 1 + fB m n
theorem fB_ge : ∀ m n : Nat, 2 * n + 200 ≤ fB m n
  | 0, n => Nat.le_refl _
  | m + 1, n => by
    have := fB_ge m n
    show _ ≤ 2 * n + 1 + fB m n
    omega
/-- readings at one place that tell some value, all else staying -/
def OkM (N : Addr → Prop) (H : Hp) (k n : Nat) (v : V) : Prop := ∃ b d, SA b N H k n v d
theorem OkM.same {N : Addr → Prop} {H H' : Hp} {k n : Nat} {v : V} (g : Same H H') : OkM N H k n v → OkM N H' k n v := fun ⟨b, d, h⟩ => ⟨b, d, h.same g⟩
theorem OkM.mono {N : Addr → Prop} {H : Hp} {k n k' n' : Nat} {v : V} (hk : k ≤ k') (hn : n ≤ n') : OkM N H k n v → OkM N H k' n' v := fun ⟨b, d, h⟩ => ⟨b, d, h.mono hk hn⟩
theorem OkM.but {N : Addr → Prop} {H H' : Hp} {k n : Nat} {v : V} {p : Addr} (g : But [p] H H') (hp : N p) (kp : DKp H H') : OkM N H k n v → OkM N H' k n v := fun ⟨b, d, h⟩ => ⟨b, d, h.but g (fun a m => by rw [List.mem_singleton.mp m]; exact hp) kp⟩
def OsE (N : Addr → Prop) (σ : L2.St) (H0 : Hp) (k n : Nat) (te : TE) : Prop := ∀ (H : Hp) (Q : VK), Same H0 H → (∀ v H', Same H H' → OkM N H' k n v → Q v H') → te σ H Q
def OsA (N : Addr → Prop) (σ : L2.St) (H0 : Hp) (k n m : Nat) (ta : TA) : Prop := ∀ (H : Hp) (Q : List V → Hp → Prop), Same H0 H → (∀ vs H', Same H H' → vs.length = m → (∀ x ∈ vs, OkM N H' k n x) → Q vs H') → ta σ H Q
def OsT (b : Bool) (N : Addr → Prop) (σ : L2.St) (H0 : Hp) (k n : Nat) (te : TE) : Prop := ∀ (H : Hp) (Q : VK), Same H0 H → (∀ a xs ds H', Same H H' → H' a = some (.tup xs) → SAs b N H' k n xs ds → Q (.ref a) H') → te σ H Q
def PaE (σ : L2.St) (to : TO) : Prop := ∀ (H : Hp) (k : Option Int → Hp → Prop), (∀ o, k o H) → to σ H k
section
variable {σ : L2.St} {H0 : Hp} {N : Addr → Prop} {k n m : Nat} {b : Bool}
theorem zp_none : PaE σ tNoPart := fun H k q => q none
theorem zp_int (i : Int) : PaE σ (tPart (tC (.int i))) := fun H k q => ⟨i, rfl, q _⟩
theorem zp_neg (i : Int) : PaE σ (tPart (tUn (rU fun i => .int (-i)) (tC (.int i)))) := fun H k q => ⟨i, rfl, -i, rfl, q _⟩
theorem zp_var {j : Nat} {i : Int} (h : σ[j]? = some (some (.int i))) : PaE σ (tPart (tVar j)) := fun H k q => ⟨_, h, i, rfl, q _⟩
theorem zp_add {j : Nat} {i c : Int} (h : σ[j]? = some (some (.int i))) : PaE σ (tPart (tOp (rI0 fun i j => V.int (i + j)) (tVar j) (tC (.int c)))) := fun H k q => ⟨_, h, i, c, rfl, rfl, _, rfl, q _⟩
theorem OdP.s {te : TE} (h : OdP N k n te) (f : Fr N H0) : OsE N σ H0 k n te := fun H Q g q => h σ H Q (f.same g) fun v H' g1 ⟨d, dv⟩ => q v H' g1 ⟨true, d, dv true⟩
theorem osa_nil : OsA N σ H0 k n 0 tNil := fun H Q g q => q _ _ (Same.refl _) rfl fun x hx => by cases hx
theorem osa_cons {te : TE} {ta : TA} (h : OsE N σ H0 k n te) (t : OsA N σ H0 k n m ta) : OsA N σ H0 k n (m + 1) (tCons te ta) := fun H Q g q => by
  refine h H _ g fun v H1 g1 dv => ?_
  exact t H1 _ (g.trans g1) fun vs H2 g2 hl dvs => q _ _ (g1.trans g2) (by rw [List.length_cons, hl]) fun x hx => by
    rcases List.mem_cons.mp hx with e | hx
    · rw [e]; exact dv.same g2
    · exact dvs x hx
theorem osa_lst {ta : TA} (h : OsA N σ H0 k n m ta) (hm : m ≤ 1000) {Q : VK} (q : ∀ l xs H', Same H0 H' → H0 l = none → H' l = some (.lst xs) → xs.length = m → (∀ x ∈ xs, OkM N H' k n x) → Q (.ref l) H') : tLst ta σ H0 Q := by
  refine h H0 _ (Same.refl _) fun vs H1 g1 hl dvs => ⟨szl (by omega), fun p np => ?_⟩
  have g2 := same_new np (.lst vs)
  have n0 : H0 p = none := by
    cases e : H0 p with
    | none => rfl
    | some o => rw [g1 _ _ e] at np; cases np
  exact q _ _ _ (g1.trans g2) n0 upd_same hl fun x hx => (dvs x hx).same g2
theorem ost_var {j : Nat} {a : Addr} {xs : List V} {ds : List PyData} (h : σ[j]? = some (some (.ref a))) (ha : H0 a = some (.tup xs)) (hd : SAs b N H0 k n xs ds) : OsT b N σ H0 k n (tVar j) := fun H Q g q =>
  ⟨_, h, q _ _ _ _ (Same.refl _) (g _ _ ha) (hd.same g)⟩
theorem ost_sl {K : PySem.W.Frag} {te : TE} {tl th : TO} (h : OsT b N σ H0 k n te) (hl : PaE σ tl) (hh : PaE σ th) : OsT b N σ H0 k n (tSl (rSlA K) te tl th) := fun H Q g q => by
  refine h H _ g fun a xs ds H1 g1 ha hd => ?_
  refine hl H1 _ fun lo => ?_
  refine hh H1 _ fun hi => ?_
  refine slA_any ha fun c H2 g2 hc => ?_
  obtain ⟨es, e1⟩ := (hd.same g2).cut (lo := lo) (hi := hi)
  exact q _ _ _ _ (g1.trans g2) hc e1
theorem ost_cat {K : PySem.W.Frag} {ta tb : TE} {n2 : Nat} (h : OsT b N σ H0 k n ta) (g : OsT b N σ H0 k n2 tb) (hm : n + n2 ≤ 1000000) : OsT b N σ H0 k (n + n2) (tOp (rCatA K) ta tb) := fun H Q g0 q => by
  refine h H _ g0 fun a xs ds H1 g1 ha hd => ?_
  refine g H1 _ (g0.trans g1) fun c ys es H2 g2 hc he => ?_
  have l1 := hd.len_le
  have l2 := he.len_le
  refine catA_any (g2 _ _ ha) hc (by rw [hd.len, he.len]; omega) fun e H3 g3 hx => ?_
  exact q _ _ _ _ ((g1.trans g2).trans g3) hx ((hd.same (g2.trans g3)).app (he.same g3))
theorem ost_rev {K : PySem.W.Frag} {te : TE} (h : OsT b N σ H0 k n te) : OsT b N σ H0 k n (tRevT K te) := fun H Q g q => by
  refine h H _ g fun a xs ds H1 g1 ha hd => ⟨a, xs, rfl, .of ha, fun p np => ?_⟩
  have g2 := same_new np (.tup xs.reverse)
  exact q _ _ _ _ (g1.trans g2) upd_same (hd.same g2).rev
theorem ost_tup1 {te : TE} {i : Int} (h1 : -100 ≤ i) (h2 : i ≤ 100) (hk : te = tC (.int i)) : OsT b N σ H0 k 1 (tTup (tCons te tNil)) := fun H Q g q => by
  rw [hk]
  refine ⟨szl (by show 1 ≤ _; decide), fun p np => ?_⟩
  exact q _ _ [.int i] _ (same_new np _) upd_same (.cons (m := 0) (n := 0) (.int i (by omega) (by omega)) .nil (by decide))
theorem OsT.s {te : TE} (h : OsT b N σ H0 k n te) {k' n' : Nat} (hk : k + 1 ≤ k') (hn : n ≤ n') (h1 : n ≤ 1000) : OsE N σ H0 k' n' te := fun H Q g q => by
  refine h H _ g fun a xs ds H1 g1 ha hd => q _ _ g1 ⟨b, _, (SA.tup ha hd (by have := hd.len_le; omega)).mono hk hn⟩
theorem ose_var {j : Nat} {v : V} (h : σ[j]? = some (some v)) (hd : OkM N H0 k n v) : OsE N σ H0 k n (tVar j) := fun H Q g q => ⟨_, h, q _ _ (Same.refl _) (hd.same g)⟩
theorem ose_list {K : PySem.W.Frag} {te : TE} (f : Fr N H0) (h : OsT true N σ H0 k n te) {k' n' : Nat} (hk : k + 1 ≤ k') (hn : n ≤ n') : OsE N σ H0 k' n' (tCB (fun xs H Q => ∃ p ys, xs = [V.ref p] ∧ (SqL K H p ys ∨ SqT K H p ys) ∧ ∀ l, H l = none → Q (.ref l) (upd H l (.lst ys))) (tCons te tNil)) := fun H Q g q => by
  refine h H _ g fun a xs ds H1 g1 ha hd => ?_
  refine ⟨a, xs, rfl, .inr (.of ha), fun l nl => ?_⟩
  have g2 := same_new nl (.lst xs)
  exact q _ _ (g1.trans g2) ⟨true, .list ds, (SA.lst rfl ((f.same (g.trans g1)) l nl) upd_same (hd.same g2)).mono hk hn⟩
section
variable {i : Int} (h1 : σ[1]? = some (some (.int i))) (hi1 : -100 ≤ i) (hi2 : i ≤ 100)
include h1 hi1 hi2
theorem ose_add (j : Int) (hj1 : -100 ≤ j) (hj2 : j ≤ 100) : OsE N σ H0 k n (tOp (rI0 fun i j => V.int (i + j)) (tVar 1) (tC (.int j))) := fun H Q _ q => ⟨_, h1, _, _, rfl, rfl, q _ _ (Same.refl _) ⟨true, _, .int _ (by omega) (by omega)⟩⟩
theorem ose_sub (j : Int) (hj1 : -100 ≤ j) (hj2 : j ≤ 100) : OsE N σ H0 k n (tOp (rI0 fun i j => V.int (i - j)) (tVar 1) (tC (.int j))) := fun H Q _ q => ⟨_, h1, _, _, rfl, rfl, q _ _ (Same.refl _) ⟨true, _, .int _ (by omega) (by omega)⟩⟩
theorem ose_ngv : OsE N σ H0 k n (tUn (rU fun i => .int (-i)) (tVar 1)) := fun H Q _ q => ⟨_, h1, _, rfl, q _ _ (Same.refl _) ⟨true, _, .int _ (by omega) (by omega)⟩⟩
theorem ose_one : OsE N σ H0 (k + 1) (n + 1) (tTup (tCons (tVar 1) tNil)) := fun H Q _ q => ⟨_, h1, szl (by show 1 ≤ _; decide), fun p np => q _ _ (same_new np _) ⟨true, .tuple [.int i], .tup upd_same (.cons (m := 0) (n := 0) (.int i (by omega) (by omega)) .nil (by omega)) (by show 1 ≤ 1000; decide)⟩⟩
theorem ose_eq (j : Int) : OsE N σ H0 k n (tOp rEq (tVar 1) (tC (.int j))) := fun H Q _ q => ⟨_, h1, rfl, q _ _ (Same.refl _) ⟨true, _, .bl _⟩⟩
end
end
def spBentS (n0 : Nat) : Sp := fun vs H Q _ => ∃ (p : Addr) (k m n : Nat) (N : Addr → Prop) (v : V) (d : PyData), vs = [.ref p, v] ∧ m < n0 ∧ m ≤ 3 ∧ n ≤ 400 ∧ k + 10 * m < 90000 ∧ PotAt H p k ∧ N p ∧ Fr N H ∧ SA true N H 4 n v d ∧ pP m d ∧ ∀ v' H', But [p] H H' → PotAt H' p (k + 4 * m + 4) → OkM N H' (m + 8) (fB m n) v' → Q v' H'
section
variable {P : Program} {w : World} {K : PySem.W.Frag} {mg : Str → Option Value} {base : Heap} {f : Addr} {fd : FuncData} {C : Addr}
abbrev s_law_bent : Stmt := top 36
theorem sc_law_bent : FnScope ["pot", "value", "at", "some"] ["pot", "value"] (defScope s_law_bent) := ⟨rfl, rfl, rfl, by decide +kernel, rfl, by decide +kernel, by decide +kernel⟩
theorem ok_law_bent {n : Nat} (F : Fun K "_law_bent" "_law_bent" s_law_bent f fd) (T : RTx mg) (hstr : mg "str" = none) (G_law_take : Fd P w K mg base CX0 "_law_take" 1 ["pot", "upto"] spTake) (G_law_of : Fd P w K mg base CX0 "_law_of" 2 ["pot", "some"] (spOf K)) (G_law_odd : Fd P w K mg base CX0 "_law_odd" 3 ["pot"] spOddS) (G_law_bent : Fd P w K mg base CX0 "_law_bent" (n + 3) ["pot", "value"] (spBentS n)) : FnOk P w K mg base CX0 (n + 4) f fd ["pot", "value"] (spBentS (n + 1)) := by
  refine F.ok sc_law_bent (fun vs H Q E h => ?_) (fun cdv A outer s H vs Q E hr h => ?_)
  · obtain ⟨p, k, m, u, N, v, d, rfl, _⟩ := h
    rfl
  obtain ⟨p, k, m, u, N, v, d, rfl, hm, hm3, hu, hk, hP, hN, hF, hd, hpb, q⟩ := h
  refine ⟨_, (pss_cons (ps_if (PW.pt (pw_and (pt_val (pe_callB call_isi rfl T.isinstance (by decide +kernel) (pa_cons (pv 1) (pa_cons (pe_bltn (v := .ty "tuple") rfl T.tuple boot_tuple rfl) pa_nil)))) (pw_and (pt_cmpR (op_neP (u64 hr)) (pv 1) (pe_tup pa_nil) (nomark _)) (pw_and1 (pt_cmpR op_gt (pe_fd G_law_take (hr.mono (by first | decide | omega)) rfl (pa_cons (pv 0) (pa_cons pe_int pa_nil))) pe_int (nomark _)))))) (pss_cons (ps_set (i := 2) sc_law_bent.nd rfl (Or.inl rfl) (pe_fd G_law_take (hr.mono (by first | decide | omega)) rfl (pa_cons (pv 0) (pa_cons (pe_callB call_len rfl T.len (by decide +kernel) (pa_cons (pv 1) pa_nil)) pa_nil))))
  (pss_one (ps_ret (pe_op op_catA (pe_op op_catA (pe_slice sl_tupA (pv 1) po_none (po_some (pv 2))) (pe_tup (pa_cons (pe_fd G_law_bent (hr.mono (by first | decide | omega)) rfl (pa_cons (pv 0) (pa_cons (pe_ix ix_tup (pv 1) (pv 2) (fun _ _ => rfl)) pa_nil))) pa_nil))) (pe_slice sl_tupA (pv 1) (po_some (pe_op op_add (pv 2) pe_int)) po_none))))) pss_nil)
  (pss_cons (ps_if (pt_val (pe_callB call_isi rfl T.isinstance (by decide +kernel) (pa_cons (pv 1) (pa_cons (pe_bltn (v := .ty "tuple") rfl T.tuple boot_tuple rfl) pa_nil)))) (pss_cons (ps_set (i := 3) sc_law_bent.nd rfl (Or.inl rfl) (pe_lst (pa_cons (pe_callTy call_list_of rfl T.list (by decide +kernel) (pa_cons (pv 1) pa_nil)) (pa_cons (pe_slice sl_tupA (pv 1) (po_some pe_int) po_none) (pa_cons (pe_slice sl_tupA (pv 1) po_none (po_some (pe_un un_neg pe_int))) (pa_cons (pe_revT (pv 1)) (pa_cons (pe_op op_catA (pv 1) (pe_slice sl_tupA (pv 1) (po_some (pe_un un_neg pe_int)) po_none)) (pa_cons (pe_tup pa_nil) (pa_cons pe_non (pa_cons (pe_op op_catA (pv 1) (pe_tup (pa_cons pe_int pa_nil))) pa_nil))))))))))
  (pss_one (ps_ret (pe_fd G_law_of (hr.mono (by first | decide | omega)) rfl (pa_cons (pv 0) (pa_cons (pv 3) pa_nil)))))) pss_nil)
  (pss_cons (ps_if (pt_val (pe_callB call_isi rfl T.isinstance (by decide +kernel) (pa_cons (pv 1) (pa_cons (pe_bltn (v := .ty "bool") rfl T.bool boot_bool rfl) pa_nil)))) (pss_one (ps_ret (pe_fd G_law_of (hr.mono (by first | decide | omega)) rfl (pa_cons (pv 0) (pa_cons (pe_lst (pa_cons (pe_notT (pv 1)) (pa_cons (pe_callTy call_int1 rfl T.int (by decide +kernel) (pa_cons (pv 1) pa_nil)) (pa_cons pe_non pa_nil)))) pa_nil))))) pss_nil)
  (pss_cons (ps_if (pt_val (pe_callB call_isi rfl T.isinstance (by decide +kernel) (pa_cons (pv 1) (pa_cons (pe_bltn (v := .ty "int") rfl T.int boot_int rfl) pa_nil)))) (pss_one (ps_ret (pe_fd G_law_of (hr.mono (by first | decide | omega)) rfl (pa_cons (pv 0) (pa_cons (pe_lst (pa_cons (pe_op op_add (pv 1) pe_int) (pa_cons (pe_op op_sub (pv 1) pe_int) (pa_cons (pe_cmpR op_eq (pv 1) pe_int (nomark _)) (pa_cons (pe_un un_neg (pv 1)) (pa_cons pe_non (pa_cons (pe_tup (pa_cons (pv 1) pa_nil)) pa_nil))))))) pa_nil))))) pss_nil)
  (pss_one (ps_ret (pe_ifExp (pt_val (pe_callB call_isi rfl T.isinstance (by decide +kernel) (pa_cons (pv 1) (pa_cons (pe_bltn (v := .ty "str") rfl hstr boot_str rfl) pa_nil)))) (pe_fd G_law_of (hr.mono (by first | decide | omega)) rfl (pa_cons (pv 0) (pa_cons (pe_lst (pa_cons (pe_op op_add_str (pv 1) pe_str) (pa_cons pe_non (pa_cons (pe_tup (pa_cons (pv 1) pa_nil)) pa_nil)))) pa_nil))) (pe_fd G_law_odd (hr.mono (by first | decide | omega)) rfl (pa_cons (pv 0) pa_nil))))))))), ?_⟩
  have hfb := fB_ge m u
  -- what is drawn of a list of values
  have draw : ∀ {H1 H2 : Hp} {l : Addr} {xs : List V} {j : Nat}, But [p] H H1 → Same H1 H2 → H1 l = none → H2 l = some (.lst xs) → xs ≠ [] → xs.length ≤ 1000 → (∀ x ∈ xs, OkM N H2 (m + 8) (fB m u) x) → PotAt H1 p j → j ≤ k + 4 * m + 3 → spOf K [.ref p, .ref l] H2 Q E0 := fun {H1 H2 l xs j} g1 g2 nl hl hne hlen hds hPj hj => by
    have hP2 := pot_sm g2 hPj
    refine ⟨p, l, xs, j, rfl, .of hl, (but_none g1 hPj nl).2, hne, by omega, by omega, hP2, fun i v H3 hv g3 hP3 => ?_⟩
    exact q v H3 ((g1.trans (.of g2)).trans g3) (hP3.mono (by omega)) ((hds v (List.mem_of_getElem? hv)).but g3 hN (.pot g3 hP2 hP3))
  refine seq_in ?_
  refine cut_nx (fun H' => But [p] H H' ∧ PotAt H' p (k + 1) ∧ SA true N H' 4 u v d) ?_ fun rest => ?_
  rotate_left
  · obtain ⟨t, ty, _, _, k3⟩ := hd.dv.ty (K := K)
    refine ⟨_, rfl, _, _, _, _, _, rfl, .ty "tuple", ty, k3, _, rfl, ite2 (fun c => ?_) (fun c => ?_)⟩
    rotate_left
    · exact iteF (rest _ ⟨But.refl _ _, hP.mono (by omega), hd⟩)
    refine ⟨_, rfl, szl (by show 0 ≤ _; decide), fun e0 ne0 => ?_⟩
    have g0 := same_new ne0 (.tup [])
    have hP0 := pot_sm g0 hP
    have hd0 := hd.same g0
    refine ⟨dtO d, .tup [], hd0.dv, .tup upd_same .nil (by show 0 ≤ 1000; decide), pl_3 hm3 (pP_pl hpb), rfl, fun t1 ht1 => ⟨_, rfl, ite2 (fun c1 => ?_) (fun c1 => ?_)⟩⟩
    rotate_left
    · exact iteF (rest _ ⟨.of g0, hP0.mono (by omega), hd0⟩)
    refine ⟨_, rfl, p, 6, k, rfl, by decide, by decide, by omega, hP0, fun dd H1 hdd g1 hP1 => ⟨_, _, rfl, rfl, _, rfl, ite2 (fun c2 => ?_) (fun c2 => ?_)⟩⟩
    rotate_left
    · exact rest _ ⟨(But.of g0).trans g1, hP1, hd0.but g1 (fun a m => by rw [List.mem_singleton.mp m]; exact hN) (.pot g1 hP0 hP1)⟩
    have gd : But [p] H H1 := (But.of g0).trans g1
    have hF1 : Fr N H1 := hF.but gd hP1
    have hd1 := hd0.but g1 (fun a m => by rw [List.mem_singleton.mp m]; exact hN) (DKp.pot g1 hP0 hP1)
    cases hd1 with
    | @tup _ _ a xs ds ha hds hl =>
      have hne : ds ≠ [] := fun z => ht1.mp c1 (by rw [z, dtO, dtOs])
      have hxl := hds.len
      have hpos : 0 < ds.length := List.length_pos_iff.mpr hne
      obtain ⟨m', rfl⟩ : ∃ m', m = m' + 1 := by
        cases m with
        | zero => exact hpb.elim
        | succ m' => exact ⟨m', rfl⟩
      have hl6 := hpb.1
      refine seq_in ?_
      refine ⟨_, rfl, _, rfl, _, xs.length, rfl, .inr ⟨_, .of ha, rfl⟩, p, _, k + 1, rfl, by omega, by omega, by omega, hP1, fun at_ H2 hat g2 hP2 => ?_⟩
      have ka2 := DKp.pot g2 hP1 hP2
      have ha2 := ka2.t ha
      have hF2 : Fr N H2 := hF1.but g2 hP2
      have hds2 := hds.but g2 (fun a m => by rw [List.mem_singleton.mp m]; exact hN) ka2
      refine g_set ?_
      refine nx_in ?_
      refine ret_in ?_
      refine ⟨_, rfl, ?_⟩
      refine noP_in ?_
      refine ⟨_, rfl, _, rfl, ?_⟩
      refine slA_any ha2 fun b H3 g3 hb => ?_
      rw [cutA_to] at hb
      have hat' : at_ < ds.length := by omega
      have hx : xs[at_]? = some (xs[at_]'(by omega)) := List.getElem?_eq_getElem _
      obtain ⟨dx, hdx, dv⟩ := SAs.at_ (hds2.same g3) hx
      have hP3 := pot_sm g3 hP2
      refine ⟨_, rfl, _, rfl, _, rfl, a, xs, _, _, rfl, rfl, .of (g3 _ _ ha2), atI_nat hx, p, k + 1 + 1, m', u, N, _, dx, rfl, by omega, by omega, hu, by omega, hP3, hN, hF2.same g3, dv.mono (by omega) (Nat.le_refl _), hpb.2 dx (List.mem_of_getElem? hdx), fun v' H4 g4 hP4 dv' => ⟨szl (by show 1 ≤ _; decide), fun tp ntp => ?_⟩⟩
      obtain ⟨b', d', sv'⟩ := dv'
      have k4 := DKp.pot g4 hP3 hP4
      have s5 := same_new ntp (.tup [v'])
      have hds4 : SAs b' N H4 3 u xs ds := ((hds2.same g3).but g4 (fun a m => by rw [List.mem_singleton.mp m]; exact hN) k4).flip hpb.2
      refine catA_any (s5 _ _ (k4.t hb)) upd_same (by rw [List.length_take]; show _ + 1 ≤ _; omega) fun c5 H5 g5 hc5 => ?_
      have s45 := s5.trans g5
      refine ⟨_, rfl, _, rfl, _, _, rfl, rfl, _, rfl, ?_⟩
      refine noP_in ?_
      refine slA_any (s45 _ _ (k4.t (g3 _ _ ha2))) fun b6 H6 g6 hb6 => ?_
      rw [show ((at_ : Int) + 1) = ((at_ + 1 : Nat) : Int) by omega, cutA_from] at hb6
      refine catA_any (g6 _ _ hc5) hb6 (by simp only [List.length_append, List.length_take, List.length_drop, List.length_singleton]; omega) fun c7 H7 g7 hc7 => ?_
      have s47 := (s45.trans g6).trans g7
      have hh := (hds4.same s47).mono (k' := m' + 8) (by omega) (Nat.le_refl u)
      refine q _ H7 (((gd.trans g2).trans (.of g3)).trans (g4.trans (.of s47))) ((pot_sm s47 hP4).mono (by omega)) ⟨b', .tuple (ds.take at_ ++ [d'] ++ ds.drop (at_ + 1)), ?_⟩
      have all := ((hh.take (i := at_)).app (.cons (n := 0) (sv'.same s47) .nil (Nat.le_refl _))).app (hh.drop (i := at_ + 1))
      refine (SA.tup (k := m' + 8) hc7 all (by simp only [List.length_append, List.length_take, List.length_drop, List.length_singleton]; omega)).mono (by omega) ?_
      show _ ≤ 2 * u + 1 + fB m' u
      omega
    | _ => simp [dtO, Dt.isTup] at c
  · rintro H1 ⟨g1, hP1, hd1⟩
    obtain ⟨t, ty, kk1, kk2, k3⟩ := hd1.dv.ty (K := K)
    have hF1 : Fr N H1 := hF.but g1 hP1
    refine nx_in ?_
    refine seq_in ?_
    refine ⟨_, rfl, _, _, _, _, _, rfl, .ty "tuple", ty, k3, _, rfl, ite2 (fun c => ?_) (fun c => ?_)⟩
    · cases hd1 with
      | @tup _ _ a xs ds ha hds hl =>
        refine seq_in ?_
        refine asg_in ?_
        refine osa_lst (N := N) (k := m + 8) (n := fB m u) (m := 8) (osa_cons (ose_list hF1 (ost_var rfl ha hds) (by omega) (by omega)) (osa_cons ((ost_sl (ost_var rfl ha hds) (zp_int 1) zp_none).s (by omega) (by omega) (by omega)) (osa_cons ((ost_sl (ost_var rfl ha hds) zp_none (zp_neg 1)).s (by omega) (by omega) (by omega)) (osa_cons ((ost_rev (ost_var rfl ha hds)).s (by omega) (by omega) (by omega)) (osa_cons ((ost_cat (ost_var rfl ha hds) (ost_sl (ost_var rfl ha hds) (zp_neg 1) zp_none) (by omega)).s (by omega) (by omega) (by omega)) (osa_cons (odp_tup0.s hF1) (osa_cons (odp_non.s hF1) (osa_cons ((ost_cat (ost_var rfl ha hds) (ost_tup1 (i := 0) (by decide) (by decide) rfl) (by omega)).s (by omega) (by omega) (by omega)) osa_nil)))))))) (by decide) fun l ys H2 g2 nl hl2 hyl hes => ?_
        refine g_set ?_
        refine nx_in ?_
        refine ret_in ?_
        exact ⟨_, rfl, _, rfl, draw g1 g2 nl hl2 (fun z => by rw [z] at hyl; cases hyl) (by omega) hes hP1 (by omega)⟩
      | _ => simp [dtO, Dt.isTup] at c
    · refine next_in ?_
      refine nx_in ?_
      refine seq_in ?_
      refine ⟨_, rfl, _, _, _, _, _, rfl, .ty "bool", ty, kk2, _, rfl, ite2 (fun c2 => ?_) (fun c2 => ?_)⟩
      · cases hd1 with
        | bl b =>
          cases m <;> exact hpb.elim
        | _ => simp [dtO, Dt.isBl] at c2
      refine next_in ?_
      refine nx_in ?_
      refine seq_in ?_
      refine ⟨_, rfl, _, _, _, _, _, rfl, .ty "int", ty, kk1, _, rfl, ite2 (fun c3 => ?_) (fun c3 => ?_)⟩
      · cases hd1 with
        | int i h3 h4 =>
          have hi : -100 ≤ i ∧ i ≤ 100 := by cases m <;> exact hpb
          refine ret_in ?_
          refine ⟨_, rfl, ?_⟩
          refine osa_lst (N := N) (k := m + 8) (n := fB m u) (m := 6) (osa_cons (ose_add rfl hi.1 hi.2 1 (by decide) (by decide)) (osa_cons (ose_sub rfl hi.1 hi.2 1 (by decide) (by decide)) (osa_cons (ose_eq rfl hi.1 hi.2 1) (osa_cons (ose_ngv rfl hi.1 hi.2) (osa_cons (odp_non.s hF1) (osa_cons (fun H Q g q => ose_one (k := 7) (n := 0) (σ := [some (.ref p), some (.int i), none, none]) (N := N) rfl hi.1 hi.2 H Q g fun v H' g1 h => q v H' g1 (h.mono (by omega) (by omega))) osa_nil)))))) (by decide) fun l ys H2 g2 nl hl2 hyl hes => ?_
          exact draw g1 g2 nl hl2 (fun z => by rw [z] at hyl; cases hyl) (by omega) hes hP1 (by omega)
        | bl b => cases m <;> exact hpb.elim
        | _ => simp [dtO, Dt.isInt, Dt.isBl] at c3
      refine next_in ?_
      refine nx_in ?_
      refine ret_in ?_
      cases hd1 with
      | non =>
        refine ⟨_, rfl, _, _, _, _, false, rfl, .ty "str", .base .non, by first | rfl | decide +kernel | kernel_rfl, _, rfl, iteF ?_⟩
        exact ⟨_, rfl, p, k + 1, N, rfl, by omega, hP1, hN, hF1, fun v' H2 g2 hP2 dv => q v' H2 (g1.trans g2) (hP2.mono (by omega)) (by obtain ⟨b, d, h⟩ := dv; exact ⟨b, d, h.mono (by omega) (by omega)⟩)⟩
      | int i _ _ => exact absurd (by rw [dtO]; rfl) c3
      | bl b => exact absurd (by rw [dtO]; rfl) c2
      | tup _ _ _ => exact absurd (by rw [dtO]; rfl) c
      | _ => cases m <;> exact hpb.elim
theorem all_law_bent (F : Fun K "_law_bent" "_law_bent" s_law_bent f fd) (b : Binds K fd ["pot", "value"] []) (mm : mg "_law_bent" = some (.ref f)) (T : RTx mg) (hstr : mg "str" = none) (G_law_take : Fd P w K mg base CX0 "_law_take" 1 ["pot", "upto"] spTake) (G_law_of : Fd P w K mg base CX0 "_law_of" 2 ["pot", "some"] (spOf K)) (G_law_odd : Fd P w K mg base CX0 "_law_odd" 3 ["pot"] spOddS) : ∀ n : Nat, Fd P w K mg base CX0 "_law_bent" (n + 3) ["pot", "value"] (spBentS n)
  | 0 => ⟨f, fd, mm, F.kp, b, (none0 (fun vs H Q E h => by obtain ⟨p, k, m, u, N, v, d, _, hm, _⟩ := h; omega)).mono (Nat.zero_le _)⟩
  | n + 1 => ⟨f, fd, mm, F.kp, b, ok_law_bent F T hstr G_law_take G_law_of G_law_odd (all_law_bent F b mm T hstr G_law_take G_law_of G_law_odd n)⟩
end
end Fp
/-! set(xs), xs a list of integers; tuple(sorted(set(xs))) -/
namespace Fp
open PySem PySem.Spec PyProof.Rows L2
section
variable {prog : Program} {w : World} {A : Around} {E : Value → Shared → Prop} {s : Shared}
set_option maxHeartbeats 3200000 in
theorem init_intsT {l : Addr} {its : Array Value} {ns : List Int} (hh : A.handled = none) (hl : s.heap.IsTuple l its) (hi : IntsAre its.toList ns) (hb : ns.length + 1 < scanBound) :
    codeAny (model prog w) A (.call (.builtin "set.__init__") ⟨[.ref s.heap.objs.size, .ref l], []⟩) (wants (fun r s₂ => r = .none ∧ ∃ h' tk c, s₂ = { s with heap := h', toks := tk } ∧
      SetR w h' s.heap.objs.size (fun j => decide (j ∈ ns)) c ∧ c ≤ ns.length ∧ (∀ b o, b < s.heap.objs.size → s.heap.get? b = some o → h'.get? b = some o)) E) { s with heap := s.heap.push (setO (!w.params.followText "set-order")) } := by
  generalize hled : (!w.params.followText "set-order") = led
  have top : (s.heap.push (setO led)).get? s.heap.objs.size = some (setO led) := Heap.get?_push_size _ rfl
  have hT : Shared.TypeIs { s with heap := s.heap.push (setO led) } (.ref s.heap.objs.size) "set" := ⟨_, top, rfl⟩
  have hsz : its.size = ns.length := by
    have q := hi.length
    rwa [Array.length_toList] at q
  refine codeAny_call_builtin PySem.F.called_set.init.plain PySem.F.entry_set_init (check_set_init_1 hT ?_)
  obtain ⟨⟨cls, odict, odata, oslots⟩, hol, hcl, nl, hdl⟩ := hl
  simp only at hcl hdl
  subst hcl; subst hdl
  have hol' : (s.heap.push (setO led)).get? l = some { cls := .type "tuple", dict := odict, data := .seq its nl, slots := oslots } := Heap.get?_push_of_some _ hol
  have f1 := PySem.F.sub_tuple_set
  have f2 := PySem.F.sub_tuple_frozenset
  have f3 : (Value.type "tuple" == Value.type "dict") = false := by decide
  have hl1 : (s.heap.push (setO led)).IsTuple l its := ⟨_, hol', rfl, nl, rfl⟩
  have lt := Heap.lt_size hol
  unfold Builtin.«set.__init__» noKeywords Builtin.Frozenset.updateFrom
  generalize hPI : pyIter = PI
  wp_walk
  subst hPI
  refine wpAny_pyIter_tuple hl1 (wpAny_bind (wpAny_runValue ?_))
  have nI : l ≠ (s.heap.push (setO led)).objs.size := by rw [Heap.size_push]; exact Nat.ne_of_lt (Nat.lt_succ_of_lt lt)
  refine set_update_ints ((Walks.tuple (by simp [hh]) _ l nI its).toS) s.heap.objs.size ?_ ns hsz hb (fun i v e => ?_) its.size 0 _ (Nat.sub_zero _) (Nat.zero_le _) ⟨⟨_, Heap.get?_push_size _ rfl, rfl, rfl⟩, (hl1.push _)⟩ ⟨0, Nat.le_refl 0, setR_new_at (w := w) ?_⟩ ?_
  · rw [Heap.size_push]; simp only [List.mem_cons, List.mem_singleton, List.not_mem_nil, or_false, not_or]; exact ⟨Nat.ne_of_lt (Nat.lt_succ_self _), Nat.ne_of_gt lt⟩
  · have hin : i < ns.length := by rw [← hsz]; exact (Array.getElem?_eq_some_iff.mp e).1
    obtain ⟨t, et⟩ := IntsAre.int_at hi i v (by rw [Array.getElem?_toList]; exact e)
    refine ⟨ns[i], t, List.getElem?_eq_getElem hin, ?_⟩
    rw [et, List.getD_eq_getElem?_getD, List.getElem?_eq_getElem hin] <;> rfl
  · rw [hled]
    exact Heap.get?_push_of_some _ top
  · rintro ⟨h', g', d', tk', os'⟩ c m hc hS
    obtain rfl : g' = s.gens := m.gens
    obtain rfl : d' = s.drawn := m.drawn
    obtain rfl : os' = s.os := m.os
    show wpAny _ _ _ _ _ _
    refine wpAny_pure ?_
    show wpAny _ _ (ret Value.none) _ _ _
    refine wpAny_pure ⟨rfl, h', tk', c, rfl, hS, by omega, fun b o hb e => m.heap b o ?_ (Heap.get?_push_of_some _ (Heap.get?_push_of_some _ e))⟩
    have b1 : b ≠ s.heap.objs.size := Nat.ne_of_lt hb
    have b2 : b ≠ (s.heap.push (setO led)).objs.size := by rw [Heap.size_push]; omega
    simp only [List.mem_cons, List.mem_singleton, List.not_mem_nil, or_false, not_or]
    exact ⟨b1, b2⟩
set_option maxHeartbeats 3200000 in
theorem call_set_intsT {l : Addr} {its : Array Value} {ns : List Int} {Q : Value → Shared → Prop} (hh : A.handled = none) (hl : s.heap.IsTuple l its) (hi : IntsAre its.toList ns) (hb : ns.length + 1 < scanBound)
    (h : ∀ (h' : Heap) (tk c : Nat), SetR w h' s.heap.objs.size (fun j => decide (j ∈ ns)) c → c ≤ ns.length → (∀ b o, b < s.heap.objs.size → s.heap.get? b = some o → h'.get? b = some o) → Q (.ref s.heap.objs.size) { s with heap := h', toks := tk }) :
    wpAny (model prog w) A (call (.type "set") [.ref l]) Q E s := by
  obtain ⟨c, tl, e1⟩ := PySem.F.called_set.mro
  have e2 := PySem.F.called_set.made
  have e3 := PySem.F.called_set.sub
  have e4 := PySem.F.called_set.notType
  have e5 := PySem.F.called_set.canCreate
  have e6 := PySem.F.typeCall_set_1 (.ref l)
  have e7 := PySem.F.called_set.init.lookup
  refine wpAny_call (codeAny_of_tree ?_)
  show wpAny _ _ (callAny (.type "set") _) _ _ _
  refine wpAny_pure ⟨Code.quiet_builtin _ (by decide +kernel), codeAny_builtin PySem.F.entry_type_call ?_⟩
  rw [Around.under_plain (weight_type_call_type "set" [.ref l] []) rfl]
  repeat (any_goals (first | assumption | wp_step))
  refine codeAny_mono (code_set_led1 (.ref l) (E := E) (Q₁ := fun x s₁ => x = .ref s.heap.objs.size ∧ s₁ = { s with heap := s.heap.push (setO (!w.params.followText "set-order")) }) ⟨rfl, rfl⟩) fun r s₁ hr => ?_
  cases r with
  | error e => exact hr
  | ok fl =>
    cases fl with
    | ret x =>
      obtain ⟨rfl, rfl⟩ := hr
      have top : (s.heap.push (setO (!w.params.followText "set-order"))).get? s.heap.objs.size = some (setO (!w.params.followText "set-order")) := Heap.get?_push_size _ rfl
      have hT : Shared.TypeIs { s with heap := s.heap.push (setO (!w.params.followText "set-order")) } (.ref s.heap.objs.size) "set" := ⟨_, top, rfl⟩
      have e8 := PySem.F.called_set.init.bind (.ref s.heap.objs.size)
      repeat (any_goals (first | assumption | wp_step))
      refine codeAny_mono (init_intsT (A := A.in1) (E := E) (by simp [hh]) hl hi hb) fun r₂ s₂ hr₂ => ?_
      cases r₂ with
      | error e => exact hr₂
      | ok fl₂ =>
        cases fl₂ with
        | ret r =>
          obtain ⟨rfl, h', tk, c, rfl, hS, hc, hk⟩ := hr₂
          repeat (any_goals (first | assumption | wp_step))
          exact h _ _ _ hS hc hk
        | _ => exact hr₂.elim
    | _ => exact hr.elim
end
/-- set(xs) of a list of integers -/
def rSetIT (K : PySem.W.Frag) (w : World) : List V → Hp → VK → Prop := fun xs H Q => ∃ (l : Addr) (ns : List Int), xs = [.ref l] ∧ SqT K H l (ns.map V.int) ∧ ns.length ≤ 1000 ∧ ∀ a c, c ≤ ns.length → H a = none → Q (.ref a) (upd H a (SetO w a (fun j => decide (j ∈ ns)) c))
section
variable {X : Cx}
theorem cr_setIT (hc : X.calm = true) : CallR X (.type "set") (rSetIT X.K X.w) := by
  intro pins s σ H xs us Q I r h
  obtain ⟨l, ns, rfl, hs, hl, q⟩ := h
  rw [Vals.ref1 r]
  obtain ⟨its, rv, pl, hz⟩ := I.tuple hs
  refine call_set_intsT (ns := ns) (I.ok.hd hc) pl (by simpa using ints_vals rv) (by unfold scanBound; omega) fun h' tk c hS hcl hk => ?_
  exact ⟨.ref s.heap.objs.size, _, I.laid (t' := tk) (fun b u e => hk b u (Heap.lt_size e) e) (Nat.le_refl _) (setO_new hS), rfl, q _ c hcl (I.hok.fresh (Nat.le_refl _))⟩
end
end Fp
/-! rows as data that can be shown -/
namespace Fp
open PySem PySem.Spec PyProof.Rows L2
def SmL (l : List Int) : Prop := l.length ≤ 5 ∧ ∀ x ∈ l, 0 ≤ x ∧ x < 5
/-- the parts of a row: None, or a lot -/
def Prt (e : Dt) : Prop := e = .non ∨ ∃ l, e = lotD l ∧ SmL l
theorem lot_prt {n : Nat} (h5 : n ≤ 5) {e : Dt} (h : lotOfB n e = true) : Prt e := by
  cases e with
  | tup es =>
    obtain ⟨h1, h2⟩ := lotOfB_tup.mp h
    have ee : es = (es.map Dt.toInt).map Dt.int := by
      rw [List.map_map]
      conv => lhs; rw [← List.map_id es]
      refine List.map_congr_left fun x hx => ?_
      have := (h1 x hx).1
      cases x with
      | int i => rfl
      | _ => cases this
    refine .inr ⟨es.map Dt.toInt, by unfold lotD; rw [← ee], ?_, fun x hx => ?_⟩
    · have := nodup_le (m := (List.range n).map fun a : Nat => (a : Int)) (srt_nodup h2) fun x hx => by
        obtain ⟨y, hy, rfl⟩ := List.mem_map.mp hx
        obtain ⟨_, q1, q2⟩ := h1 y hy
        exact List.mem_map.mpr ⟨y.toInt.toNat, List.mem_range.mpr (by omega), by omega⟩
      rw [List.length_map (f := fun a : Nat => (a : Int)), List.length_range] at this
      omega
    · obtain ⟨y, hy, rfl⟩ := List.mem_map.mp hx
      obtain ⟨_, q1, q2⟩ := h1 y hy
      omega
  | _ => cases h
theorem at_prts {n : Nat} (h5 : n ≤ 5) {d : Dt} (h : atB n d = true) : ∃ ds, d = .tup ds ∧ ds.length = n ∧ ∀ e ∈ ds, Prt e := by
  obtain ⟨ds, rfl, hl, hv⟩ := at_tup h
  refine ⟨ds, rfl, hl, fun e he => ?_⟩
  obtain ⟨i, hi⟩ := List.mem_iff_getElem?.mp he
  have hil := get_lt hi
  unfold vwsB at hv
  have := List.all_eq_true.mp hv i (List.mem_range.mpr hil)
  have eg : ds.getD i .non = e := by rw [List.getD_eq_getElem?_getD, hi]; rfl
  rw [eg, Bool.or_eq_true] at this
  rcases this with z | z
  · cases e with
    | non => exact .inl rfl
    | _ => cases z
  · exact lot_prt h5 (view_one.mp z).1
def prtP (e : Dt) : PyData := toP 1 e
section
variable {N : Addr → Prop} {H : Hp} {b : Bool}
theorem sas_ints {k : Nat} : ∀ {l : List Int}, (∀ x ∈ l, -100 ≤ x ∧ x ≤ 100) → SAs b N H k l.length (l.map V.int) (l.map PyData.int)
  | [], _ => .nil
  | x :: l, h => .cons (m := 0) (.int x (by have := h x List.mem_cons_self; omega) (by have := h x List.mem_cons_self; omega)) (sas_ints fun y hy => h y (List.mem_cons_of_mem _ hy)) (by rw [List.length_cons]; omega)
theorem dvs_ints_inv : ∀ {l : List Int} {xs : List V}, DVs H xs (l.map Dt.int) → xs = l.map V.int
  | [], _, .nil => rfl
  | x :: l, _, .cons h t => by
    cases h
    rw [List.map_cons, dvs_ints_inv t]
/-- what stands for a part of a row -/
def PrtV (H : Hp) (y : V) : Prop := y = .non ∨ ∃ c l, y = .ref c ∧ H c = some (.tup (l.map V.int)) ∧ SmL l
theorem PrtV.kd {H H' : Hp} {y : V} (g : DKp H H') : PrtV H y → PrtV H' y
  | .inl h => .inl h
  | .inr ⟨c, l, h1, h2, h3⟩ => .inr ⟨c, l, h1, g.t h2, h3⟩
theorem prt_v {y : V} {e : Dt} (h : DV H y e) (p : Prt e) : PrtV H y := by
  rcases p with rfl | ⟨l, rfl, hl⟩
  · cases h; exact .inl rfl
  · cases h with
    | tup ha hs _ =>
      rw [dvs_ints_inv hs] at ha
      exact .inr ⟨_, l, rfl, ha, hl⟩
theorem SmL.le {l : List Int} (h : SmL l) : ∀ x ∈ l, -100 ≤ x ∧ x ≤ 100 := fun x hx => by have := h.2 x hx; omega
def prtD : Dt → PyData
  | .tup es => .tuple (es.map fun e => .int e.toInt)
  | _ => .none
theorem prtv_sa {k : Nat} {y : V} (h : PrtV H y) : ∃ d, SA b N H (k + 1) 5 y d ∧ pP 1 d := by
  rcases h with rfl | ⟨c, l, rfl, h2, h3⟩
  · exact ⟨.none, .non, trivial⟩
  · refine ⟨.tuple (l.map PyData.int), .tup h2 ((sas_ints h3.le).mono (Nat.le_refl _) h3.1) (by rw [List.length_map]; have := h3.1; omega), by rw [List.length_map]; have := h3.1; omega, fun d hd => ?_⟩
    obtain ⟨i, hi, rfl⟩ := List.mem_map.mp hd
    exact h3.le i hi
theorem prts_sa {k : Nat} : ∀ {xs : List V}, (∀ y ∈ xs, PrtV H y) → ∃ ds, SAs b N H (k + 1) (6 * xs.length) xs ds ∧ ∀ d ∈ ds, pP 1 d
  | [], _ => ⟨[], .nil, fun d hd => by cases hd⟩
  | y :: xs, h => by
    obtain ⟨d, h1, h2⟩ := prtv_sa (b := b) (N := N) (k := k) (h y List.mem_cons_self)
    obtain ⟨ds, h3, h4⟩ := prts_sa (k := k) fun z hz => h z (List.mem_cons_of_mem _ hz)
    refine ⟨d :: ds, .cons h1 h3 (by rw [List.length_cons]; omega), fun e he => ?_⟩
    rcases List.mem_cons.mp he with z | z
    · rw [z]; exact h2
    · exact h4 e z
end
/-- a row, as it stands in the heap -/
def RowV (H : Hp) (n : Nat) (a : Addr) (xs : List V) : Prop := H a = some (.tup xs) ∧ xs.length = n ∧ ∀ y ∈ xs, PrtV H y
theorem RowV.kd {H H' : Hp} {n : Nat} {a : Addr} {xs : List V} (g : DKp H H') (h : RowV H n a xs) : RowV H' n a xs := ⟨g.t h.1, h.2.1, fun y hy => (h.2.2 y hy).kd g⟩
theorem RowV.same {H H' : Hp} {n : Nat} {a : Addr} {xs : List V} (g : Same H H') (h : RowV H n a xs) : RowV H' n a xs := h.kd (.of g)
theorem row_v {n : Nat} (h5 : n ≤ 5) {H : Hp} {v : V} {d : Dt} (h : DV H v d) (ha : atB n d = true) : ∃ a xs, v = .ref a ∧ RowV H n a xs := by
  obtain ⟨ds, rfl, hl, hp⟩ := at_prts h5 ha
  cases h with
  | tup h1 h2 h3 =>
    refine ⟨_, _, rfl, h1, by rw [h2.len, hl], fun y hy => ?_⟩
    obtain ⟨i, hi⟩ := List.mem_iff_getElem?.mp hy
    obtain ⟨e, he, dv⟩ := DVs.at_ h2 hi
    exact prt_v dv (hp e (List.mem_of_getElem? he))
theorem RowV.sas {H : Hp} {n : Nat} {a : Addr} {xs : List V} (h : RowV H n a xs) (h5 : n ≤ 5) (b : Bool) (N : Addr → Prop) (k : Nat) : ∃ ds, SAs b N H (k + 1) 30 xs ds ∧ ds.length = n ∧ ∀ d ∈ ds, pP 1 d := by
  obtain ⟨ds, h1, h2⟩ := prts_sa (b := b) (N := N) (k := k) h.2.2
  have := h.2.1
  exact ⟨ds, h1.mono (Nat.le_refl _) (by omega), by rw [← h1.len]; exact this, h2⟩
theorem RowV.sa {H : Hp} {n : Nat} {a : Addr} {xs : List V} (h : RowV H n a xs) (h5 : n ≤ 5) (b : Bool) (N : Addr → Prop) (k : Nat) : ∃ d, SA b N H (k + 2) 30 (.ref a) d ∧ pP 2 d := by
  obtain ⟨ds, h1, h2, h3⟩ := h.sas h5 b N k
  exact ⟨_, .tup h.1 h1 (by omega), by omega, h3⟩
end Fp
namespace Fp
open PySem PySem.Spec PyProof.Rows L2
theorem call_tupK {X : Cx} {K : PySem.W.Frag} (e : X.K = K := by rfl) : CallR X (.type "tuple") (fun xs H Q => ∃ p ys, xs = [.ref p] ∧ ((SqL K H p ys ∧ ∀ l, H l = none → Q (.ref l) (upd H l (.tup ys))) ∨ (SqT K H p ys ∧ Q (.ref p) H))) := by subst e; exact call_tuple_of
theorem pi_tupK {X : Cx} {K : PySem.W.Frag} {tg l : Expr} {tl : TE} (hl : PE X l tl) (e : X.K = K := by rfl) : PI X tg l (iTup K tl) := by subst e; exact pi_tup hl
def spNear : Sp := fun vs H Q _ => ∃ (p : Addr) (n k : Nat) (v : V) (d : Dt), vs = [.ref p, .int n, v] ∧ 1 ≤ n ∧ n ≤ 5 ∧ k < 80000 ∧ PotAt H p k ∧ DV H v d ∧ atB n d = true ∧ ∀ l xs H', But [p] H H' → H p ≠ none → H l = none → H' l = some (.lst xs) → xs.length ≤ 40 → (∀ x ∈ xs, OkM (fun a => a = p) H' 12 6000 x) → (∃ j, PotAt H' p j) → Q (.ref l) H'
/-- the addresses that may change while the list of values grows -/
def Nf (p fl : Addr) : Addr → Prop := fun x => x = p ∨ x = fl
theorem cons_in {te : TE} {ta : TA} {σ : L2.St} {H : Hp} {Q : List V → Hp → Prop} (h : te σ H fun v H1 => ta σ H1 fun vs H2 => Q (v :: vs) H2) : tCons te ta σ H Q := h
theorem lst_in {ta : TA} {σ : L2.St} {H : Hp} {Q : VK} (h : ta σ H fun xs H1 => xs.length ≤ sizeLine ∧ ∀ p, H1 p = none → Q (.ref p) (upd H1 p (.lst xs))) : tLst ta σ H Q := h
structure NrS (H : Hp) (p : Addr) (n : Nat) (a b : Addr) (xs ys : List V) (j : Nat) (fl : Addr) (fs : List V) (H' : Hp) : Prop where
  but : But [p] H H'
  pot : PotAt H' p j
  hfl : H' fl = some (.lst fs)
  nfl : H fl = none
  pfl : fl ≠ p
  fok : ∀ x ∈ fs, OkM (Nf p fl) H' 12 6000 x
  ra : RowV H' n a xs
  rb : RowV H' n b ys
section
variable {H H' H'' : Hp} {p a b fl : Addr} {n j : Nat} {xs ys fs : List V} {K : PySem.W.Frag}
theorem NrS.fr (S : NrS H p n a b xs ys j fl fs H') : Fr (Nf p fl) H' := fun x hx z => by
  rcases z with rfl | rfl
  · obtain ⟨_, e⟩ := S.pot.there
    rw [e] at hx; cases hx
  · rw [S.hfl] at hx; cases hx
theorem NrS.same (S : NrS H p n a b xs ys j fl fs H') (g : Same H' H'') : NrS H p n a b xs ys j fl fs H'' :=
  ⟨S.but.trans (.of g), pot_sm g S.pot, g _ _ S.hfl, S.nfl, S.pfl, fun x hx => (S.fok x hx).same g, S.ra.same g, S.rb.same g⟩
theorem okm_put {N : Addr → Prop} {k m : Nat} {x : V} {o : HO} {us vs : List V} (hN : N fl) (h : H' fl = some (.lst us)) (hx : OkM N H' k m x) : OkM N (upd H' fl (.lst vs)) k m x := by
  obtain ⟨c, d, s⟩ := hx
  refine ⟨c, d, s.step (fun x o nx q => ⟨?_, nx⟩) fun {x zs} q => ?_⟩
  · rw [upd_ne (fun e => nx (by rw [e]; exact hN))]; exact q
  · rw [upd_ne (fun e => by rw [e, h] at q; cases q)]; exact q
theorem NrS.app {x : V} (S : NrS H p n a b xs ys j fl fs H') (hx : OkM (Nf p fl) H' 12 6000 x) : NrS H p n a b xs ys j fl (fs ++ [x]) (upd H' fl (.lst (fs ++ [x]))) := by
  have kp := DKp.put (ys := fs ++ [x]) S.hfl
  refine ⟨but_put S.but S.nfl, pot_put S.pot S.pfl, upd_same, S.nfl, S.pfl, fun y hy => ?_, S.ra.kd kp, S.rb.kd kp⟩
  rcases List.mem_append.mp hy with hy | hy
  · exact okm_put (o := .lst []) (.inr rfl) S.hfl (S.fok y hy)
  · rw [List.mem_singleton.mp hy]
    exact okm_put (o := .lst []) (.inr rfl) S.hfl hx
/-- found.append(e) -/
theorem app_in {σ : L2.St} {D : Ends} {te : TE} (S : NrS H p n a b xs ys j fl fs H') (h6 : σ[6]? = some (some (.ref fl))) (hl : fs.length ≤ 100) (he : OsE (Nf p fl) σ H' 12 6000 te) (k : ∀ x H'', NrS H p n a b xs ys j fl (fs ++ [x]) H'' → D.nx σ H'') : tDrop (tBM K "list" rAppend (tVar 6) (tCons te tNil)) D σ H' := by
  refine ⟨_, h6, .inl ⟨rfl, _, .of S.hfl⟩, ?_⟩
  refine he H' _ (Same.refl _) fun x H1 g1 hx => ?_
  have S1 := S.same g1
  exact ⟨fl, fs, x, rfl, rfl, S1.hfl, szt (by omega), k _ _ (S1.app hx)⟩
theorem ost_tup1v {N : Addr → Prop} {σ : L2.St} {c : Bool} {k m i : Nat} {v : V} {d : PyData} (h : σ[i]? = some (some v)) (hv : SA c N H' k m v d) : OsT c N σ H' k (m + 1) (tTup (tCons (tVar i) tNil)) := fun H1 Q g q => by
  refine ⟨_, h, szl (by show 1 ≤ _; decide), fun t nt => ?_⟩
  have g2 := same_new nt (.tup [v])
  exact q _ _ [d] _ g2 upd_same (.cons (n := 0) (hv.same (g.trans g2)) .nil (by omega))
theorem nones_sa {N : Addr → Prop} (m : Nat) (H : Hp) : SAs true N H 3 m (List.replicate m .non) (List.replicate m .none) := by
  induction m with
  | zero => exact .nil
  | succ m ih => exact .cons (m := 0) .non ih (by omega)
theorem nones_in {σ : L2.St} {Q : VK} (h1' : σ[1]? = some (some (.int n))) (h1 : 1 ≤ n) (h5 : n ≤ 5) (k : ∀ e H'', Same H' H'' → H'' e = some (.tup (List.replicate n .non)) → Q (.ref e) H'') : (tOp (rRepU K) (tTup (tCons (tC .non) tNil)) (tVar 1)) σ H' Q := by
  refine ⟨szl (by show 1 ≤ _; decide), fun t nt => ⟨_, h1', ?_⟩⟩
  have g := same_new nt (.tup [.non])
  refine ⟨t, n, [.non], rfl, rfl, .of upd_same, by simp, by omega, by omega, by show 1 ≤ 1000; decide, fun e => ?_, fun _ q hq => ?_⟩
  · have e : n = 1 := by omega
    subst e
    exact k t _ g upd_same
  · have e : (List.replicate (n : Int).toNat [V.non]).flatten = List.replicate n .non := by rw [Int.toNat_natCast]; simp
    rw [e]
    exact k q _ (g.trans (same_new hq _)) upd_same
theorem cb_in {r : List V → Hp → VK → Prop} {ta : TA} {σ : L2.St} {H : Hp} {Q : VK} (h : ta σ H fun vs H1 => r vs H1 Q) : tCB r ta σ H Q := h
theorem opx_in {r : R2} {ta tb : TE} {σ : L2.St} {H : Hp} {Q : VK} (h : ta σ H fun x H1 => tb σ H1 fun y H2 => r x y H2 Q) : tOp r ta tb σ H Q := h
/-- row[at] if row[at] is not None else () -/
theorem ifx_in {σ : L2.St} {Q : VK} {at_ : Nat} (h2 : σ[2]? = some (some (.ref a))) (h4 : σ[4]? = some (some (.int at_))) (ra : RowV H' n a xs) (hat : at_ < n) (q : ∀ (cc : Addr) (l : List Int) (G : Hp), Same H' G → G cc = some (.tup (l.map V.int)) → SmL l → Q (.ref cc) G) :
    (tIf (tTest (tOp (fun x y H Q => y = .non ∧ Q (.bl (!decide (x = .non))) H) (tOp (rIxT K) (tVar 2) (tVar 4)) (tC .non))) (tOp (rIxT K) (tVar 2) (tVar 4)) (tTup tNil)) σ H' Q := by
  have hy : xs[at_]? = some (xs[at_]'(by have := ra.2.1; omega)) := List.getElem?_eq_getElem _
  have pv' := ra.2.2 _ (List.mem_of_getElem? hy)
  refine ⟨_, h2, _, h4, a, xs, _, _, rfl, rfl, .of ra.1, atI_nat hy, rfl, _, rfl, ?_⟩
  rcases pv' with e | ⟨c, l, e, hc, hl⟩
  · rw [e]
    refine iteF ⟨szl (by show 0 ≤ _; decide), fun t nt => ?_⟩
    exact q t [] _ (same_new nt _) upd_same ⟨by show 0 ≤ 5; decide, fun x hx => by cases hx⟩
  · rw [e]
    refine iteT ?_
    refine ⟨_, h2, _, h4, a, xs, _, _, rfl, rfl, .of ra.1, atI_nat hy, ?_⟩
    rw [e]
    exact q c l _ (Same.refl _) hc hl
/-- tuple(sorted(set(.. + (to,)))) -/
theorem more_in {σ : L2.St} {Q : VK} {at_ to : Nat} {w : World} (h2 : σ[2]? = some (some (.ref a))) (h4 : σ[4]? = some (some (.int at_))) (h5' : σ[5]? = some (some (.int to))) (ra : RowV H' n a xs) (hat : at_ < n) (hto : to < 5) (q : ∀ (m : Addr) (l : List Int) (G : Hp), Same H' G → G m = some (.tup (l.map V.int)) → l.length ≤ 6 → (∀ x ∈ l, 0 ≤ x ∧ x < 5) → Q (.ref m) G) :
    (tCB (fun xs H Q => ∃ p ys, xs = [V.ref p] ∧ ((SqL K H p ys ∧ ∀ l, H l = none → Q (.ref l) (upd H l (.tup ys))) ∨ (SqT K H p ys ∧ Q (.ref p) H))) (tCons (tCB (rSortedSet w) (tCons (tCB (rSetIT K w) (tCons (tOp (rCatA K) (tIf (tTest (tOp (fun x y H Q => y = .non ∧ Q (.bl (!decide (x = .non))) H) (tOp (rIxT K) (tVar 2) (tVar 4)) (tC .non))) (tOp (rIxT K) (tVar 2) (tVar 4)) (tTup tNil)) (tTup (tCons (tVar 5) tNil))) tNil)) tNil)) tNil)) σ H' Q := by
  refine cb_in ?_
  refine cons_in ?_
  refine cb_in ?_
  refine cons_in ?_
  refine cb_in ?_
  refine cons_in ?_
  refine opx_in ?_
  refine ifx_in h2 h4 ra hat fun cc l G g hcc hl => ?_
  have hl1 := hl.1
  refine ⟨_, h5', szl (by show 1 ≤ _; decide), fun t nt => ?_⟩
  have g1 := same_new nt (.tup [.int (to : Nat)])
  refine catA_any (g1 _ _ hcc) upd_same (by rw [List.length_map]; show _ + 1 ≤ _; omega) fun c2 G2 g2 hc2 => ?_
  have e : l.map V.int ++ [V.int (to : Nat)] = (l ++ [((to : Nat) : Int)]).map V.int := by rw [List.map_append]; rfl
  rw [e] at hc2
  have hlen : (l ++ [((to : Nat) : Int)]).length ≤ 6 := by rw [List.length_append, List.length_singleton]; omega
  refine ⟨c2, _, rfl, .of hc2, by omega, fun s1 c hc n1 => ?_⟩
  have g3 := same_new n1 (SetO w s1 (fun j => decide (j ∈ l ++ [((to : Nat) : Int)])) c)
  refine ⟨s1, _, c, rfl, upd_same, by omega, fun zs p hz hm hzl np => ?_⟩
  have g4 := same_new np (.lst (zs.map V.int))
  refine ⟨p, _, rfl, .inl ⟨.of upd_same, fun m nm => ?_⟩⟩
  have g5 := same_new nm (.tup (zs.map V.int))
  refine q m zs _ ((((g.trans g1).trans g2).trans g3).trans (g4.trans g5)) upd_same (by omega) fun x hx => ?_
  have hx := of_decide_eq_true ((hm x).mp hx)
  rcases List.mem_append.mp hx with hx | hx
  · exact hl.2 x hx
  · rw [List.mem_singleton.mp hx]; omega
/-- tuple([e for hand, view in enumerate(row)]) -/
theorem ose_enum {N : Addr → Prop} {at_ to : Nat} {te : TE} {n' : Nat} (hF : Fr N H') (ha : RowV H' n a xs) (h5 : n ≤ 5)
    (he : ∀ (i : Nat) (y : V) (H1 : Hp) (Q : VK), xs[i]? = some y → Same H' H1 → (∀ z H2, Same H1 H2 → PrtV H2 z → Q z H2) → te [some (.ref p), some (.int n'), some (.ref a), some (.ref b), some (.int at_), some (.int to), some (.ref fl), none, none, some (.int (0 + (i : Nat))), some y, none] H1 Q) :
    OsE N [some (.ref p), some (.int n'), some (.ref a), some (.ref b), some (.int at_), some (.int to), some (.ref fl), none, none, none, none, none] H' 12 6000 (tCB (fun xs H Q => ∃ p ys, xs = [V.ref p] ∧ ((SqL K H p ys ∧ ∀ l, H l = none → Q (.ref l) (upd H l (.tup ys))) ∨ (SqT K H p ys ∧ Q (.ref p) H))) (tCons (tLc (iEnumT K (tCons (tVar 2) tNil)) (gTup K 2 (gCons (gName 9) (gCons (gName 10) gNil))) tYes te [9, 10]) tNil)) := by
  intro H1 Q g1 q
  have ra := ha.same g1
  refine ⟨_, rfl, a, xs, rfl, .of ra.1, fun D hD => ?_⟩
  refine lc_it (walk_enumT (xs := xs)) (fun i H2 => Same H1 H2 ∧ ∃ acc, H2 D = some (.lst acc) ∧ acc.length = i ∧ ∀ z ∈ acc, PrtV H2 z) ⟨same_new hD _, [], upd_same, rfl, fun z hz => by cases hz⟩ (fun i H2 _ z => .of (z.1 _ _ ra.1)) ?_ ?_
  · rintro i y0 H2 H3 hi ⟨g2, acc, h2, hl, hp⟩ ⟨T', y, rfl, hT, rfl, hy⟩
    have g3 := same_new hT (.tup [.int (0 + (i : Nat)), y])
    refine ⟨T', _, rfl, .of upd_same, rfl, _, _, rfl, _, _, rfl, rfl, rfl, ?_⟩
    unfold tYes
    refine iteT ?_
    refine he i y _ _ hy (((g1.trans g2).trans g3)) fun z H4 g4 hz => ?_
    have h4 := g4 _ _ (g3 _ _ h2)
    have kp := (DKp.of (g3.trans g4)).trans (.put (ys := acc ++ [z]) h4)
    refine ⟨acc, h4, szt (by have := ra.2.1; omega), fun o u ho => ?_, acc ++ [z], upd_same, by rw [List.length_append, hl]; rfl, fun w hw => ?_⟩
    · rw [upd_ne (ne_of_none ho hD)]; exact g4 _ _ (g3 _ _ (g2 _ _ ho))
    · rcases List.mem_append.mp hw with hw | hw
      · exact (hp w hw).kd kp
      · rw [List.mem_singleton.mp hw]; exact hz.kd (.put (ys := acc ++ [z]) h4)
  rintro H2 ⟨g2, acc, h2, hl, hp⟩
  refine ⟨D, acc, rfl, .inl ⟨.of h2, fun l nl => ?_⟩⟩
  have g3 := same_new nl (.tup acc)
  obtain ⟨ds, s1, s2⟩ := prts_sa (b := true) (N := N) (k := 5) fun z hz => (hp z hz).kd (.of g3)
  have := ha.2.1
  exact q _ _ (g2.trans g3) ⟨true, _, (SA.tup upd_same s1 (by rw [← s1.len]; omega)).mono (by omega) (by omega)⟩
/-- tuple([e for view in row]) -/
theorem ose_each {N : Addr → Prop} {at_ to : Nat} {te : TE} {n' : Nat} (hF : Fr N H') (ha : RowV H' n a xs) (h5 : n ≤ 5)
    (he : ∀ (i : Nat) (y : V) (H1 : Hp) (Q : VK), xs[i]? = some y → Same H' H1 → (∀ z H2, Same H1 H2 → PrtV H2 z → Q z H2) → te [some (.ref p), some (.int n'), some (.ref a), some (.ref b), some (.int at_), some (.int to), some (.ref fl), none, none, none, some y, none] H1 Q) :
    OsE N [some (.ref p), some (.int n'), some (.ref a), some (.ref b), some (.int at_), some (.int to), some (.ref fl), none, none, none, none, none] H' 12 6000 (tCB (fun xs H Q => ∃ p ys, xs = [V.ref p] ∧ ((SqL K H p ys ∧ ∀ l, H l = none → Q (.ref l) (upd H l (.tup ys))) ∨ (SqT K H p ys ∧ Q (.ref p) H))) (tCons (tLc (iTup K (tVar 2)) (gName 10) tYes te [10]) tNil)) := by
  intro H1 Q g1 q
  have ra := ha.same g1
  refine ⟨_, rfl, a, rfl, ⟨_, .of ra.1⟩, fun D hD => ?_⟩
  refine lc_it (walk_tup (xs := xs)) (fun i H2 => Same H1 H2 ∧ ∃ acc, H2 D = some (.lst acc) ∧ acc.length = i ∧ ∀ z ∈ acc, PrtV H2 z) ⟨same_new hD _, [], upd_same, rfl, fun z hz => by cases hz⟩ (fun i H2 _ z => .of (z.1 _ _ ra.1)) ?_ ?_
  · rintro i y H2 H3 hi ⟨g2, acc, h2, hl, hp⟩ ⟨rfl, hy⟩
    refine ⟨rfl, ?_⟩
    unfold tYes
    refine iteT ?_
    refine he i y _ _ hy (g1.trans g2) fun z H4 g4 hz => ?_
    have h4 := g4 _ _ h2
    have kp := (DKp.of g4).trans (.put (ys := acc ++ [z]) h4)
    refine ⟨acc, h4, szt (by have := ra.2.1; omega), fun o u ho => ?_, acc ++ [z], upd_same, by rw [List.length_append, hl]; rfl, fun w hw => ?_⟩
    · rw [upd_ne (ne_of_none ho hD)]; exact g4 _ _ (g2 _ _ ho)
    · rcases List.mem_append.mp hw with hw | hw
      · exact (hp w hw).kd kp
      · rw [List.mem_singleton.mp hw]; exact hz.kd (.put (ys := acc ++ [z]) h4)
  rintro H2 ⟨g2, acc, h2, hl, hp⟩
  refine ⟨D, acc, rfl, .inl ⟨.of h2, fun l nl => ?_⟩⟩
  have g3 := same_new nl (.tup acc)
  obtain ⟨ds, s1, s2⟩ := prts_sa (b := true) (N := N) (k := 5) fun z hz => (hp z hz).kd (.of g3)
  have := ha.2.1
  exact q _ _ (g2.trans g3) ⟨true, _, (SA.tup upd_same s1 (by rw [← s1.len]; omega)).mono (by omega) (by omega)⟩
/-- tuple([one for one in view if one != to]) -/
theorem strip_in {c : Addr} {l : List Int} {to : Nat} {σ0 σ1 : L2.St} {Q : VK} (hs : σ0 = [some (.ref p), some (.int n), some (.ref a), some (.ref b), σ1.headD none, some (.int to), some (.ref fl), none, none, none, some (.ref c), none]) (hc : H' c = some (.tup (l.map V.int))) (hl : SmL l) (q : ∀ z H2, Same H' H2 → PrtV H2 z → Q z H2) :
    (tCB (fun xs H Q => ∃ p ys, xs = [V.ref p] ∧ ((SqL K H p ys ∧ ∀ l, H l = none → Q (.ref l) (upd H l (.tup ys))) ∨ (SqT K H p ys ∧ Q (.ref p) H))) (tCons (tLc (iTup K (tVar 10)) (gName 11) (tTest (tOp rNe (tVar 11) (tVar 5))) (tVar 11) [11]) tNil)) σ0 H' Q := by
  subst hs
  refine ⟨_, rfl, c, rfl, ⟨_, .of hc⟩, fun D hD => ?_⟩
  refine lc_it (walk_tup (xs := l.map V.int)) (fun i H2 => Same H' H2 ∧ ∃ m, H2 D = some (.lst (m.map V.int)) ∧ m.length ≤ i ∧ ∀ z ∈ m, z ∈ l) ⟨same_new hD _, [], upd_same, Nat.le_refl _, fun z hz => by cases hz⟩ (fun i H2 _ z => .of (z.1 _ _ hc)) ?_ ?_
  · rintro i y H2 H3 hi ⟨g2, m, h2, hml, hm⟩ ⟨rfl, hy⟩
    rw [List.getElem?_map] at hy
    obtain ⟨x, hx, rfl⟩ := Option.map_eq_some_iff.mp hy
    have hll := hl.1
    rw [List.length_map] at hi
    refine ⟨rfl, _, rfl, _, rfl, rfl, _, rfl, ite2 (fun _ => ?_) (fun _ => ?_)⟩
    · refine ⟨_, rfl, _, h2, szt (by rw [List.length_map]; omega), fun o u ho => ?_, m ++ [x], ?_, by rw [List.length_append, List.length_singleton]; omega, fun z hz => ?_⟩
      · rw [upd_ne (ne_of_none ho hD)]; exact g2 _ _ ho
      · rw [upd_same, List.map_append]; rfl
      · rcases List.mem_append.mp hz with hz | hz
        · exact hm z hz
        · rw [List.mem_singleton.mp hz]; exact List.mem_of_getElem? hx
    · exact ⟨g2, m, h2, by omega, hm⟩
  rintro H2 ⟨g2, m, h2, hml, hm⟩
  refine ⟨D, _, rfl, .inl ⟨.of h2, fun l' nl => ?_⟩⟩
  rw [List.length_map] at hml
  exact q _ _ (g2.trans (same_new nl _)) (.inr ⟨l', m, rfl, upd_same, by have := hl.1; omega, fun x hx => hl.2 x (hm x hx)⟩)
end
section
variable {P : Program} {w : World} {K : PySem.W.Frag} {mg : Str → Option Value} {base : Heap} {f : Addr} {fd : FuncData} {C : Addr}
abbrev s_law_near : Stmt := top 42
theorem sc_law_near : FnScope ["pot", "many", "row", "other", "at", "to", "found", "more", "lap", "hand", "view", "one"] ["pot", "many", "row"] (defScope s_law_near) := ⟨rfl, rfl, rfl, by decide +kernel, rfl, by decide +kernel, by decide +kernel⟩
/-- the scope of the outer of two comprehensions -/
def osc_law_near : Scope := { kind := .function, names := [(".0", .local), ("view", .local), ("tuple", .globalImplicit), ("to", .cell)], isGenerator := false, isCoroutine := false }
theorem ok_law_near (F : Fun K "_law_near" "_law_near" s_law_near f fd) (T : RTx mg) (G_law_take : Fd P w K mg base CX0 "_law_take" 1 ["pot", "upto"] spTake) (G_law_drawn_row : Fd P w K mg base CX0 "_law_drawn_row" 3 ["pot", "many", "is_whole_v"] spDRow) (G_law_odd : Fd P w K mg base CX0 "_law_odd" 3 ["pot"] spOddS) (G_law_bent : Fd P w K mg base CX0 "_law_bent" 7 ["pot", "value"] (spBentS 4)) : FnOk P w K mg base CX0 8 f fd ["pot", "many", "row"] spNear := by
  refine F.ok sc_law_near (fun vs H Q E h => ?_) (fun cdv A outer s H vs Q E hr h => ?_)
  · obtain ⟨p, n, k, v, d, rfl, _⟩ := h
    rfl
  obtain ⟨p, n, k, v, d, rfl, h1, h5, hk, hP, hd, hat, q⟩ := h
  refine ⟨_, (pss_cons (ps_asg (pe_tup (pa_cons (pe_fd G_law_drawn_row (hr.mono (by first | decide | omega)) rfl (pa_cons (pv 0) (pa_cons (pv 1) (pa_cons pe_bl pa_nil)))) (pa_cons (pe_fd G_law_take (hr.mono (by first | decide | omega)) rfl (pa_cons (pv 0) (pa_cons (pv 1) pa_nil))) (pa_cons (pe_fd G_law_take (hr.mono (by first | decide | omega)) rfl (pa_cons (pv 0) (pa_cons (pv 1) pa_nil))) pa_nil)))) (pg_tup rfl (pgs_cons (pg_name (i := 3) sc_law_near.nd rfl (Or.inl rfl)) (pgs_cons (pg_name (i := 4) sc_law_near.nd rfl (Or.inr rfl)) (pgs_cons (pg_name (i := 5) sc_law_near.nd rfl (Or.inr rfl)) pgs_nil)))))
  (pss_cons (ps_set (i := 6) sc_law_near.nd rfl (Or.inl rfl) (pe_lst (pa_cons (pv 2) (pa_cons (pv 3) (pa_cons (pe_revT (pv 2)) (pa_cons (pe_slice sl_tupA (pv 2) po_none (po_some (pe_un un_neg pe_int))) (pa_cons (pe_op op_catA (pv 2) (pe_slice sl_tupA (pv 2) po_none (po_some pe_int))) (pa_cons (pe_callTy call_list_of rfl T.list (by decide +kernel) (pa_cons (pv 2) pa_nil)) (pa_cons (pe_op op_repU (pe_tup (pa_cons pe_non pa_nil)) (pv 1)) (pa_cons (pe_fd G_law_odd (hr.mono (by first | decide | omega)) rfl (pa_cons (pv 0) pa_nil)) pa_nil))))))))))
  (pss_cons (ps_expr (pe_bm PySem.F.plainAttrs_list PySem.F.slot_list_append PySem.F.type_list_append mt_append (pv 6) (pa_cons (pe_op op_catA (pe_slice sl_tupA (pv 2) po_none (po_some (pv 4))) (pe_slice sl_tupA (pv 3) (po_some (pv 4)) po_none)) pa_nil)))
  (pss_cons (ps_expr (pe_bm PySem.F.plainAttrs_list PySem.F.slot_list_append PySem.F.type_list_append mt_append (pv 6) (pa_cons (pe_callTy call_tuple_of rfl T.tuple (by decide +kernel) (pa_cons (pe_lc (own := [("hand", 9), ("view", 10)]) (g := (gTup K 2 (gCons (gName 9) (gCons (gName 10) gNil)))) (tt := tYes) rfl sc_law_near.nd (pi_enumT rfl T.enumerate (pa_cons (pv 2) pa_nil)) (blkOk_by (own := [("hand", 9), ("view", 10)]) (N := ["pot", "many", "row", "other", "at", "to", "found", "more", "lap", "hand", "view", "one"]) (sc := defScope s_law_near) (by decide +kernel)) (fun _ _ _ _ _ => (pg_tup rfl (pgs_cons (pg_name (i := 9) sc_law_near.nd rfl (Or.inl rfl)) (pgs_cons (pg_name (i := 10) sc_law_near.nd rfl (Or.inl rfl)) pgs_nil)))) (fun _ _ _ _ _ => pts_nil) (fun _ _ _ _ _ => (pe_ifExp (pt_cmpR op_eq (pv 9) (pv 4) (nomark _)) (pe_ix ix_tupK (pv 2) (pv 5) (fun _ _ => rfl)) (pv 10)))) pa_nil)) pa_nil)))
  (pss_cons (ps_expr (pe_bm PySem.F.plainAttrs_list PySem.F.slot_list_append PySem.F.type_list_append mt_append (pv 6) (pa_cons (pe_callTy call_tuple_of rfl T.tuple (by decide +kernel) (pa_cons (pe_lc (own := [("hand", 9), ("view", 10)]) (g := (gTup K 2 (gCons (gName 9) (gCons (gName 10) gNil)))) (tt := tYes) rfl sc_law_near.nd (pi_enumT rfl T.enumerate (pa_cons (pv 2) pa_nil)) (blkOk_by (own := [("hand", 9), ("view", 10)]) (N := ["pot", "many", "row", "other", "at", "to", "found", "more", "lap", "hand", "view", "one"]) (sc := defScope s_law_near) (by decide +kernel)) (fun _ _ _ _ _ => (pg_tup rfl (pgs_cons (pg_name (i := 9) sc_law_near.nd rfl (Or.inl rfl)) (pgs_cons (pg_name (i := 10) sc_law_near.nd rfl (Or.inl rfl)) pgs_nil)))) (fun _ _ _ _ _ => pts_nil) (fun _ _ _ _ _ => (pe_ifExp (pt_cmpR op_eq (pv 9) (pv 4) (nomark _)) pe_non (pv 10)))) pa_nil)) pa_nil)))
  (pss_cons (ps_expr (pe_bm PySem.F.plainAttrs_list PySem.F.slot_list_append PySem.F.type_list_append mt_append (pv 6) (pa_cons (pe_callTy call_tuple_of rfl T.tuple (by decide +kernel) (pa_cons (pe_lc (own := [("view", 10)]) (g := (gName 10)) (tt := tYes) rfl sc_law_near.nd (pi_tup (pv 2)) (blkOk_by (own := [("view", 10)]) (N := ["pot", "many", "row", "other", "at", "to", "found", "more", "lap", "hand", "view", "one"]) (sc := defScope s_law_near) (by decide +kernel)) (fun _ _ _ _ _ => (pg_name (i := 10) sc_law_near.nd rfl (Or.inl rfl))) (fun _ _ _ _ _ => pts_nil) (fun _ _ _ _ _ => (pe_ifExp (pt_cmpR op_notN (pv 10) pe_non (nomark _)) (pe_callTy call_tupK rfl T.tuple (by decide +kernel) (pa_cons (pe_lc (own := [("one", 11)]) (g := (gName 11))  rfl sc_law_near.nd (pi_tupK (pv 10)) (blkOk_by (own := [("one", 11)]) (N := ["pot", "many", "row", "other", "at", "to", "found", "more", "lap", "hand", "view", "one"]) (sc := osc_law_near) (by decide +kernel)) (fun _ _ _ _ _ => (pg_name (i := 11) sc_law_near.nd rfl (Or.inl rfl))) (fun _ _ _ _ _ => (pts_one (pt_cmpR op_ne (pv 11) (pv 5) (nomark _)))) (fun _ _ _ _ _ => (pv 11))) pa_nil)) pe_non))) pa_nil)) pa_nil)))
  (pss_cons (ps_set (i := 7) sc_law_near.nd rfl (Or.inl rfl) (pe_callTy call_tuple_of rfl T.tuple (by decide +kernel) (pa_cons (pe_callB (cr_sortedSet rfl) rfl T.sorted (by decide +kernel) (pa_cons (pe_callTy (cr_setIT rfl) rfl T.set (by decide +kernel) (pa_cons (pe_op op_catA (pe_ifExp (pt_cmpR op_notN (pe_ix ix_tup (pv 2) (pv 4) (fun _ _ => rfl)) pe_non (nomark _)) (pe_ix ix_tup (pv 2) (pv 4) (fun _ _ => rfl)) (pe_tup pa_nil)) (pe_tup (pa_cons (pv 5) pa_nil))) pa_nil)) pa_nil)) pa_nil)))
  (pss_cons (ps_expr (pe_bm PySem.F.plainAttrs_list PySem.F.slot_list_append PySem.F.type_list_append mt_append (pv 6) (pa_cons (pe_op op_catA (pe_op op_catA (pe_slice sl_tupA (pv 2) po_none (po_some (pv 4))) (pe_tup (pa_cons (pv 7) pa_nil))) (pe_slice sl_tupA (pv 2) (po_some (pe_op op_add (pv 4) pe_int)) po_none)) pa_nil)))
  (pss_one (ps_ret (pe_op op_cat (pv 6) (pe_lc (own := [("lap", 8)]) (g := (gName 8)) (tt := tYes) rfl sc_law_near.nd (pi_range1 rfl T.range (pa_cons pe_int pa_nil)) (blkOk_by (own := [("lap", 8)]) (N := ["pot", "many", "row", "other", "at", "to", "found", "more", "lap", "hand", "view", "one"]) (sc := defScope s_law_near) (by decide +kernel)) (fun _ _ _ _ _ => (pg_name (i := 8) sc_law_near.nd rfl (Or.inl rfl))) (fun _ _ _ _ _ => pts_nil) (fun _ _ _ _ _ => (pe_fd G_law_bent (hr.mono (by first | decide | omega)) rfl (pa_cons (pv 0) (pa_cons (pv 2) pa_nil)))))))))))))))), ?_⟩
  obtain ⟨a, xs, rfl, ra0⟩ := row_v h5 hd hat
  -- other, at, to
  refine seq_in ?_
  refine asg_in ?_
  refine ⟨_, rfl, _, rfl, p, n, k, false, rfl, h1, h5, by omega, hP, fun vb H1 d2 g1 hP1 dvb hat2 _ => ?_⟩
  obtain ⟨b, ys, rfl, rb1⟩ := row_v h5 dvb hat2
  have ra1 := ra0.kd (.pot g1 hP hP1)
  refine ⟨_, rfl, _, rfl, p, n, k + 20, rfl, by omega, by omega, by omega, hP1, fun at_ H2 hat_ g2 hP2 => ?_⟩
  refine ⟨_, rfl, _, rfl, p, n, k + 20 + 1, rfl, by omega, by omega, by omega, hP2, fun to H3 hto g3 hP3 => ?_⟩
  have g13 := (g1.trans g2).trans g3
  have k3 := (DKp.pot g2 hP1 hP2).trans (.pot g3 hP2 hP3)
  have ra3 := ra1.kd k3
  have rb3 := rb1.kd k3
  refine ⟨szl (by show 3 ≤ _; decide), fun t3 nt3 => ⟨t3, _, rfl, .of upd_same, rfl, _, _, rfl, _, _, rfl, _, _, rfl, rfl, ?_⟩⟩
  have s3 := same_new nt3 (.tup [.ref b, .int (at_ : Nat), .int (to : Nat)])
  have ra4 := ra3.same s3
  have rb4 := rb3.same s3
  have hP4 := pot_sm s3 hP3
  have g4 : But [p] H _ := g13.trans (.of s3)
  generalize upd H3 t3 (.tup [.ref b, .int (at_ : Nat), .int (to : Nat)]) = H4 at ra4 rb4 hP4 g4
  refine nx_in ?_
  refine seq_in ?_
  -- found
  have hF4 : Fr (fun x => x = p) H4 := fun x hx z => by
    obtain ⟨_, e⟩ := hP4.there
    rw [z, e] at hx; cases hx
  obtain ⟨pa, sa4, pal, pap⟩ := ra4.sas h5 true (fun x => x = p) 2
  obtain ⟨pda, sva, _⟩ := ra4.sa h5 true (fun x => x = p) 2
  obtain ⟨pdb, svb, _⟩ := rb4.sa h5 true (fun x => x = p) 2
  have T2 : OsT true (fun x => x = p) [some (.ref p), some (.int n), some (.ref a), some (.ref b), some (.int at_), some (.int to), none, none, none, none, none, none] H4 3 30 (tVar 2) := ost_var rfl ra4.1 sa4
  refine asg_in ?_
  refine lst_in ?_
  refine cons_in ?_
  refine ⟨_, rfl, ?_⟩
  refine cons_in ?_
  refine ⟨_, rfl, ?_⟩
  refine cons_in ?_
  refine (OsT.s (ost_rev T2) (k' := 12) (n' := 6000) (by decide) (by decide) (by decide)) H4 _ (Same.refl _) fun x3 H5 g5 o3 => ?_
  refine cons_in ?_
  refine (OsT.s (ost_sl T2 zp_none (zp_neg 1)) (k' := 12) (n' := 6000) (by decide) (by decide) (by decide)) H5 _ g5 fun x4 H6 g6 o4 => ?_
  have g46 := g5.trans g6
  refine cons_in ?_
  refine (OsT.s (ost_cat T2 (ost_sl T2 zp_none (zp_int 1)) (by decide)) (k' := 12) (n' := 6000) (by decide) (by decide) (by decide)) H6 _ g46 fun x5 H7 g7 o5 => ?_
  have g47 := g46.trans g7
  refine cons_in ?_
  refine (ose_list hF4 T2 (k' := 12) (n' := 6000) (by decide) (by decide)) H7 _ g47 fun x6 H8 g8 o6 => ?_
  have g48 := g47.trans g8
  refine cons_in ?_
  refine nones_in rfl h1 h5 fun e7 H9 g9 h9 => ?_
  have g49 := g48.trans g9
  refine cons_in ?_
  have hP9 := pot_sm g49 hP4
  refine ⟨_, rfl, p, _, (fun x => x = p), rfl, ?_, hP9, rfl, hF4.same g49, fun x8 H10 g10 hP10 o8 => ?_⟩
  · omega
  have k10 := DKp.pot g10 hP9 hP10
  refine ⟨szl (by show 8 ≤ _; decide), fun fl nfl => ?_⟩
  have okS : ∀ {x : V} {G : Hp}, OkM (fun x => x = p) G 12 6000 x → Same G H9 → OkM (fun x => x = p) H10 12 6000 x := fun o g => (o.same g).but g10 rfl k10
  have okN : ∀ {x : V}, OkM (fun x => x = p) H10 12 6000 x → OkM (Nf p fl) (upd H10 fl (.lst [.ref a, .ref b, x3, x4, x5, x6, .ref e7, x8])) 12 6000 x := fun ⟨c, d, s⟩ => ⟨c, d, s.step (fun x o nx q => by
    have ne : x ≠ fl := fun z => by rw [z, nfl] at q; cases q
    exact ⟨by rw [upd_ne ne]; exact q, fun z => z.elim nx ne⟩) fun {x zs} q => by
    have ne : x ≠ fl := fun z => by rw [z, nfl] at q; cases q
    rw [upd_ne ne]; exact q⟩
  have nfl' := but_none ((g4.trans (.of g49)).trans g10) hP10 nfl
  have s11 := same_new nfl (.lst [.ref a, .ref b, x3, x4, x5, x6, .ref e7, x8])
  have S : NrS H p n a b xs ys (k + 20 + 1 + 1 + 1) fl [.ref a, .ref b, x3, x4, x5, x6, .ref e7, x8] (upd H10 fl (.lst [.ref a, .ref b, x3, x4, x5, x6, .ref e7, x8])) := by
    refine ⟨((g4.trans (.of g49)).trans g10).trans (.of s11), pot_sm s11 hP10, upd_same, nfl'.1, nfl'.2, fun x hx => ?_, ((ra4.same g49).kd k10).same s11, ((rb4.same g49).kd k10).same s11⟩
    simp only [List.mem_cons, List.not_mem_nil, or_false] at hx
    rcases hx with rfl | rfl | rfl | rfl | rfl | rfl | rfl | rfl
    · exact okN (okS ⟨true, _, sva.mono (by decide) (by decide)⟩ g49)
    · exact okN (okS ⟨true, _, svb.mono (by decide) (by decide)⟩ g49)
    · exact okN (okS o3 (((g6.trans g7).trans g8).trans g9))
    · exact okN (okS o4 ((g7.trans g8).trans g9))
    · exact okN (okS o5 (g8.trans g9))
    · exact okN (okS o6 g9)
    · exact okN (okS ⟨true, _, (SA.tup h9 (nones_sa n H9) (by rw [List.length_replicate]; omega)).mono (by decide) (by omega)⟩ (Same.refl _))
    · obtain ⟨c, d, s⟩ := o8
      exact okN ⟨c, d, s.mono (by decide) (by decide)⟩
  generalize upd H10 fl (.lst [.ref a, .ref b, x3, x4, x5, x6, .ref e7, x8]) = H11 at S
  clear o3 o4 o5 o6 o8 okN okS
  refine g_set ?_
  refine nx_in ?_
  refine seq_in ?_
  obtain ⟨qa, A1, qal, qap⟩ := S.ra.sas h5 true (Nf p fl) 2
  obtain ⟨qb, B1, qbl, qbp⟩ := S.rb.sas h5 true (Nf p fl) 2
  refine app_in S rfl (by show 8 ≤ 100; decide) ((ost_cat (ost_sl (ost_var rfl S.ra.1 A1) zp_none (zp_var rfl)) (ost_sl (ost_var rfl S.rb.1 B1) (zp_var rfl) zp_none) (by decide)).s (by decide) (by decide) (by decide)) fun y1 H12 S => ?_
  refine nx_in ?_
  refine seq_in ?_
  refine app_in S rfl (by show 9 ≤ 100; decide) (ose_enum S.fr S.ra h5 fun i y G Q' hy g qq => ?_) fun y2 H13 S => ?_
  · have hto' : xs[to]? = some (xs[to]'(by have := S.ra.2.1; omega)) := List.getElem?_eq_getElem _
    refine ⟨_, rfl, _, rfl, rfl, _, rfl, ite2 (fun _ => ?_) (fun _ => ?_)⟩
    · exact ⟨_, rfl, _, rfl, a, xs, _, _, rfl, rfl, .of (g _ _ S.ra.1), atI_nat hto', qq _ _ (Same.refl _) ((S.ra.2.2 _ (List.mem_of_getElem? hto')).kd (.of g))⟩
    · exact ⟨_, rfl, qq _ _ (Same.refl _) ((S.ra.2.2 _ (List.mem_of_getElem? hy)).kd (.of g))⟩
  refine nx_in ?_
  refine seq_in ?_
  refine app_in S rfl (by show 10 ≤ 100; decide) (ose_enum S.fr S.ra h5 fun i y G Q' hy g qq => ?_) fun y3 H14 S => ?_
  · refine ⟨_, rfl, _, rfl, rfl, _, rfl, ite2 (fun _ => ?_) (fun _ => ?_)⟩
    · exact qq _ _ (Same.refl _) (.inl rfl)
    · exact ⟨_, rfl, qq _ _ (Same.refl _) ((S.ra.2.2 _ (List.mem_of_getElem? hy)).kd (.of g))⟩
  refine nx_in ?_
  refine seq_in ?_
  refine app_in S rfl (by show 11 ≤ 100; decide) (ose_each S.fr S.ra h5 fun i y G Q' hy g qq => ?_) fun y4 H15 S => ?_
  · have pv' := (S.ra.2.2 _ (List.mem_of_getElem? hy)).kd (.of g)
    refine ⟨_, rfl, rfl, _, rfl, ?_⟩
    rcases pv' with rfl | ⟨c, l, rfl, hc, hl⟩
    · exact iteF (qq _ _ (Same.refl _) (.inl rfl))
    · refine iteT ?_
      exact strip_in (σ1 := [some (.int (at_ : Nat))]) rfl hc hl qq
  refine nx_in ?_
  refine seq_in ?_
  -- more
  refine asg_in ?_
  refine more_in rfl rfl rfl S.ra (by omega) (by omega) fun mo l H16 g16 hmo hml hmr => ?_
  have S := S.same g16
  refine g_set ?_
  refine nx_in ?_
  refine seq_in ?_
  obtain ⟨qa, A1, qal, qap⟩ := S.ra.sas h5 true (Nf p fl) 2
  have smo : SA true (Nf p fl) H16 3 6 (.ref mo) (.tuple (l.map PyData.int)) := .tup hmo ((sas_ints fun x hx => by have := hmr x hx; omega).mono (Nat.le_refl _) hml) (by rw [List.length_map]; omega)
  refine app_in S rfl (by show 12 ≤ 100; decide) ((ost_cat (ost_cat (ost_sl (ost_var rfl S.ra.1 A1) zp_none (zp_var rfl)) (ost_tup1v rfl smo) (by decide)) (ost_sl (ost_var rfl S.ra.1 A1) (zp_add rfl) zp_none) (by decide)).s (by decide) (by decide) (by decide)) fun y6 H17 S => ?_
  refine nx_in ?_
  refine ret_in ?_
  obtain ⟨pd, sva, hpp⟩ := S.ra.sa h5 true (Nf p fl) 2
  have hF := S.fr
  refine opx_in ?_
  refine ⟨_, rfl, (6 : Int), rfl, by decide, by decide, fun DD hDD => ?_⟩
  have nDD := but_none S.but S.pot hDD
  have nfD : DD ≠ fl := fun z => by rw [z, S.hfl] at hDD; cases hDD
  have n_p : ∀ a ∈ [p], Nf p fl a := fun a m => .inl (List.mem_singleton.mp m)
  refine lc_it (walk_range (lo := 0) (n := 6)) (fun i H' => But [p] H17 H' ∧ PotAt H' p (k + 30 + 16 * i) ∧ ∃ zs, H' DD = some (.lst zs) ∧ zs.length = i ∧ ∀ x ∈ zs, OkM (fun x => Nf p fl x ∨ x = DD) H' 12 6000 x) ⟨.of (same_new hDD _), (pot_sm (same_new hDD _) S.pot).mono (by omega), [], upd_same, rfl, fun x hx => by cases hx⟩ (fun _ _ _ _ => True.intro) ?_ ?_
  · rintro i x H18 H19 hi ⟨g18, hP18, zs, hD18, hz18, hzs18⟩ ⟨rfl, rfl⟩
    refine ⟨rfl, ?_⟩
    unfold tYes
    refine iteT ?_
    have k18 := DKp.pot g18 S.pot hP18
    have hF18 : Fr (fun x => Nf p fl x ∨ x = DD) H19 := fun x hx z => by
      rcases z with z | z
      · exact hF x ((but_none g18 hP18 hx).1) z
      · rw [z, hD18] at hx; cases hx
    have sD : SA true (fun x => Nf p fl x ∨ x = DD) H17 4 30 (.ref a) pd := sva.step (fun x o nx q => ⟨q, fun z => z.elim nx fun e => by rw [e, hDD] at q; cases q⟩) fun q => q
    refine ⟨_, rfl, _, rfl, p, _, 2, 30, (fun x => Nf p fl x ∨ x = DD), _, pd, rfl, by decide, by decide, by decide, ?_, hP18, .inl (.inl rfl), hF18, sD.but g18 (fun a m => .inl (n_p a m)) k18, hpp, fun v' H20 g20 hP20 dv' => ?_⟩
    · omega
    have hD20 := g20 _ _ (by simpa using nDD.2) hD18
    have k20 := DKp.pot g20 hP18 hP20
    refine ⟨zs, hD20, szt (by omega), but_put (g18.trans g20) hDD, (pot_put hP20 nDD.2).mono (by omega), zs ++ [v'], upd_same, by rw [List.length_append, hz18]; rfl, fun x hx => ?_⟩
    rcases List.mem_append.mp hx with hx | hx
    · exact okm_put (o := .lst []) (.inr rfl) hD20 ((hzs18 x hx).but g20 (.inl (.inl rfl)) k20)
    · rw [List.mem_singleton.mp hx]
      exact okm_put (o := .lst []) (.inr rfl) hD20 (dv'.mono (by decide) (by decide))
  rintro H21 ⟨g21, hP21, zs, hD21, hz21, hzs21⟩
  refine ⟨fl, DD, _, zs, rfl, rfl, g21 _ _ (by simpa using S.pfl) S.hfl, hD21, szl (by show 13 + _ ≤ _; omega), fun lf nlf => ?_⟩
  have s22 := same_new nlf (.lst (([.ref a, .ref b, x3, x4, x5, x6, .ref e7, x8] ++ [y1] ++ [y2] ++ [y3] ++ [y4] ++ [y6]) ++ zs))
  have k21 := DKp.pot g21 S.pot hP21
  have back : ∀ {M : Addr → Prop} {x : V}, M p → OkM M H21 12 6000 x → OkM (fun a => a = p) (upd H21 lf (.lst (([.ref a, .ref b, x3, x4, x5, x6, .ref e7, x8] ++ [y1] ++ [y2] ++ [y3] ++ [y4] ++ [y6]) ++ zs))) 12 6000 x := fun {M x} hM ⟨c, d, s⟩ => ⟨c, d, s.step (fun x o nx q => ⟨s22 _ _ q, fun z => nx (by rw [z]; exact hM)⟩) fun q => s22 _ _ q⟩
  refine q lf _ _ ((S.but.trans g21).trans (.of s22)) (fun z => by obtain ⟨_, e⟩ := hP.there; rw [z] at e; cases e) (but_none (S.but.trans g21) hP21 nlf).1 upd_same (by rw [List.length_append]; show 13 + _ ≤ 40; omega) (fun x hx => ?_) ⟨_, pot_sm s22 hP21⟩
  rcases List.mem_append.mp hx with hx | hx
  · exact back (.inl rfl) ((S.fok x hx).but g21 (.inl rfl) k21)
  · exact back (.inl (.inl rfl)) (hzs21 x hx)
end
end Fp
namespace Fp
open PySem PySem.Spec PyProof.Rows L2
section
variable {P : Program} {w : World} {K : PySem.W.Frag} {mg : Str → Option Value} {base : Heap} {f : Addr} {fd : FuncData} {C : Addr}
abbrev s_HandError_init : Stmt := inClass (top 1) 0
theorem sc_HandError_init : FnScope ["self", "value"] ["self", "value"] (defScope s_HandError_init) := ⟨rfl, rfl, rfl, by decide +kernel, rfl, by decide +kernel, by decide +kernel⟩
theorem ok_HandError_init (F : Fun K "__init__" "HandError.__init__" s_HandError_init f fd) : FnOk P w K mg base CX0 1 f fd ["self", "value"] (spHInit K) := by
  refine F.ok sc_HandError_init (fun vs H Q E h => ?_) (fun cdv A outer s H vs Q E hr h => ?_)
  · obtain ⟨a, C, v, rfl, _⟩ := h
    rfl
  obtain ⟨a, C, v, rfl, hO, hn, ha, k⟩ := h
  refine ⟨_, (pss_one (ps_ost (pv 0) (pv 1))), ?_⟩
  exact ⟨_, rfl, _, rfl, a, C, rfl, hO, hn, .inl ⟨ha, fun dx hx ne => k dx hx ne⟩⟩
end
end Fp
/-! what is no row, refused -/
namespace Fp
open PySem PySem.Spec PyProof.Rows L2
/-- weaving_to, number_of: the row is none -/
def spWeaveX (CE : Addr) : Sp := fun vs H Q E => ∃ (n : Nat) (v : V) (d : Dt), vs = [.int n, v] ∧ 1 ≤ n ∧ n ≤ 5 ∧ DV H v d ∧ atB n d = false ∧ ∀ H' e, Same H H' → H' e = none → E (.ref CE) (some e) (upd H' e (.xd [("value", v)]))
def spNumX (CE : Addr) : Sp := fun vs H Q E => ∃ (n : Nat) (v : V) (d : Dt), vs = [.int n, v] ∧ 1 ≤ n ∧ n ≤ 5 ∧ DV H v d ∧ wholeB n d = false ∧ ∀ H' e, Same H H' → H' e = none → E (.ref CE) (some e) (upd H' e (.xd [("value", v)]))
/-- chain: one of its two rows is none -/
def spEndsX (CE : Addr) : Sp := fun vs H Q E => ∃ (n : Nat) (v1 v2 v : V) (d1 d2 : Dt), vs = [.int n, v1, v2] ∧ 1 ≤ n ∧ n ≤ 5 ∧ DV H v1 d1 ∧ DV H v2 d2 ∧ ((wholeB n d1 = false ∧ v = v1) ∨ (wholeB n d1 = true ∧ wholeB n d2 = false ∧ v = v2)) ∧ ∀ H' e, Same H H' → H' e = none → E (.ref CE) (some e) (upd H' e (.xd [("value", v)]))
section
variable {P : Program} {w : World} {K : PySem.W.Frag} {mg : Str → Option Value} {base : Heap} {f : Addr} {fd : FuncData} {CE : Addr}
abbrev s_weaving_to : Stmt := top 20
theorem sc_weaving_to : FnScope ["many", "row", "weaving", "came", "view", "views"] ["many", "row"] (defScope s_weaving_to) := ⟨rfl, rfl, rfl, by decide +kernel, rfl, by decide +kernel, by decide +kernel⟩
theorem ok_weaving_toX (F : Fun K "weaving_to" "weaving_to" s_weaving_to f fd) (hE : ErrC P w K mg base "BadRow" CE) (G_is_at_once : Fd P w K mg base CX0 "is_at_once" 4 ["many", "value"] spAtD) : FnOk P w K mg base (L2.CX P w) 5 f fd ["many", "row"] (spWeaveX CE) := by
  refine F.okX sc_weaving_to (fun vs H Q E h => ?_) (fun cdv A outer s0 H vs Q E hr h => ?_)
  · obtain ⟨n, v, d, rfl, _⟩ := h
    rfl
  obtain ⟨n, v, d, rfl, h1, h5, hd, hw, k⟩ := h
  refine ⟨_, (pss_cons (ps_if (pt_not (pt_val (pe_fd G_is_at_once (hr.mono (by first | decide | omega)) rfl (pa_cons (pv 0) (pa_cons (pv 1) pa_nil))))) (pss_one (ps_raiseE rfl (takes_of rfl rfl rfl rfl) hE (hr.mono (by decide)) rfl (pv 1))) pss_nil)
  (pss_cons (ps_no)
  (pss_cons (ps_no)
  (pss_cons (ps_no)
  (pss_cons (ps_no)
  (pss_one (ps_no))))))), ?_⟩
  refine ⟨_, rfl, _, rfl, n, v, d, rfl, h1, h5, hd, fun H1 g1 => ⟨_, rfl, ?_⟩⟩
  rw [hw]
  exact iteT ⟨_, rfl, fun e he => k _ e g1 he⟩
abbrev s_number_of : Stmt := top 25
theorem sc_number_of : FnScope ["many", "row"] ["many", "row"] (defScope s_number_of) := ⟨rfl, rfl, rfl, by decide +kernel, rfl, by decide +kernel, by decide +kernel⟩
theorem ok_number_ofX (F : Fun K "number_of" "number_of" s_number_of f fd) (hE : ErrC P w K mg base "BadRow" CE) (G_is_whole_row : Fd P w K mg base CX0 "is_whole_row" 5 ["many", "value"] spRowD) : FnOk P w K mg base (L2.CX P w) 6 f fd ["many", "row"] (spNumX CE) := by
  refine F.okX sc_number_of (fun vs H Q E h => ?_) (fun cdv A outer s0 H vs Q E hr h => ?_)
  · obtain ⟨n, v, d, rfl, _⟩ := h
    rfl
  obtain ⟨n, v, d, rfl, h1, h5, hd, hw, k⟩ := h
  refine ⟨_, (pss_cons (ps_if (pt_not (pt_val (pe_fd G_is_whole_row (hr.mono (by first | decide | omega)) rfl (pa_cons (pv 0) (pa_cons (pv 1) pa_nil))))) (pss_one (ps_raiseE rfl (takes_of rfl rfl rfl rfl) hE (hr.mono (by decide)) rfl (pv 1))) pss_nil)
  (pss_one (ps_no))), ?_⟩
  refine ⟨_, rfl, _, rfl, n, v, d, rfl, h1, h5, hd, fun H1 g1 => ⟨_, rfl, ?_⟩⟩
  rw [hw]
  exact iteT ⟨_, rfl, fun e he => k _ e g1 he⟩
theorem ok_check_endsX (F : Fun K "check_ends" "check_ends" s_check_ends f fd) (hE : ErrC P w K mg base "BadRow" CE) (G_is_whole_row : Fd P w K mg base CX0 "is_whole_row" 5 ["many", "value"] spRowD) : FnOk P w K mg base (L2.CX P w) 6 f fd ["many", "one", "other"] (spEndsX CE) := by
  refine F.okX sc_check_ends (fun vs H Q E h => ?_) (fun cdv A outer s0 H vs Q E hr h => ?_)
  · obtain ⟨n, v1, v2, v, d1, d2, rfl, _⟩ := h
    rfl
  obtain ⟨n, v1, v2, v, d1, d2, rfl, h1, h5, hd1, hd2, hw, k⟩ := h
  refine ⟨_, (pss_cons (ps_if (pt_not (pt_val (pe_fd G_is_whole_row (hr.mono (by first | decide | omega)) rfl (pa_cons (pv 0) (pa_cons (pv 1) pa_nil))))) (pss_one (ps_raiseE rfl (takes_of rfl rfl rfl rfl) hE (hr.mono (by decide)) rfl (pv 1))) pss_nil)
  (pss_one (ps_if (pt_not (pt_val (pe_fd G_is_whole_row (hr.mono (by first | decide | omega)) rfl (pa_cons (pv 0) (pa_cons (pv 2) pa_nil))))) (pss_one (ps_raiseE rfl (takes_of rfl rfl rfl rfl) hE (hr.mono (by decide)) rfl (pv 2))) pss_nil))), ?_⟩
  refine ⟨_, rfl, _, rfl, n, v1, d1, rfl, h1, h5, hd1, fun H1 g1 => ?_⟩
  rcases hw with ⟨hw, rfl⟩ | ⟨hw, hw2, rfl⟩
  · rw [hw]
    exact ⟨_, rfl, iteT ⟨_, rfl, fun e he => k _ e g1 he⟩⟩
  · rw [hw]
    refine ⟨_, rfl, iteF ?_⟩
    refine ⟨_, rfl, _, rfl, n, v, d2, rfl, h1, h5, hd2.same g1, fun H2 g2 => ?_⟩
    rw [hw2]
    exact ⟨_, rfl, iteT ⟨_, rfl, fun e he => k _ e (g1.trans g2) he⟩⟩
theorem ok_chainX (F : Fun K "chain" "chain" s_chain f fd) (G_check_ends : Fd P w K mg base (L2.CX P w) "check_ends" 6 ["many", "one", "other"] (spEndsX CE)) : FnOk P w K mg base (L2.CX P w) 7 f fd ["many", "one", "other"] (spEndsX CE) := by
  refine F.okX sc_chain (fun vs H Q E h => ?_) (fun cdv A outer s0 H vs Q E hr h => ?_)
  · obtain ⟨n, v1, v2, v, d1, d2, rfl, _⟩ := h
    rfl
  refine ⟨_, (pss_cons (ps_expr (pe_fdE (takes_of rfl rfl rfl rfl) G_check_ends hr rfl (pa_cons (pv 0) (pa_cons (pv 1) (pa_cons (pv 2) pa_nil)))))
  (pss_one (ps_no))), ?_⟩
  obtain ⟨n, v1, v2, v, d1, d2, rfl, h1, h5, hd1, hd2, hw, k⟩ := h
  exact ⟨_, rfl, _, rfl, _, rfl, n, v1, v2, v, d1, d2, rfl, h1, h5, hd1, hd2, hw, k⟩
end
end Fp
/-! a def with lambdas, refused: what is wanted at the law's def itself -/
namespace L2
open PySem PySem.Spec PyProof.Rows LamX
/-- all stays but tables and what is pinned -/
def Kp (H H' : Hp) : Prop := ∀ b o, H b = some o → (∀ ps, o ≠ .tbl ps) → (∀ φ, o ≠ .ext φ) → H' b = some o
theorem Kp.of {H H' : Hp} (g : ExtN H H') : Kp H H' := fun b o q n _ => g b o q n
theorem Kp.trans {H H1 H2 : Hp} (a : Kp H H1) (b : Kp H1 H2) : Kp H H2 := fun c o h n m => b c o (a c o h n m) n m
end L2
namespace Fp
open PySem PySem.Spec PyProof.Rows L2 LamX
theorem kp_same {H H' : Hp} (g : Same H H') : Kp H H' := fun b o q _ _ => g b o q
theorem extN_same {H H' : Hp} (g : Same H H') : ExtN H H' := fun b o q _ => g b o q
theorem Kp.tk {H H' : Hp} (g : Kp H H') : TK H H' := fun a h => by
  cases e : H a with
  | none => rw [e] at h; exact h.elim
  | some o =>
    rw [e] at h
    refine g a o e (fun ps z => ?_) (fun φ z => ?_) <;> (subst z; exact h)
mutual
theorem DA.kp {H H' : Hp} (g : Kp H H') : ∀ {v : V} {d : PyData}, DA H v d → DA H' v d
  | _, _, .non => .non
  | _, _, .bl b => .bl b
  | _, _, .int i => .int i
  | _, _, .str z => .str z
  | _, _, .tup h t => .tup (g _ _ h (fun _ z => by cases z) (fun _ z => by cases z)) (DAs.kp g t)
  | _, _, .lst h t => .lst (g _ _ h (fun _ z => by cases z) (fun _ z => by cases z)) (DAs.kp g t)
  | _, _, .dct h => .dct (g _ _ h (fun _ z => by cases z) (fun _ z => by cases z))
theorem DAs.kp {H H' : Hp} (g : Kp H H') : ∀ {vs : List V} {ds : List PyData}, DAs H vs ds → DAs H' vs ds
  | _, _, .nil => .nil
  | _, _, .cons h t => .cons (DA.kp g h) (DAs.kp g t)
end
theorem DoorAt.kp {C : Addr} {H H' : Hp} {d : Addr} {s : DS} (h : DoorAt C H d s) (g : Kp H H') : DoorAt C H' d s := by
  obtain ⟨dx, a, b, c, e, f, cv, hv, sv, dv, h⟩ := h
  exact ⟨dx, a, b, c, e, f, cv, hv, sv, dv, h.mono (Kp.tk g) (fun o q => by rw [h.obj] at q; cases q; exact g _ _ h.obj (fun _ z => by cases z) (fun _ z => by cases z)) (by rw [g _ _ h.own (fun _ z => by cases z) (fun _ z => by cases z)]; exact h.own.symm)⟩
theorem OwnAt.kp {H H' : Hp} {o : Addr} {L : List Addr} {s : DS} {k : Int} (h : OwnAt H o L s k) (g : Kp H H') : OwnAt H' o L s k := by
  obtain ⟨l1, l2, l3, l4, l5, cv, hv, rfl, h⟩ := h
  have l : ∀ {a : Addr} {xs : List V}, H a = some (.lst xs) → H' a = some (.lst xs) := fun q => g _ _ q (fun _ z => by cases z) (fun _ z => by cases z)
  have tk := Kp.tk g
  exact ⟨l1, l2, l3, l4, l5, cv, hv, rfl, g _ _ h.dict (fun _ z => by cases z) (fun _ z => by cases z), l h.came, pr_imp (fun _ _ => One.mono tk) h.cameP, l h.lev, l h.stg, l h.won, l h.heard, pr_imp (fun _ _ => One.mono tk) h.heardP, h.nd⟩
theorem PotAt.kp {H H' : Hp} {p : Addr} {m : Nat} (h : PotAt H p m) (g : Kp H H') : PotAt H' p m := by
  obtain ⟨a, b, c, h1, h2⟩ := h
  exact ⟨a, b, c, g _ _ h1 (fun _ z => by cases z) (fun _ z => by cases z), h2⟩
/-- a class whose making may raise -/
structure MkX (P : Program) (w : World) (K : PySem.W.Frag) (mg : Str → Option Value) (base : Heap) (x : Str) (C : Addr) (k : Nat) (ps : List Str) (sp : Sp) : Prop where
  at_ : mg x = some (.ref C)
  ex : ∃ (f : Addr) (fd : FuncData), Mk K C f ∧ Binds K fd ps [] ∧ FnOk P w K mg base (L2.CX P w) k f fd ps sp
section
variable {X : Cx} {x : Str} {k : Nat} {ps : List Str} {sp : Sp} {C : Addr} {e : Expr} {es : List Expr} {t : TA} {p pos : Pos} {E : XK}
theorem pe_mkE (tk : Takes X (fun cls d _ H => E cls d H)) (M : MkX X.prog X.w X.K X.mg X.base x C k ps sp) (hr : Room (k + 1) X.A) (hg : Gl X x) (ha : PA X (e :: es) t) (hdb : (x == ("__debug__" : Str)) = false := by decide)
    (he : starEach (e :: es) X.env = (false, eval e X.env) :: starEach es X.env := by rfl) (hpl : (backTo pos (starEach es X.env)).any (·.1) = false := by rfl) : PE X (.Call (.Name x p) (e :: es) [] pos) (tMake C sp [] E t) := by
  obtain ⟨f, fd, h1, h2, h3⟩ := M.ex
  exact pe_make h1 h3 hr hg M.at_ h2 .nil (pass_of tk) ha hdb he hpl
end
section
variable {P : Program} {w : World} {K : PySem.W.Frag} {mg : Str → Option Value} {base : Heap}
/-- as fun_okG, where the def's code is known -/
theorem fun_okT {x qual : Str} {st : Stmt} {f c PT : Addr} {fd : FuncData} {N ps : List Str} {k : Nat} {sp : Sp} (F : Fun K x qual st f fd) (hns : PySem.W.nsIn K mainGlobals x = some (some (.ref f))) (hT : PySem.W.tabIn K x = some (c, PT)) (S : FnScope N ps (defScope st)) (len : ∀ vs H Q E, sp vs H Q E → vs.length = ps.length)
    (hbody : ∀ (A : Around) (outer : List Env) (s : Shared) (H : Hp) (vs : List V) (Q : VK) (E : XK), Room k (A.deeper (envOfC qual (defScope st) s.heap.objs.size f (.ref c))) → (A.deeper (envOfC qual (defScope st) s.heap.objs.size f (.ref c))).guards = some [] → sp vs H Q E →
      ∃ t, PSs (cxOf CX0 P w K mg base N qual (defScope st) f (.ref c) A outer s H E).nox (defBody st) t ∧ t { nx := fun _ H' => Q .non H', rt := Q } (start N vs) H) : FnOkG P w K mg base CX0 (k + 1) f fd ps sp := by
  obtain ⟨oc, od, kV, doc, pm, an, cdv, ct, osl, rfl, lk, hcd⟩ := F.ex
  have e : cdv = .ref c := by
    unfold PySem.W.tabIn at hT
    rw [hns] at hT
    dsimp only at hT
    rw [lk] at hT
    dsimp only at hT
    cases cdv <;> first | (cases hT; done) | skip
    rename_i c'
    have hT : (match K.lookup c' with
        | some ⟨_, _, .fields vs, _⟩ => (match (vs[11]? : Option Value) with
          | some (.ref P) => some (c', P)
          | _ => none)
        | _ => none) = some (c, PT) := hT
    split at hT
    · split at hT
      · cases hT; rfl
      · cases hT
    · cases hT
  subst e
  refine fn_ofG lk hcd S len fun A outer s H vs Q E hr hg hsp => ?_
  obtain ⟨t, h, q⟩ := hbody A outer s H vs Q E hr hg hsp
  exact ⟨t, h.nox, q⟩
end
end Fp
/-! calls of lambdas that raise, caught; what is common to laws that do so -/
namespace Fp
open PySem PySem.Spec PyProof.Rows L2 LamX
/-- what a call without arguments does: it raises, so -/
def Raises (sp : Hp → VK → XK → Prop) (H : Hp) (R : XK) : Prop := ∀ Q E, (∀ cls d G, R cls d G → E cls d G) → sp H Q E
theorem takes_no {X : Cx} : Takes X (fun _ _ _ _ => False) := fun u s' ⟨_, _, _, _, _, _, _, _, _, _, _, _, _, _, _, _, w⟩ => w.elim
/-- what a lambda's body reads -/
def LamR (X : Cx) (scope : Scope) (body : Expr) (t : XK → TE) : Prop := ∀ (A : Around) (outer : List Env) (s : Shared) (H : Hp) (E : XK) (f c' : Addr), Room 16 (A.deeper (lamEnv X scope s.heap.objs.size f c')) → PE (lamCx X A outer s H E scope f c') body (t E)
def LamB (params : Arguments) (body : Expr) (scope : Scope) : Prop := ∀ (q : Str) (cl : List (Str × Addr)) (pm cv ctv : Value), bindArgs (PySem.W.kla_fn "<lambda>" q params body scope cl pm cv ctv) ⟨[], []⟩ = pure []
theorem lamB0 {body : Expr} {scope : Scope} : LamB { posonlyargs := [], args := [], vararg := none, kwonlyargs := [], kw_defaults := [], kwarg := none, defaults := [] } body scope := fun q cl pm cv ctv => rfl
/-! ### the heap, tables apart -/
def ButN (S : List Addr) (H H' : Hp) : Prop := ∀ b o, b ∉ S → H b = some o → (∀ ps, o ≠ .tbl ps) → H' b = some o
theorem ButN.of {S : List Addr} {H H' : Hp} (g : But S H H') : ButN S H H' := fun b o n q _ => g b o n q
theorem ButN.ext {S : List Addr} {H H' : Hp} (g : ExtN H H') : ButN S H H' := fun b o _ q t => g b o q t
theorem ButN.trans {S : List Addr} {H H1 H2 : Hp} (a : ButN S H H1) (b : ButN S H1 H2) : ButN S H H2 := fun c o n q t => b c o n (a c o n q t) t
theorem Tabs.but {T : List (Addr × Str)} {S : List Addr} {H H' : Hp} (t : Tabs T H) (g : But S H H') (n : ∀ x ∈ S, ∀ o, H x = some o → (∀ ps, o ≠ .tbl ps) ∧ ∀ φ, o ≠ .ext φ) : Tabs T H' := fun p hp => by
  obtain ⟨ps, h1, h2, h3⟩ := t p hp
  have out : ∀ {b : Addr} {o : HO}, H b = some o → ((∃ ps, o = .tbl ps) ∨ ∃ φ, o = .ext φ) → H' b = some o := fun {b o} q k => g b o (fun m => by
    obtain ⟨n1, n2⟩ := n b m o q
    rcases k with ⟨ps, z⟩ | ⟨φ, z⟩
    · exact n1 _ z
    · exact n2 _ z) q
  refine ⟨ps, out h1 (.inl ⟨_, rfl⟩), h2, fun pos cv hc => ?_⟩
  obtain ⟨c, e1, e2⟩ := h3 pos cv hc
  exact ⟨c, e1, out e2 (.inr ⟨_, rfl⟩)⟩
theorem Tabs.same {T : List (Addr × Str)} {H H' : Hp} (t : Tabs T H) (g : Same H H') : Tabs T H' := t.ext fun b o q => g b o q
theorem Tabs.put {T : List (Addr × Str)} {H : Hp} {l : Addr} {xs ys : List V} (t : Tabs T H) (h : H l = some (.lst xs)) : Tabs T (upd H l (.lst ys)) := Tabs.but t (S := [l]) ((But.refl _ _).put (by simp)) fun x hx o q => by
  rw [List.mem_singleton.mp hx, h] at q
  cases q
  exact ⟨fun _ z => (by cases z), fun _ z => (by cases z)⟩
abbrev Q41 : Str := ("_law_right" : Str) ++ (".<locals>." : Str)
abbrev T41 (PR : Addr) : List (Addr × Str) := [(PR, Q41 ++ ("<lambda>" : Str))]
theorem mem41 {q : Str} {PR : Addr} (h : q = Q41) : (PR, q ++ ("<lambda>" : Str)) ∈ T41 PR := by subst h; exact List.mem_singleton.mpr rfl
theorem only41 {q : Str} {PR : Addr} (h : q = Q41) : ∀ p ∈ T41 PR, p.1 = PR → p.2 = q ++ ("<lambda>" : Str) := fun p hp _ => by subst h; exact congrArg Prod.snd (List.mem_singleton.mp hp)
def spRightT (PR : Addr) : Sp := fun vs H Q _ => ∃ p, vs = [.ref p] ∧ PotAt H p 0 ∧ Tabs (T41 PR) H ∧ ∀ H', ButN [p] H H' → Tabs (T41 PR) H' → Q (.bl true) H'
/-- a call that raises, caught: the error is kept, told in a pair -/
def spCaught (P : Program) (w : World) (K : PySem.W.Frag) (mg : Str → Option Value) (base : Heap) (k : Nat) (CH : Addr) : Sp := fun vs H Q _ => ∃ (f : Addr) (sp : Hp → VK → XK → Prop) (R : XK), vs = [.ref f] ∧ CloOk P w K mg base k f sp ∧
  Raises sp H R ∧ ∀ cls d G, R cls d G → PySem.W.exmOne K cls (.ref CH) = some true ∧ ∀ a t, a ≠ t → G a = none → G t = none → Q (.ref t) (upd (upd G a (ErrO cls d a)) t (.tup [.ref a, .non]))
/-! ### such values while tables grow -/
section
variable {b : Bool} {N : Addr → Prop} {H H' : Hp}
mutual
theorem SA.kp (g : Kp H H') : ∀ {k n : Nat} {v : V} {d : PyData}, SA b N H k n v d → SA b (fun _ => False) H' k n v d
  | _, _, _, _, .non => .non
  | _, _, _, _, .bl c => .bl c
  | _, _, _, _, .int i h h2 => .int i h h2
  | _, _, _, _, .str z h h2 => .str z h h2
  | _, _, _, _, .tup h t l => .tup (g _ _ h (fun _ z => by cases z) (fun _ z => by cases z)) (SAs.kp g t) l
  | _, _, _, _, .lst e a h t => .lst e id (g _ _ h (fun _ z => by cases z) (fun _ z => by cases z)) (SAs.kp g t)
  | _, _, _, _, .dct0 e a h => .dct0 e id (g _ _ h (fun _ z => by cases z) (fun _ z => by cases z))
  | _, _, _, _, .dct1 z i e a h h1 h2 h3 h4 => .dct1 z i e id (g _ _ h (fun _ z => by cases z) (fun _ z => by cases z)) h1 h2 h3 h4
theorem SAs.kp (g : Kp H H') : ∀ {k n : Nat} {vs : List V} {ds : List PyData}, SAs b N H k n vs ds → SAs b (fun _ => False) H' k n vs ds
  | _, _, _, _, .nil => .nil
  | _, _, _, _, .cons h t l => .cons (SA.kp g h) (SAs.kp g t) l
end
end
theorem DKp.kp {H H' : Hp} (g : Kp H H') : DKp H H' := ⟨fun h => g _ _ h (fun _ z => by cases z) (fun _ z => by cases z), fun h => ⟨_, g _ _ h (fun _ z => by cases z) (fun _ z => by cases z)⟩, fun h => ⟨_, g _ _ h (fun _ z => by cases z) (fun _ z => by cases z)⟩⟩
section
variable {X : Cx} {params : Arguments} {body : Expr} {scope : Scope} {ys : List Str} {v : V} {tf : TE} {t : XK → TE} {σ : L2.St} {H HZ : Hp} {Q : VK} {f CE CH : Addr}
theorem caught_at (ok : X.Ok) (hl : σ.length = X.N.length) (L : LamS X.env.scope scope) (hbind : LamB params body scope) (hbody : LamR X scope body t) (hf : LamAt X HZ f params body scope) (cA : CellsAt X.N X.base σ (lamCl X scope) HZ) (hexm : PySem.W.exmOne X.K (.ref CE) (.ref CH) = some true)
    (hR : ∀ Q' E', (∀ e' G0, Same (dropC (lamCs X scope) HZ) G0 → G0 e' = some (.xd [("value", v)]) → E' (.ref CE) (some e') G0) → t E' σ (dropC (lamCs X scope) HZ) Q')
    (hQ : ∀ H' p a e', Same HZ H' → HZ a = none → H' p = some (.tup [.ref a, .non]) → H' a = some (ErrO (.ref CE) (some e') a) → H' e' = some (.xd [("value", v)]) → Q (.ref p) H') : spCaught X.prog X.w X.K X.mg X.base 17 CH [.ref f] HZ Q E0 := by
  refine ⟨f, _, fun cls dd G => ∃ G0 e', cls = .ref CE ∧ dd = some e' ∧ Same (dropC (lamCs X scope) HZ) G0 ∧ G0 e' = some (.xd [("value", v)]) ∧ (∀ c ∈ lamCs X scope, G0 c = none) ∧ G = backC (lamCs X scope) HZ G0, rfl, lam_clo ok hl L hbind hbody, fun Q' E' hE => ⟨hf, cA, hR _ _ fun e' G0 g he n => hE _ _ _ ⟨G0, e', rfl, rfl, g, he, n, rfl⟩⟩, ?_⟩
  rintro cls dd G ⟨G0, e', rfl, rfl, g, he, n, rfl⟩
  have sg : Same HZ (backC (lamCs X scope) HZ G0) := fun b o q => by
    by_cases m : b ∈ lamCs X scope
    · rw [backC_in m]; exact q
    · rw [backC_out m]; exact g b o (by rw [dropC_out m]; exact q)
  have ne : e' ∉ lamCs X scope := fun m => by rw [n e' m] at he; cases he
  have he' : backC (lamCs X scope) HZ G0 e' = some (.xd [("value", v)]) := by rw [backC_out ne]; exact he
  refine ⟨hexm, fun a p nap na np => ?_⟩
  have s1 := same_new na (ErrO (.ref CE) (some e') a)
  have np' : upd (backC (lamCs X scope) HZ G0) a (ErrO (.ref CE) (some e') a) p = none := by rw [upd_ne (Ne.symm nap)]; exact np
  have s2 := same_new np' (.tup [.ref a, .non])
  have na0 : HZ a = none := by
    cases e : HZ a with
    | none => rfl
    | some o => rw [sg _ _ e] at na; cases na
  exact hQ _ p a e' ((sg.trans s1).trans s2) na0 upd_same (s2 _ _ upd_same) (s2 _ _ (s1 _ _ he'))
/-- a lambda that stands, handed on -/
theorem caught_old (L : LamS X.env.scope scope) (hbind : LamB params body scope) (hbody : LamR X scope body t) (hy : ∀ y ∈ scope.names, y.2 = .free → y.1 ∈ ys) (hf : LamAt X H f params body scope) (hexm : PySem.W.exmOne X.K (.ref CE) (.ref CH) = some true)
    (hv : tf σ H fun x H1 => x = .ref f ∧ H1 = H) (mf : ∀ {Q1 Q2 : VK}, (∀ x H1, Q1 x H1 → Q2 x H1) → tf σ H Q1 → tf σ H Q2)
    (hR : ∀ G Q' E', Kp H G → (∀ e' G0, Same G G0 → G0 e' = some (.xd [("value", v)]) → E' (.ref CE) (some e') G0) → t E' σ G Q')
    (hQ : ∀ H' p a e', Same H H' → H' p = some (.tup [.ref a, .non]) → H' a = some (ErrO (.ref CE) (some e') a) → H' e' = some (.xd [("value", v)]) → Q (.ref p) H') : tCallC X ys (spCaught X.prog X.w X.K X.mg X.base 17 CH) (tCons tf tNil) σ H Q := by
  refine mf (fun x H1 z => ?_) hv
  obtain ⟨rfl, rfl⟩ := z
  intro ok hl cs HZ eD pn cA
  have up : ∀ b o, H1 b = some o → HZ b = some o ∧ b ∉ cs := fun b o q => by
    rw [← eD] at q
    exact ⟨(dropC_some q).2, (dropC_some q).1⟩
  have cL := cA.lam ok L hy
  have ps := cL.pins (lamCl_N ok L)
  refine caught_at (v := v) ok hl L hbind hbody (hf.ext fun b φ q => (up b _ q).1) cL hexm (fun Q' E' hE => hR _ Q' E' (fun b o q n1 n2 => ?_) hE) fun H' p a e' g na h1 h2 h3 => ?_
  · have q' := (up b o q).1
    rw [dropC_out (ps.no q' n2)]; exact q'
  · have fresh : ∀ {b o}, H' b = some o → (∀ o', HZ b = some o' → o' = o) := fun {b o} q o' q' => by
      rw [g _ _ q'] at q; exact Option.some.inj q
    have out : ∀ {b o}, H' b = some o → (∀ c u, o ≠ PinO c u) → b ∉ cs := fun {b o} q nn m => by
      obtain ⟨u, z⟩ := pn b m
      exact nn _ _ (fresh q _ z).symm
    refine ⟨fun c m => ?_, hQ _ p a e' (fun b o q => ?_) ?_ ?_ ?_⟩
    · obtain ⟨o, z⟩ := pn c m
      rw [z]; exact g _ _ z
    · obtain ⟨q1, q2⟩ := up b o q
      rw [dropC_out q2]; exact g _ _ q1
    · rw [dropC_out (out h1 fun c u z => by cases z)]; exact h1
    · rw [dropC_out (fun m => by obtain ⟨u, z⟩ := pn a m; rw [na] at z; cases z)]; exact h2
    · rw [dropC_out (out h3 fun c u z => by cases z)]; exact h3
end
end Fp
/-! a, b = (c, d) whose pair is a constant: the pair itself is not tracked -/
namespace Fp
open PySem PySem.Spec PyProof.Rows L2
def tAsgU (n : Nat) (ta : TA) (tg : TGs) : TS := fun D σ H => ta σ H fun xs H1 => xs.length = n ∧ xs.length ≤ sizeLine ∧ tg xs σ H1 D.nx
theorem ps_asgU {X : Cx} {es vs : List Expr} {k k2 : Nat} {p1 p2 pos : Pos} {ta : TA} {tg : TGs} {n : Nat} (hc : X.calm = true) (ha : PA X vs ta) (h : PGs X es tg)
    (hn : (assignEach es X.env).length = n := by rfl) (hst : (assignEach es X.env).findIdx? (·.1) = none := by rfl)
    (hs : swapsWithSole [.Tuple es k p1] (.Tuple vs k2 p2) pos.line X.env = pure false := by rfl) (hw : swappedStores [.Tuple es k p1] (.Tuple vs k2 p2) X.env = pure none := by rfl)
    (h1 : (assignEach [.Tuple es k p1] X.env).map (·.2) = [assign (.Tuple es k p1) X.env] := by rfl) : PS X (.Assign [.Tuple es k p1] (.Tuple vs k2 p2) pos) (tAsgU n ta tg) := by
  refine ⟨fun pins s σ H D I q => ?_⟩
  refine wpAny_Assign_stores (wpAny_Tuple_spliced (thn (ha.run p2 pins s σ H _ I q) fun us s1 ⟨xs, H1, I1, r, e, z, q1⟩ => ⟨by rw [← r.length]; exact z, ?_⟩)) hs hw
  rw [h1]
  have I2 : Inv X pins σ H1 { s1 with heap := s1.heap.push { cls := .type "tuple", data := .seq us.toArray } } := I1.kept (t' := s1.toks) fun b o e => Heap.get?_push_of_some _ e
  refine wpAny_mono (Q := fun _ s3 => ∃ σ', ∃ H', Inv X pins σ' H' s3 ∧ D.nx σ' H') ?_ (fun _ s3 q3 => ?_) fun _ _ z => z
  · refine assign_Tuple_tuple (I2.ok.hd hc) (items := us.toArray) ⟨_, Heap.get?_push_size _ rfl, rfl, _, rfl⟩ (by simp [hn, ← e, r.length]) hst fun h' hx => ?_
    have I3 := I2.kept (t' := s1.toks) (h' := h') fun b o e => hx b o (Nat.ne_of_lt (Heap.lt_size e)) e
    exact h.run pins _ σ H1 xs _ _ I3 (by simpa using r) q1
  · exact q3
end Fp
namespace Fp
open PySem PySem.Spec PyProof.Rows L2 LamX
theorem peb_ix {X : Cx} {scope : Scope} {vs : List Nat} {a : Expr} {ta : TE} {r : R2} {i : Int} {kd} {p2 pos : Pos} (hr : ∀ (s : Shared) (H : Hp) (C : Addr) (cl : List (Str × Addr)) (fp : List Addr), IxR (X.blk s H scope (compEnvC scope cl C X.env) fp) r) (he : PEb X scope vs a ta) : PEb X scope vs (.Subscript a (.Constant (.int i) kd p2) pos) (tOp r ta (tC (.int i))) := by
  intro σ0 s0 H0 C cl fp B pins s σ H Q hw I h
  refine Subscript_ (thn (he σ0 s0 H0 C cl fp B pins s σ H _ hw I h) fun v s1 ⟨x, H1, I1, r1, q1⟩ => ?_)
  refine thn ((pe_int (X := X.blk s0 H0 scope (compEnvC scope cl C X.env) fp)).run pins s1 σ H1 _ I1 q1) fun u s2 ⟨y, H2, I2, r2, q2⟩ => ?_
  exact hr s0 H0 C cl fp a _ pins s2 σ H2 x y v u Q I2 r1 r2 q2 rfl
section
variable {P : Program} {w : World} {K : PySem.W.Frag} {mg : Str → Option Value} {base : Heap} {f : Addr} {fd : FuncData} {C CH CE : Addr}
abbrev s_law_caught : Stmt := top 37
theorem sc_law_caught : FnScope ["look", "caught", "back", "error"] ["look"] (defScope s_law_caught) := ⟨rfl, rfl, rfl, by decide +kernel, rfl, by decide +kernel, by decide +kernel⟩
theorem ok_law_caught (F : Fun K "_law_caught" "_law_caught" s_law_caught f fd) (hH : mg "HandError" = some (.ref CH)) : FnOk P w K mg base CX0 18 f fd ["look"] (spCaught P w K mg base 17 CH) := by
  refine F.ok sc_law_caught (fun vs H Q E h => ?_) (fun cdv A outer s H vs Q E hr h => ?_)
  · obtain ⟨g, sp, R, rfl, _⟩ := h
    rfl
  obtain ⟨g, sp, R, rfl, hc, hR, k⟩ := h
  refine ⟨_, (pss_cons (ps_asgU (n := 2) rfl (pa_cons pe_non (pa_cons pe_non pa_nil)) (pgs_cons (pg_name (i := 1) sc_law_caught.nd rfl (Or.inl rfl)) (pgs_cons (pg_name (i := 2) sc_law_caught.nd rfl (Or.inl rfl)) pgs_nil))) (pss_cons (ps_try_kept (i := 3) (c := .ref CH) rfl rfl rfl sc_law_caught.nd rfl rfl ⟨rfl, by decide, .inl hH⟩ takes_no (fun W pn xe tk po => pss_one (ps_set (i := 2) sc_law_caught.nd rfl (Or.inl rfl) (show PE _ _ (tCallClo P w K mg base 0 17 (WE W)) from pe_callClo (i := 0) (E := WE W) hr rfl (.inl rfl) (passAt tk))))
    (fun a oe cls d pn z ff => pss_one (ps_set (i := 1) sc_law_caught.nd rfl (Or.inl rfl) (pv 3))))
    (pss_one (ps_ret (pe_tup (pa_cons (pv 1) (pa_cons (pv 2) pa_nil))))))), ?_⟩
  refine seq_in ?_
  refine ⟨rfl, szl (by show 2 ≤ _; decide), _, _, rfl, _, _, rfl, rfl, ?_⟩
  refine nx_in ?_
  refine seq_in ?_
  refine ⟨g, sp, rfl, hc, hR _ _ fun cls d G r => ?_⟩
  obtain ⟨e, q⟩ := k cls d G r
  refine ⟨true, e, fun _ a ha => ?_, fun z => by cases z⟩
  refine ⟨_, rfl, ?_⟩
  refine g_set ?_
  refine fun z => ?_
  refine nx_in ?_
  refine ⟨_, rfl, _, rfl, szl (by show 2 ≤ _; decide), fun t nt => ?_⟩
  refine q a t (fun e => by rw [e, upd_same] at nt; cases nt) ha ?_
  by_cases e : t = a
  · rw [e]; exact ha
  · rw [upd_ne e] at nt; exact nt
end
end Fp
namespace Fp
open PySem PySem.Spec PyProof.Rows L2 LamX
theorem LamAt.extN {X : Cx} {H H' : Hp} {f : Addr} {params : Arguments} {body : Expr} {scope : Scope} (h : LamAt X H f params body scope) (g : ExtN H H') : LamAt X H' f params body scope := LamAt.ext h fun b φ q => g b _ q (fun _ z => by cases z)
theorem LamAt.put {X : Cx} {H : Hp} {f a : Addr} {xs ys : List V} {params : Arguments} {body : Expr} {scope : Scope} (h : LamAt X H f params body scope) (e : H a = some (.lst xs)) : LamAt X (upd H a (.lst ys)) f params body scope := LamAt.ext h fun b φ q => by
  rw [upd_ne (fun z => by rw [z, e] at q; cases q)]; exact q
theorem ext_put {Hz H : Hp} {a : Addr} {u : HO} (hz : Hz a = none) (g : ExtN Hz H) : ExtN Hz (upd H a u) := fun b o q n => by
  rw [upd_ne (fun z => by rw [z, hz] at q; cases q)]; exact g b o q n
theorem notLook {y : Str} (hy : y = "many" ∨ y = "value" ∨ y = "whole") {i : Nat} (hi : (["pot","row","is_row","looks","caught","many","value","whole","look"] : List Str)[i]? = some y) : i ∉ [8] := fun m => by
  obtain rfl := List.mem_singleton.mp m
  have : y = "look" := (Option.some.inj hi).symm
  subst this
  rcases hy with h | h | h <;> exact absurd h (by decide)
/-- the error of this law -/
structure ErrB (K : PySem.W.Frag) (mg : Str → Option Value) (CE CH : Addr) : Prop where
  a : mg "BadRow" = some (.ref CE)
  kit : PySem.W.kitOne K (.ref CE) (.ref CE) = some true
  exc : ExcC K CE
  xf : XfC K CE
  noV : PySem.W.findIn K (.ref CE) "value" = some none
  hand : PySem.W.exmOne K (.ref CE) (.ref CH) = some true
def LamBad (X : Cx) (CE : Addr) (v : V) (e : Dt) (n : Nat) (wv : V) (dw : Dt) (H : Hp) (x : V) : Prop := ∃ (f : Addr) (params : Arguments) (body : Expr) (scope : Scope) (t : XK → TE), x = .ref f ∧ LamS X.env.scope scope ∧ LamB params body scope ∧ LamR X scope body t ∧ (∀ y ∈ scope.names, y.2 = .free → y.1 ∈ (["many", "value", "whole"] : List Str)) ∧ LamAt X H f params body scope ∧
  ∀ (σ : L2.St) (G : Hp) (Q' : VK) (E' : XK), σ[5]? = some (some (.int n)) → σ[6]? = some (some v) → σ[7]? = some (some wv) → DV G v e → DV G wv dw → (∀ e' G0, Same G G0 → G0 e' = some (.xd [("value", v)]) → E' (.ref CE) (some e') G0) → t E' σ G Q'
theorem LamBad.ext {X : Cx} {CE : Addr} {v : V} {e : Dt} {n : Nat} {wv : V} {dw : Dt} {H H' : Hp} {x : V} (h : LamBad X CE v e n wv dw H x) (g : ExtN H H') : LamBad X CE v e n wv dw H' x := by
  obtain ⟨f, params, body, scope, t, a1, a2, a3, a4, a5, a6, a7⟩ := h
  exact ⟨f, params, body, scope, t, a1, a2, a3, a4, a5, LamAt.extN a6 g, a7⟩
theorem LamBad.put {X : Cx} {CE : Addr} {v : V} {e : Dt} {n : Nat} {wv : V} {dw : Dt} {H : Hp} {x : V} {a : Addr} {xs ys : List V} (h : LamBad X CE v e n wv dw H x) (q : H a = some (.lst xs)) : LamBad X CE v e n wv dw (upd H a (.lst ys)) x := by
  obtain ⟨f, params, body, scope, t, a1, a2, a3, a4, a5, a6, a7⟩ := h
  exact ⟨f, params, body, scope, t, a1, a2, a3, a4, a5, LamAt.put a6 q, a7⟩
/-- the list of the lambdas, while it grows -/
structure LooksAt (X : Cx) (PR CE : Addr) (v : V) (e : Dt) (n : Nat) (wv : V) (dw : Dt) (H : Hp) (ll : Addr) (fs : List V) (H' : Hp) : Prop where
  ext : ExtN H H'
  tab : Tabs (T41 PR) H'
  new : H ll = none
  at_ : H' ll = some (.lst fs)
  len : fs.length ≤ 4
  bad : ∀ x ∈ fs, LamBad X CE v e n wv dw H' x
/-- looks.append(lambda: ..) -/
theorem looks_app {X : Cx} {PR CE : Addr} {v : V} {e : Dt} {n : Nat} {wv : V} {dw : Dt} {H H' : Hp} {ll : Addr} {fs : List V} {σ : L2.St} {D : Ends} {params : Arguments} {body : Expr} {scope : Scope} {t : XK → TE} (S : LooksAt X PR CE v e n wv dw H ll fs H') (h3 : σ[3]? = some (some (.ref ll))) (hl : fs.length ≤ 3)
    (L : LamS X.env.scope scope) (hB : LamB params body scope) (hb : LamR X scope body t) (hy : ∀ y ∈ scope.names, y.2 = .free → y.1 ∈ (["many", "value", "whole"] : List Str))
    (hR : ∀ (σ : L2.St) (G : Hp) (Q' : VK) (E' : XK), σ[5]? = some (some (.int n)) → σ[6]? = some (some v) → σ[7]? = some (some wv) → DV G v e → DV G wv dw → (∀ e' G0, Same G G0 → G0 e' = some (.xd [("value", v)]) → E' (.ref CE) (some e') G0) → t E' σ G Q')
    (k : ∀ fs' H'', LooksAt X PR CE v e n wv dw H ll fs' H'' → fs'.length = fs.length + 1 → D.nx σ H'') : tDrop (tBM X.K "list" rAppend (tVar 3) (tCons (tLamE X (T41 PR) params body scope) tNil)) D σ H' := by
  refine ⟨_, h3, .inl ⟨rfl, _, .of S.at_⟩, S.tab, fun f H1 g1 T1 nf hf => ?_⟩
  have h1 := g1 _ _ S.at_ (fun _ z => by cases z)
  refine ⟨ll, fs, .ref f, rfl, rfl, h1, szt (by omega), ?_⟩
  refine k (fs ++ [.ref f]) _ ⟨ext_put S.new (S.ext.trans g1), Tabs.put T1 h1, S.new, upd_same, by rw [List.length_append]; show _ + 1 ≤ 4; omega, fun x hx => ?_⟩ (by rw [List.length_append]; rfl)
  rcases List.mem_append.mp hx with hx | hx
  · exact ((S.bad x hx).ext g1).put h1
  · rw [List.mem_singleton.mp hx]
    exact ⟨f, params, body, scope, t, rfl, L, hB, hb, hy, LamAt.put hf h1, hR⟩
abbrev s_law_right : Stmt := top 43
theorem sc_law_right : FnScope ["pot", "row", "is_row", "looks", "caught", "many", "value", "whole", "look"] ["pot"] (defScope s_law_right) := ⟨rfl, rfl, rfl, by decide +kernel, rfl, by decide +kernel, by decide +kernel⟩
abbrev X30 (P : Program) (w : World) (K : PySem.W.Frag) (mg : Str → Option Value) (base : Heap) (f cR : Addr) (A : Around) (outer : List Env) (s : Shared) (H : Hp) (E : XK) : Cx := (cxOf CX0 P w K mg base ["pot", "row", "is_row", "looks", "caught", "many", "value", "whole", "look"] "_law_right" (defScope s_law_right) f (.ref cR) A outer s H E).nox
/-- a kept error with this value -/
def ErrV (CE : Addr) (v : V) (H : Hp) (z : V) : Prop := ∃ a e', z = .ref a ∧ H a = some (ErrO (.ref CE) (some e') a) ∧ H e' = some (.xd [("value", v)])
theorem ErrV.same {CE : Addr} {v : V} {H H' : Hp} {z : V} (g : Same H H') : ErrV CE v H z → ErrV CE v H' z := fun ⟨a, e', h1, h2, h3⟩ => ⟨a, e', h1, g _ _ h2, g _ _ h3⟩
theorem ErrV.put {CE : Addr} {v : V} {H : Hp} {z : V} {l : Addr} {xs ys : List V} (h : H l = some (.lst xs)) : ErrV CE v H z → ErrV CE v (upd H l (.lst ys)) z := fun ⟨a, e', h1, h2, h3⟩ =>
  ⟨a, e', h1, by rw [upd_ne (fun e => by rw [e, h] at h2; cases h2)]; exact h2, by rw [upd_ne (fun e => by rw [e, h] at h3; cases h3)]; exact h3⟩
/-- if not is_row or None in value: .. -/
theorem if_bad {K : PySem.W.Frag} {A B : TS} {D : Ends} {σ : L2.St} {H : Hp} {n : Nat} {e : Dt} {x : V} (h2 : σ[2]? = some (some (.bl (atB n e)))) (h6 : σ[6]? = some (some x)) (dv : DV H x e) (h : wholeB n e = false) (hA : A D σ H) :
    tIfS (tOr (tNot (fun σ H Q => tVar 2 σ H fun x H' => ∃ k, TruV K x H' k ∧ Q k H')) (tTest (tOp (rNoneInT K false) (tC .non) (tVar 6)))) A B D σ H := by
  refine ⟨_, h2, atB n e, rfl, ite2 (fun c => iteT hA) (fun c => ?_)⟩
  have ha : atB n e = true := by simpa using c
  obtain ⟨ds, rfl, _⟩ := at_tup ha
  refine ⟨_, h6, ds, rfl, dv, pl_up (at_pl ha), _, rfl, ?_⟩
  have hn : ds.any Dt.isNon = true := by
    unfold wholeB at h
    rw [ha, Bool.true_and] at h
    have h' : (!ds.any Dt.isNon) = false := h
    simpa using h'
  show if (ds.any Dt.isNon) = true then _ else _
  rw [hn]
  exact iteT hA
theorem if_good {K : PySem.W.Frag} {A B : TS} {D : Ends} {σ : L2.St} {H : Hp} {n : Nat} {e : Dt} {x : V} (h2 : σ[2]? = some (some (.bl (atB n e)))) (h6 : σ[6]? = some (some x)) (dv : DV H x e) (h : wholeB n e = true) (hB : B D σ H) :
    tIfS (tOr (tNot (fun σ H Q => tVar 2 σ H fun x H' => ∃ k, TruV K x H' k ∧ Q k H')) (tTest (tOp (rNoneInT K false) (tC .non) (tVar 6)))) A B D σ H := by
  unfold wholeB at h
  rw [Bool.and_eq_true] at h
  obtain ⟨ha, hh⟩ := h
  refine ⟨_, h2, atB n e, rfl, ?_⟩
  rw [ha]
  refine iteF ?_
  obtain ⟨ds, rfl, _⟩ := at_tup ha
  refine ⟨_, h6, ds, rfl, dv, pl_up (at_pl ha), _, rfl, ?_⟩
  have hn : ds.any Dt.isNon = false := not_t hh
  show if (ds.any Dt.isNon) = true then _ else _
  rw [hn]
  exact iteF hB
section
variable {P : Program} {w : World} {K : PySem.W.Frag} {mg : Str → Option Value} {base : Heap} {f : Addr} {fd : FuncData} {C CH CE : Addr}
theorem ok_law_right {cR PR : Addr} (F : Fun K "_law_right" "_law_right" s_law_right f fd) (hns : PySem.W.nsIn K mainGlobals "_law_right" = some (some (.ref f))) (hTab : PySem.W.tabIn K "_law_right" = some (cR, PR)) (TB : TabB base mg cR PR) (T : RTx mg) (hE : ErrB K mg CE CH) (G_law_take : Fd P w K mg base CX0 "_law_take" 1 ["pot", "upto"] spTake) (G_law_drawn_row : Fd P w K mg base CX0 "_law_drawn_row" 3 ["pot", "many", "is_whole_v"] spDRow) (G_law_is_row : Fd P w K mg base CX0 "_law_is_row" 3 ["many", "value"] spLRowD) (G_is_at_once : Fd P w K mg base CX0 "is_at_once" 4 ["many", "value"] spAtD) (G_law_near : Fd P w K mg base CX0 "_law_near" 8 ["pot", "many", "row"] spNear)
    (G_law_caught : FdG P w K mg base CX0 "_law_caught" 18 ["look"] (spCaught P w K mg base 17 CH)) (X_weaving_to : Fd P w K mg base (L2.CX P w) "weaving_to" 5 ["many", "row"] (spWeaveX CE)) (X_number_of : Fd P w K mg base (L2.CX P w) "number_of" 6 ["many", "row"] (spNumX CE)) (X_chain : Fd P w K mg base (L2.CX P w) "chain" 7 ["many", "one", "other"] (spEndsX CE)) : FnOkG P w K mg base CX0 20 f fd ["pot"] (spRightT PR) := by
  refine fun_okT F hns hTab sc_law_right (fun vs H Q E h => ?_) (fun A outer s H vs Q E hr hgu h => ?_)
  · obtain ⟨p, rfl, _⟩ := h
    rfl
  obtain ⟨p, rfl, hP, hT, q⟩ := h
  refine ⟨_, (pss_cons (ps_set (i := 5) sc_law_right.nd rfl (Or.inr rfl) (pe_mid (pe_op op_add pe_int (pe_fd G_law_take (hr.mono (by first | decide | omega)) rfl (pa_cons (pv 0) (pa_cons pe_int pa_nil))))))
  (pss_cons (ps_asg (pe_tup (pa_cons (pe_fd G_law_drawn_row (hr.mono (by first | decide | omega)) rfl (pa_cons (pv 0) (pa_cons (pv 5) (pa_cons (pe_cmpR op_eq (pe_fd G_law_take (hr.mono (by first | decide | omega)) rfl (pa_cons (pv 0) (pa_cons pe_int pa_nil))) pe_int (nomark _)) pa_nil)))) (pa_cons (pe_fd G_law_drawn_row (hr.mono (by first | decide | omega)) rfl (pa_cons (pv 0) (pa_cons (pv 5) (pa_cons pe_bl pa_nil)))) pa_nil))) (pg_tup rfl (pgs_cons (pg_name (i := 1) sc_law_right.nd rfl (Or.inl rfl)) (pgs_cons (pg_name (i := 7) sc_law_right.nd rfl (Or.inr rfl)) pgs_nil))))
  (pss_cons (ps_for PassesOwn.never rfl (pi_list (pe_fd G_law_near (hr.mono (by first | decide | omega)) rfl (pa_cons (pv 0) (pa_cons (pv 5) (pa_cons (pv 1) pa_nil))))) (pg_name (i := 6) sc_law_right.nd rfl (Or.inr rfl)) (pss_cons (ps_set (i := 2) sc_law_right.nd rfl (Or.inl rfl) (pe_fd G_law_is_row (hr.mono (by first | decide | omega)) rfl (pa_cons (pv 5) (pa_cons (pv 6) pa_nil))))
  (pss_cons (ps_if (pt_cmpR op_ne (pe_callB call_reprB rfl T.repr (by decide +kernel) (pa_cons (pe_fd G_is_at_once (hr.mono (by first | decide | omega)) rfl (pa_cons (pv 5) (pa_cons (pv 6) pa_nil))) pa_nil)) (pe_callB call_reprB rfl T.repr (by decide +kernel) (pa_cons (pv 2) pa_nil)) (nomark _)) (pss_one (ps_ret pe_bl)) pss_nil)
  (pss_cons (ps_set (i := 3) sc_law_right.nd rfl (Or.inl rfl) (pe_mid (pe_ifExp (pt_truth (pv 2) (by intro _; rfl)) (pe_lst pa_nil) (pe_lst (pa_cons (pe_lam (T := T41 PR) TB rfl (mem41 (by rfl)) (only41 (by rfl)) rfl (lamS_by (by first | rfl | kernel_rfl))) pa_nil)))))
  (pss_cons (ps_if (PW.pt (pw_or (pt_not (pt_truth (pv 2) (by intro _; rfl))) (pw_or1 (pt_cmpR (op_noneIn' (u65 hr)) pe_non (pv 6) rfl)))) (pss_cons (ps_expr (pe_bm PySem.F.plainAttrs_list PySem.F.slot_list_append PySem.F.type_list_append mt_append (pv 3) (pa_cons (pe_lam (T := T41 PR) TB rfl (mem41 (by rfl)) (only41 (by rfl)) rfl (lamS_by (by first | rfl | kernel_rfl))) pa_nil)))
  (pss_cons (ps_expr (pe_bm PySem.F.plainAttrs_list PySem.F.slot_list_append PySem.F.type_list_append mt_append (pv 3) (pa_cons (pe_lam (T := T41 PR) TB rfl (mem41 (by rfl)) (only41 (by rfl)) rfl (lamS_by (by first | rfl | kernel_rfl))) pa_nil)))
  (pss_one (ps_expr (pe_bm PySem.F.plainAttrs_list PySem.F.slot_list_append PySem.F.type_list_append mt_append (pv 3) (pa_cons (pe_lam (T := T41 PR) TB rfl (mem41 (by rfl)) (only41 (by rfl)) rfl (lamS_by (by first | rfl | kernel_rfl))) pa_nil)))))) pss_nil)
  (pss_one (ps_for PassesOwn.never rfl (pi_list (pe_lcX (own := [("look", 8)]) (g := (gName 8)) (tt := tYes) rfl sc_law_right.nd (pi_list (pv 3)) (blkOk_by (own := [("look", 8)]) (N := ["pot", "row", "is_row", "looks", "caught", "many", "value", "whole", "look"]) (sc := defScope s_law_right) (by decide +kernel)) (fun _ _ _ _ _ => (pg_name (i := 8) sc_law_right.nd rfl (Or.inl rfl))) (fun _ _ _ _ _ => pts_nil) (peb_ix (r := rIxT K) (fun _ _ _ _ _ => ix_tupK) (peb_fdC ["many", "value", "whole"] (fun y hy => by simp only [List.mem_cons, List.not_mem_nil, or_false] at hy; rcases hy with rfl | rfl | rfl <;> first | exact Or.inl rfl | exact Or.inr rfl) (noFr_def rfl) (fun y hy i hi => by simp only [List.mem_cons, List.not_mem_nil, or_false] at hy; exact notLook hy hi) G_law_caught (hr.mono (by decide)) hgu (fun _ _ _ _ _ => rfl) (fun _ _ _ _ _ => (pa_cons (pv 8) pa_nil)))))) (pg_name (i := 4) sc_law_right.nd rfl (Or.inl rfl)) (pss_one (ps_if (PW.pt (pw_or (pt_not (pt_val (pe_callB call_isK rfl T.isinstance (by decide +kernel) (pa_cons (pv 4) (pa_cons (pe_glob rfl hE.1 (v := .ref CE) rfl) pa_nil))))) (pw_or1 (pt_cmpR op_ne (pe_callB (call_reprS (N := fun _ => False) hgu (u66 hr)) rfl T.repr (by decide +kernel) (pa_cons (pe_xk (pv 4)) pa_nil)) (pe_callB (call_reprS (N := fun _ => False) hgu (u66 hr)) rfl T.repr (by decide +kernel) (pa_cons (pv 6) pa_nil)) (nomark _))))) (pss_one (ps_ret pe_bl)) pss_nil)))))))))
  (pss_one (ps_ret pe_bl))))), ?_⟩
  have potK : ∀ {H : Hp} {m : Nat}, PotAt H p m → ∀ x ∈ [p], ∀ o, H x = some o → (∀ ps, o ≠ .tbl ps) ∧ ∀ φ, o ≠ .ext φ := fun {H m} hP x hx o q => by
    obtain ⟨xs, z⟩ := hP.there
    rw [List.mem_singleton.mp hx, z] at q
    cases q
    exact ⟨fun _ z => (by cases z), fun _ z => (by cases z)⟩
  refine seq_in ?_
  refine asg_in ?_
  refine ⟨fun y H' => ∃ n : Nat, y = .int n ∧ 1 ≤ n ∧ n ≤ 5 ∧ But [p] H H' ∧ PotAt H' p 1, ⟨_, rfl, p, 5, 0, rfl, by decide, by decide, by decide, hP, fun n0 H1 hn0 g1 hP1 => ⟨_, _, rfl, rfl, 1 + n0, (by show V.int (1 + (n0 : Int)) = _; congr 1), by omega, by omega, g1, hP1⟩⟩, ?_⟩
  rintro y H1 ⟨n, rfl, h1, h5, g1, hP1⟩
  refine g_set ?_
  refine nx_in ?_
  refine seq_in ?_
  refine asg_in ?_
  refine ⟨_, rfl, _, rfl, _, rfl, p, 2, 1, rfl, by decide, by decide, by decide, hP1, fun dd H2 hdd g2 hP2 => ⟨rfl, ?_⟩⟩
  refine ⟨p, n, 2, _, rfl, h1, h5, by decide, hP2, fun v1 H3 d1 g3 hP3 dv1 hat1 _ => ?_⟩
  refine ⟨_, rfl, _, rfl, p, n, 22, true, rfl, h1, h5, by decide, hP3, fun v2 H4 d2 g4 hP4 dv2 hat2 hw2 => ⟨szl (by show 2 ≤ _; decide), fun t nt => ⟨t, _, rfl, .of upd_same, rfl, _, _, rfl, _, _, rfl, rfl, ?_⟩⟩⟩
  have hw2 := hw2 rfl
  have s5 := same_new nt (.tup [v1, v2])
  have k34 := DKp.pot g4 hP3 hP4
  have dv1' := (dv1.kd k34).same s5
  have dv2' := dv2.same s5
  have hP5 := pot_sm s5 hP4
  have f5 := (((g1.trans g2).trans g3).trans g4).trans (.of s5)
  clear dv1 dv2
  refine nx_in ?_
  refine seq_in ?_
  refine ⟨_, rfl, _, rfl, _, rfl, p, n, 42, v1, d1, rfl, h1, h5, by decide, hP5, dv1', hat1, fun l xs H6 g6 _ nl hl6 hxl hok hj => ⟨l, rfl, ⟨_, .of hl6⟩, ?_⟩⟩
  obtain ⟨j6, hP6⟩ := hj
  have dw6 := dv2'.kd (.pot g6 hP5 hP6)
  have f6 := f5.trans g6
  have hT6 := Tabs.but hT f6 (potK hP)
  refine for_list (K := K) (a := l) (xs := xs) (fun i σ H' => ∃ u2 u3 u4 u6, σ = [some (.ref p), some v1, u2, u3, u4, some (.int n), u6, some v2, none] ∧ ExtN H6 H' ∧ Tabs (T41 PR) H') ?_ ?_ ?_ ?_
  · exact ⟨_, _, _, _, rfl, ExtN.refl _, hT6⟩
  · rintro i σ H' _ ⟨u2, u3, u4, u6, rfl, g7, T7⟩
    exact .of (g7 _ _ hl6 (fun _ z => by cases z))
  · rintro i x σ H7 hx ⟨u2, u3, u4, u6, rfl, g7, T7⟩
    obtain ⟨b, d, sa6⟩ := hok x (List.mem_of_getElem? hx)
    have sa7 : SA b (fun _ => False) H7 12 6000 x d := sa6.kp (Kp.of g7)
    have dv7 := sa7.dv
    have dw7 := dw6.kd (.kp (Kp.of g7))
    refine g_set ?_
    refine seq_in ?_
    refine asg_in ?_
    refine ⟨_, rfl, _, rfl, n, x, _, rfl, h1, h5, dv7, fun H8 g8 => ?_⟩
    rw [law_row (by omega)]
    refine g_set ?_
    refine nx_in ?_
    refine seq_in ?_
    refine ⟨_, rfl, _, rfl, n, x, _, rfl, h1, h5, dv7.same g8, fun H9 g9 => ⟨_, rfl, _, rfl, _, rfl, rfl, _, rfl, ?_⟩⟩
    rw [decide_eq_true rfl]
    refine iteF ?_
    refine next_in ?_
    refine nx_in ?_
    refine seq_in ?_
    refine asg_in ?_
    have g79 := g8.trans g9
    have sa9 := sa7.same g79
    have dv9 := sa9.dv
    have dw9 := dw7.same g79
    have T9 := Tabs.same T7 g79
    have e69 := g7.trans (extN_same g79)
    clear sa7 dv7 dw7 T7 sa6 g7 g8 g9 g79
    generalize hee : dtO d = e at dv9
    have hwhole : atB n e = false → wholeB n e = false := fun z => by unfold wholeB; rw [z]; rfl
    refine ⟨fun v H' => ∃ Hb ll fs, v = .ref ll ∧ ExtN H9 Hb ∧ LooksAt (X30 P w K mg base f cR A outer s H E) PR CE x e n v2 d2 Hb ll fs H' ∧ fs.length ≤ 1 ∧ (atB n e = true → fs = []), ?_, ?_⟩
    · refine ⟨_, rfl, atB n e, rfl, ite2 (fun c => ?_) (fun c => ?_)⟩
      · refine ⟨szl (by show 0 ≤ _; decide), fun ll nll => ?_⟩
        have s10 := same_new nll (.lst [])
        exact ⟨H9, ll, [], rfl, ExtN.refl _, ⟨extN_same s10, Tabs.same T9 s10, nll, upd_same, by decide, fun x hx => by cases hx⟩, by decide, fun _ => rfl⟩
      · have hf0 : atB n e = false := by simpa using c
        refine ⟨T9, fun fl H10 g10 T10 nf hf => ⟨szl (by show 1 ≤ _; decide), fun ll nll => ?_⟩⟩
        have s11 := same_new nll (.lst [.ref fl])
        refine ⟨H10, ll, [.ref fl], rfl, g10, ⟨extN_same s11, Tabs.same T10 s11, nll, upd_same, by show 1 ≤ 4; decide, fun y hy => ?_⟩, by show 1 ≤ 1; decide, fun z => by rw [hf0] at z; cases z⟩
        rw [List.mem_singleton.mp hy]
        refine ⟨fl, _, _, _, fun E => tCall (spWeaveX CE) [] E (tCons (tVar 5) (tCons (tVar 6) tNil)), rfl, ?L, lamB0, ?hb, ?hy, LamAt.extN hf (extN_same s11), fun σ G Q' E' q5 q6 q7 dv dw hE' => ⟨_, q5, _, q6, n, x, e, rfl, h1, h5, dv, hf0, fun H' e' g he => hE' e' _ (g.trans (same_new he _)) upd_same⟩⟩
        case L => exact lamS_by (by first | rfl | kernel_rfl)
        case hb => exact fun A outer s H E f c' hr => pe_fdE (takes_of rfl rfl rfl rfl) X_weaving_to (hr.mono (by decide)) rfl (pa_cons (pv 5) (pa_cons (pv 6) pa_nil))
        case hy => decide
    rintro v H10 ⟨Hb, ll, fs, rfl, e9b, S10, hfl, hfe⟩
    refine g_set ?_
    refine nx_in ?_
    refine seq_in ?_
    have sa10 : SA b (fun _ => False) H10 12 6000 x d := (sa9.kp (Kp.of e9b)).kp (Kp.of S10.ext)
    refine cut_nx (fun H' => ∃ fs', LooksAt (X30 P w K mg base f cR A outer s H E) PR CE x e n v2 d2 Hb ll fs' H') ?_ fun rest => ?_
    rotate_left
    · have dv10 : DV H10 x e := by rw [← hee]; exact sa10.dv
      cases hwb : wholeB n e with
      | true => exact if_good rfl rfl dv10 hwb (next_in (rest _ ⟨_, S10⟩))
      | false =>
        refine if_bad rfl rfl dv10 hwb ?_
        refine seq_in ?_
        refine looks_app (t := fun E => tCall (spNumX CE) [] E (tCons (tVar 5) (tCons (tVar 6) tNil))) S10 rfl (by omega) ?L1 lamB0 ?hb1 ?hy1 (fun σ G Q' E' q5 q6 q7 dv dw hE' => ⟨_, q5, _, q6, n, x, e, rfl, h1, h5, dv, hwb, fun H' e' g he => hE' e' _ (g.trans (same_new he _)) upd_same⟩) fun fs1 H11 S11 hl1 => ?_
        case L1 => exact lamS_by (by first | rfl | kernel_rfl)
        case hb1 => exact fun A outer s H E f c' hr => pe_fdE (takes_of rfl rfl rfl rfl) X_number_of (hr.mono (by decide)) rfl (pa_cons (pv 5) (pa_cons (pv 6) pa_nil))
        case hy1 => decide
        refine nx_in ?_
        refine seq_in ?_
        refine looks_app (t := fun E => tCall (spEndsX CE) [] E (tCons (tVar 5) (tCons (tVar 6) (tCons (tC .non) tNil)))) S11 rfl (by omega) ?L2 lamB0 ?hb2 ?hy2 (fun σ G Q' E' q5 q6 q7 dv dw hE' => ⟨_, q5, _, q6, n, x, .non, x, e, .non, rfl, h1, h5, dv, .non, .inl ⟨hwb, rfl⟩, fun H' e' g he => hE' e' _ (g.trans (same_new he _)) upd_same⟩) fun fs2 H12 S12 hl2 => ?_
        case L2 => exact lamS_by (by first | rfl | kernel_rfl)
        case hb2 => exact fun A outer s H E f c' hr => pe_fdE (takes_of rfl rfl rfl rfl) X_chain (hr.mono (by decide)) rfl (pa_cons (pv 5) (pa_cons (pv 6) (pa_cons pe_non pa_nil)))
        case hy2 => decide
        refine nx_in ?_
        refine looks_app (t := fun E => tCall (spEndsX CE) [] E (tCons (tVar 5) (tCons (tVar 7) (tCons (tVar 6) tNil)))) S12 rfl (by omega) ?L3 lamB0 ?hb3 ?hy3 (fun σ G Q' E' q5 q6 q7 dv dw hE' => ⟨_, q5, _, q7, _, q6, n, v2, x, x, d2, e, rfl, h1, h5, dw, dv, .inr ⟨hw2, hwb, rfl⟩, fun H' e' g he => hE' e' _ (g.trans (same_new he _)) upd_same⟩) fun fs3 H13 S13 hl3 => rest _ ⟨_, S13⟩
        case L3 => exact lamS_by (by first | rfl | kernel_rfl)
        case hb3 => exact fun A outer s H E f c' hr => pe_fdE (takes_of rfl rfl rfl rfl) X_chain (hr.mono (by decide)) rfl (pa_cons (pv 5) (pa_cons (pv 7) (pa_cons (pv 6) pa_nil)))
        case hy3 => decide
    rintro H11 ⟨fs', S11⟩
    refine nx_in ?_
    have sa11 : SA b (fun _ => False) H11 12 6000 x d := (sa9.kp (Kp.of e9b)).kp (Kp.of S11.ext)
    have dv11 : DV H11 x e := by rw [← hee]; exact sa11.dv
    have dw11 : DV H11 v2 d2 := (dw9.kd (.kp (Kp.of e9b))).kd (.kp (Kp.of S11.ext))
    have e611 := (e69.trans e9b).trans S11.ext
    refine ⟨_, rfl, ll, rfl, ⟨_, .of S11.at_⟩, fun DD hDD => ?_⟩
    refine lc_list (K := K) (a := ll) (xs := fs') (fun i H' => Same H11 H' ∧ ∃ acc, H' DD = some (.lst acc) ∧ acc.length = i ∧ ∀ z ∈ acc, ErrV CE x H' z) ⟨same_new hDD _, [], upd_same, rfl, fun z hz => by cases hz⟩ (fun i H' _ z => .of (z.1 _ _ S11.at_)) ?_ ?_
    · rintro i z H12 hz ⟨g12, acc, hD12, hl12, hac⟩
      obtain ⟨fl, params, body, scope, t, rfl, L, hB, hb, hy, hf, hR⟩ := S11.bad z (List.mem_of_getElem? hz)
      refine ⟨rfl, yes_in ?_⟩
      refine opx_in ?_
      refine caught_old (v := x) (CE := CE) L hB hb hy (LamAt.extN hf (extN_same g12)) hE.hand ⟨_, rfl, rfl, rfl⟩ (fun hq ⟨v, e, q⟩ => ⟨v, e, hq _ _ q⟩) (fun G Q' E' gk hE' => hR _ G Q' E' rfl rfl rfl ((dv11.same g12).kd (.kp gk)) ((dw11.same g12).kd (.kp gk)) hE') fun H13 pp aa ee g13 hp ha he => ?_
      refine ⟨pp, _, 0, _, rfl, rfl, .of hp, atI_nat (j := 0) rfl, ?_⟩
      have hD13 := g13 _ _ hD12
      refine ⟨acc, hD13, szt (by have := S11.len; have := get_lt hz; omega), fun o u ho => ?_, acc ++ [.ref aa], upd_same, by rw [List.length_append, hl12]; rfl, fun y hy => ?_⟩
      · rw [upd_ne (ne_of_none ho hDD)]; exact g13 _ _ (g12 _ _ ho)
      · rcases List.mem_append.mp hy with hy | hy
        · exact ErrV.put hD13 ((hac y hy).same g13)
        · rw [List.mem_singleton.mp hy]
          exact ErrV.put hD13 ⟨aa, ee, rfl, ha, he⟩
    rintro H12 ⟨g12, acc, hD12, hl12, hac⟩
    refine ⟨DD, rfl, ⟨_, .of hD12⟩, ?_⟩
    refine for_list (K := K) (a := DD) (xs := acc) (fun i σ H' => ∃ u4, σ = [some (.ref p), some v1, some (.bl (atB n e)), some (.ref ll), u4, some (.int n), some x, some v2, none] ∧ Same H12 H') ⟨u4, rfl, Same.refl _⟩ ?_ ?_ ?_
    · rintro i σ H' _ ⟨u4, rfl, g⟩
      exact .of (g _ _ hD12)
    · rintro i z σ H13 hz ⟨u4, rfl, g13⟩
      obtain ⟨a, e', rfl, ha, he⟩ := hac z (List.mem_of_getElem? hz)
      have ha := g13 _ _ ha
      have he := g13 _ _ he
      have sa13 := (sa11.same g12).same g13
      refine g_set ?_
      refine ⟨_, rfl, a, CE, e', _, .ref CE, .ref CE, true, rfl, ha, he, hE.exc, fun u r => r, hE.kit, true, rfl, ?_⟩
      refine iteF ?_
      refine ⟨_, rfl, a, CE, e', _, x, rfl, ha, he, rfl, hE.xf, hE.noV, b, x, d, 12, 6000, rfl, sa13, by decide, by decide, ?_⟩
      refine ⟨_, rfl, b, x, d, 12, 6000, rfl, sa13, by decide, by decide, rfl, _, rfl, ?_⟩
      rw [decide_eq_true rfl]
      refine iteF ?_
      exact ⟨_, rfl, g13⟩
    · rintro σ H13 ⟨u4, rfl, g13⟩
      have gg := g12.trans g13
      exact ⟨_, _, _, _, rfl, e611.trans (extN_same gg), Tabs.same S11.tab gg⟩
  · rintro σ H7 ⟨u2, u3, u4, u6, rfl, g7, T7⟩
    refine nx_in ?_
    refine ret_in ?_
    exact q _ ((ButN.of f6).trans (.ext g7)) T7
end
end Fp
namespace Fp
open PySem PySem.Spec PyProof.Rows L2 LamX
theorem ExtN.seq {K : PySem.W.Frag} {H H' : Hp} (g : ExtN H H') {a : Addr} {xs : List V} (h : SqL K H a xs) : SqL K H' a xs := by
  rcases h with (h | ⟨o, h⟩) | h
  · exact .inl (.inl (g _ _ h (fun _ z => (by cases z))))
  · exact .inl (.inr ⟨o, g _ _ h (fun _ z => (by cases z))⟩)
  · exact .inr h
def spLawT (K : PySem.W.Frag) (PR : Addr) : Sp := fun vs H Q _ => ∃ (a : Addr) (ns : List Int), vs = [.ref a] ∧ SqL K H a (ns.map V.int) ∧ ns.length ≤ 63 ∧ Tabs (T41 PR) H ∧ ∀ H', Q (.bl true) H'
section
variable {P : Program} {w : World} {K : PySem.W.Frag} {mg : Str → Option Value} {base : Heap} {f : Addr} {fd : FuncData}
abbrev s_law : Stmt := top 44
theorem sc_law : FnScope ["script", "place"] ["script"] (defScope s_law) := ⟨rfl, rfl, rfl, by decide +kernel, rfl, by decide +kernel, by decide +kernel⟩
theorem ok_law {PR : Addr} (F : Fun K "law" "law" s_law f fd) (T : LTx mg) (G_law_cells : Fd P w K mg base CX0 "_law_cells" 1 ["script", "limit"] (spCells K)) (G_law_pot : Fd P w K mg base CX0 "_law_pot" 1 ["script", "place"] (spPot K)) (G_law_right : FdG P w K mg base CX0 "_law_right" 20 ["pot"] (spRightT PR)) : FnOkG P w K mg base CX0 21 f fd ["script"] (spLawT K PR) := by
  refine fun_okG F sc_law (fun vs H Q E h => ?_) (fun cdv A outer s H vs Q E hr hgu h => ?_)
  · obtain ⟨a, ns, rfl, _⟩ := h
    rfl
  obtain ⟨a, ns, rfl, hS, hl, hT, k⟩ := h
  refine ⟨_, (pss_one (ps_ret (pe_callB (cr_all rfl) rfl T.all (by decide +kernel) (pa_cons (pe_lc (own := [("place", 1)]) (g := (gName 1)) (tt := tYes) rfl sc_law.nd (pi_list (pe_fd G_law_cells (hr.mono (by first | decide | omega)) rfl (pa_cons (pv 0) (pa_cons pe_int pa_nil)))) (blkOk_by (own := [("place", 1)]) (N := ["script", "place"]) (sc := defScope s_law) (by decide +kernel)) (fun _ _ _ _ _ => (pg_name (i := 1) sc_law.nd rfl (Or.inl rfl))) (fun _ _ _ _ _ => pts_nil) (fun _ _ _ _ _ => (pe_fdG G_law_right hr hgu rfl (pa_cons (pe_fd G_law_pot (hr.mono (by decide)) rfl (pa_cons (pv 0) (pa_cons (pv 1) pa_nil))) pa_nil)))) pa_nil)))), ?_⟩
  refine ⟨_, rfl, a, ns, 3, rfl, hS, hl, by decide, fun l H1 n hn g1 hl0 hl1 => ?_⟩
  refine ⟨l, rfl, ⟨_, .of hl1⟩, fun D hD => ?_⟩
  have hlen : ((List.range n).map fun i => V.int (i : Nat)).length = n := by simp
  have gD := same_new hD (.lst [])
  refine lc_list (K := K) (a := l) (xs := (List.range n).map fun i => V.int (i : Nat)) (fun i H' => ExtN H1 H' ∧ Tabs (T41 PR) H' ∧ H' D = some (.lst ((List.replicate i true).map V.bl))) ⟨extN_same gD, Tabs.same hT (g1.trans gD), upd_same⟩ (fun i H' _ z => .of (z.1 _ _ hl1 (fun _ z => (by cases z)))) ?_ ?_
  · rintro i x Hi hx ⟨gi, Ti, hDi⟩
    have hi : i < n := by have := get_lt hx; rw [hlen] at this; exact this
    have hx' : x = .int (i : Nat) := by
      rw [List.getElem?_map, List.getElem?_range hi] at hx
      exact (Option.some.inj hx).symm
    subst hx'
    refine ⟨rfl, _, rfl, _, rfl, a, ns, i, rfl, ExtN.seq gi (g1.seq hS), hl, by omega, fun lp H3 g3 hlp hP => ?_⟩
    have lpD : D ≠ lp := ne_of_none hDi hlp
    refine ⟨lp, rfl, hP, Tabs.same Ti g3, fun H4 g4 T4 => ?_⟩
    have h4 : H4 D = some (.lst ((List.replicate i true).map V.bl)) := g4 _ _ (by simpa using lpD) (g3 _ _ hDi) (fun _ z => (by cases z))
    refine ⟨_, h4, Nat.lt_of_le_of_lt (show _ ≤ 1000 by rw [List.length_map, List.length_replicate]; omega) (by decide), ext_put hD fun b o q nt => ?_, ?_, ?_⟩
    · have q2 := gi b o q nt
      exact g4 _ _ (by simpa using ne_of_none q2 hlp) (g3 _ _ q2) nt
    · exact Tabs.but T4 ((But.refl _ _).put (S := [D]) (by simp)) fun x hx o q => by
        rw [List.mem_singleton.mp hx, h4] at q
        cases q
        exact ⟨fun _ z => (by cases z), fun _ z => (by cases z)⟩
    · rw [upd_same, List.replicate_succ', List.map_append]
      rfl
  · rintro Hi ⟨gi, Ti, hDi⟩
    refine ⟨D, List.replicate ((List.range n).map fun i => V.int (i : Nat)).length true, rfl, .of hDi, ?_⟩
    rw [show (List.replicate ((List.range n).map fun i => V.int (i : Nat)).length true).all id = true by simp]
    exact k Hi
end
end Fp
namespace Fp
open PySem PySem.Spec PyProof.Rows L2
theorem all_mk {l : PySem.W.OpenLaw} {w : World} {K : PySem.W.Frag} {h : Heap} {mg : Str → Option Value} {fa : Addr} (X : K.In h) (G : h.Ns mainGlobals mg) (hfa : mg "law" = some (.ref fa))
    {od_is_whole an_is_whole : Option Addr} {sl_is_whole : Array (Option Value)} {oc_is_whole kV_is_whole dc_is_whole pm_is_whole cd_is_whole ct_is_whole : Value} {f_is_whole : Addr}
    (a_is_whole : PySem.W.nsIn K mainGlobals "is_whole" = some (some (.ref f_is_whole)))
    (l_is_whole : K.lookup f_is_whole = some ⟨oc_is_whole, od_is_whole, .func (PySem.W.fnOf "is_whole" "is_whole" (defArgs s_is_whole) (defBody s_is_whole) (defScope s_is_whole) .none kV_is_whole dc_is_whole pm_is_whole an_is_whole cd_is_whole ct_is_whole), sl_is_whole⟩)
    (c_is_whole : PySem.W.codeIn K cd_is_whole "is_whole" = true)
    (k_is_whole : PySem.W.keepIn K (.ref f_is_whole) = true)
    {od_is_lot an_is_lot : Option Addr} {sl_is_lot : Array (Option Value)} {oc_is_lot kV_is_lot dc_is_lot pm_is_lot cd_is_lot ct_is_lot : Value} {f_is_lot : Addr}
    (a_is_lot : PySem.W.nsIn K mainGlobals "is_lot" = some (some (.ref f_is_lot)))
    (l_is_lot : K.lookup f_is_lot = some ⟨oc_is_lot, od_is_lot, .func (PySem.W.fnOf "is_lot" "is_lot" (defArgs s_is_lot) (defBody s_is_lot) (defScope s_is_lot) .none kV_is_lot dc_is_lot pm_is_lot an_is_lot cd_is_lot ct_is_lot), sl_is_lot⟩)
    (c_is_lot : PySem.W.codeIn K cd_is_lot "is_lot" = true)
    (k_is_lot : PySem.W.keepIn K (.ref f_is_lot) = true)
    {od_lot_of an_lot_of : Option Addr} {sl_lot_of : Array (Option Value)} {oc_lot_of kV_lot_of dc_lot_of pm_lot_of cd_lot_of ct_lot_of : Value} {f_lot_of : Addr}
    (a_lot_of : PySem.W.nsIn K mainGlobals "lot_of" = some (some (.ref f_lot_of)))
    (l_lot_of : K.lookup f_lot_of = some ⟨oc_lot_of, od_lot_of, .func (PySem.W.fnOf "lot_of" "lot_of" (defArgs s_lot_of) (defBody s_lot_of) (defScope s_lot_of) .none kV_lot_of dc_lot_of pm_lot_of an_lot_of cd_lot_of ct_lot_of), sl_lot_of⟩)
    (c_lot_of : PySem.W.codeIn K cd_lot_of "lot_of" = true)
    (k_lot_of : PySem.W.keepIn K (.ref f_lot_of) = true)
    {od_lies_in an_lies_in : Option Addr} {sl_lies_in : Array (Option Value)} {oc_lies_in kV_lies_in dc_lies_in pm_lies_in cd_lies_in ct_lies_in : Value} {f_lies_in : Addr}
    (a_lies_in : PySem.W.nsIn K mainGlobals "lies_in" = some (some (.ref f_lies_in)))
    (l_lies_in : K.lookup f_lies_in = some ⟨oc_lies_in, od_lies_in, .func (PySem.W.fnOf "lies_in" "lies_in" (defArgs s_lies_in) (defBody s_lies_in) (defScope s_lies_in) .none kV_lies_in dc_lies_in pm_lies_in an_lies_in cd_lies_in ct_lies_in), sl_lies_in⟩)
    (c_lies_in : PySem.W.codeIn K cd_lies_in "lies_in" = true)
    (k_lies_in : PySem.W.keepIn K (.ref f_lies_in) = true)
    {od_exchanged an_exchanged : Option Addr} {sl_exchanged : Array (Option Value)} {oc_exchanged kV_exchanged dc_exchanged pm_exchanged cd_exchanged ct_exchanged : Value} {f_exchanged : Addr}
    (a_exchanged : PySem.W.nsIn K mainGlobals "exchanged" = some (some (.ref f_exchanged)))
    (l_exchanged : K.lookup f_exchanged = some ⟨oc_exchanged, od_exchanged, .func (PySem.W.fnOf "exchanged" "exchanged" (defArgs s_exchanged) (defBody s_exchanged) (defScope s_exchanged) .none kV_exchanged dc_exchanged pm_exchanged an_exchanged cd_exchanged ct_exchanged), sl_exchanged⟩)
    (c_exchanged : PySem.W.codeIn K cd_exchanged "exchanged" = true)
    (k_exchanged : PySem.W.keepIn K (.ref f_exchanged) = true)
    {od_check_many an_check_many : Option Addr} {sl_check_many : Array (Option Value)} {oc_check_many kV_check_many dc_check_many pm_check_many cd_check_many ct_check_many : Value} {f_check_many : Addr}
    (a_check_many : PySem.W.nsIn K mainGlobals "check_many" = some (some (.ref f_check_many)))
    (l_check_many : K.lookup f_check_many = some ⟨oc_check_many, od_check_many, .func (PySem.W.fnOf "check_many" "check_many" (defArgs s_check_many) (defBody s_check_many) (defScope s_check_many) .none kV_check_many dc_check_many pm_check_many an_check_many cd_check_many ct_check_many), sl_check_many⟩)
    (c_check_many : PySem.W.codeIn K cd_check_many "check_many" = true)
    (k_check_many : PySem.W.keepIn K (.ref f_check_many) = true)
    {od_is_at_once an_is_at_once : Option Addr} {sl_is_at_once : Array (Option Value)} {oc_is_at_once kV_is_at_once dc_is_at_once pm_is_at_once cd_is_at_once ct_is_at_once : Value} {f_is_at_once : Addr}
    (a_is_at_once : PySem.W.nsIn K mainGlobals "is_at_once" = some (some (.ref f_is_at_once)))
    (l_is_at_once : K.lookup f_is_at_once = some ⟨oc_is_at_once, od_is_at_once, .func (PySem.W.fnOf "is_at_once" "is_at_once" (defArgs s_is_at_once) (defBody s_is_at_once) (defScope s_is_at_once) .none kV_is_at_once dc_is_at_once pm_is_at_once an_is_at_once cd_is_at_once ct_is_at_once), sl_is_at_once⟩)
    (c_is_at_once : PySem.W.codeIn K cd_is_at_once "is_at_once" = true)
    (k_is_at_once : PySem.W.keepIn K (.ref f_is_at_once) = true)
    {od_is_view an_is_view : Option Addr} {sl_is_view : Array (Option Value)} {oc_is_view kV_is_view dc_is_view pm_is_view cd_is_view ct_is_view : Value} {f_is_view : Addr}
    (a_is_view : PySem.W.nsIn K mainGlobals "is_view" = some (some (.ref f_is_view)))
    (l_is_view : K.lookup f_is_view = some ⟨oc_is_view, od_is_view, .func (PySem.W.fnOf "is_view" "is_view" (defArgs s_is_view) (defBody s_is_view) (defScope s_is_view) .none kV_is_view dc_is_view pm_is_view an_is_view cd_is_view ct_is_view), sl_is_view⟩)
    (c_is_view : PySem.W.codeIn K cd_is_view "is_view" = true)
    (k_is_view : PySem.W.keepIn K (.ref f_is_view) = true)
    {od_fit an_fit : Option Addr} {sl_fit : Array (Option Value)} {oc_fit kV_fit dc_fit pm_fit cd_fit ct_fit : Value} {f_fit : Addr}
    (a_fit : PySem.W.nsIn K mainGlobals "fit" = some (some (.ref f_fit)))
    (l_fit : K.lookup f_fit = some ⟨oc_fit, od_fit, .func (PySem.W.fnOf "fit" "fit" (defArgs s_fit) (defBody s_fit) (defScope s_fit) .none kV_fit dc_fit pm_fit an_fit cd_fit ct_fit), sl_fit⟩)
    (c_fit : PySem.W.codeIn K cd_fit "fit" = true)
    (k_fit : PySem.W.keepIn K (.ref f_fit) = true)
    {od_is_whole_row an_is_whole_row : Option Addr} {sl_is_whole_row : Array (Option Value)} {oc_is_whole_row kV_is_whole_row dc_is_whole_row pm_is_whole_row cd_is_whole_row ct_is_whole_row : Value} {f_is_whole_row : Addr}
    (a_is_whole_row : PySem.W.nsIn K mainGlobals "is_whole_row" = some (some (.ref f_is_whole_row)))
    (l_is_whole_row : K.lookup f_is_whole_row = some ⟨oc_is_whole_row, od_is_whole_row, .func (PySem.W.fnOf "is_whole_row" "is_whole_row" (defArgs s_is_whole_row) (defBody s_is_whole_row) (defScope s_is_whole_row) .none kV_is_whole_row dc_is_whole_row pm_is_whole_row an_is_whole_row cd_is_whole_row ct_is_whole_row), sl_is_whole_row⟩)
    (c_is_whole_row : PySem.W.codeIn K cd_is_whole_row "is_whole_row" = true)
    (k_is_whole_row : PySem.W.keepIn K (.ref f_is_whole_row) = true)
    {od_weaving_to an_weaving_to : Option Addr} {sl_weaving_to : Array (Option Value)} {oc_weaving_to kV_weaving_to dc_weaving_to pm_weaving_to cd_weaving_to ct_weaving_to : Value} {f_weaving_to : Addr}
    (a_weaving_to : PySem.W.nsIn K mainGlobals "weaving_to" = some (some (.ref f_weaving_to)))
    (l_weaving_to : K.lookup f_weaving_to = some ⟨oc_weaving_to, od_weaving_to, .func (PySem.W.fnOf "weaving_to" "weaving_to" (defArgs s_weaving_to) (defBody s_weaving_to) (defScope s_weaving_to) .none kV_weaving_to dc_weaving_to pm_weaving_to an_weaving_to cd_weaving_to ct_weaving_to), sl_weaving_to⟩)
    (c_weaving_to : PySem.W.codeIn K cd_weaving_to "weaving_to" = true)
    (k_weaving_to : PySem.W.keepIn K (.ref f_weaving_to) = true)
    {od_number_of an_number_of : Option Addr} {sl_number_of : Array (Option Value)} {oc_number_of kV_number_of dc_number_of pm_number_of cd_number_of ct_number_of : Value} {f_number_of : Addr}
    (a_number_of : PySem.W.nsIn K mainGlobals "number_of" = some (some (.ref f_number_of)))
    (l_number_of : K.lookup f_number_of = some ⟨oc_number_of, od_number_of, .func (PySem.W.fnOf "number_of" "number_of" (defArgs s_number_of) (defBody s_number_of) (defScope s_number_of) .none kV_number_of dc_number_of pm_number_of an_number_of cd_number_of ct_number_of), sl_number_of⟩)
    (c_number_of : PySem.W.codeIn K cd_number_of "number_of" = true)
    (k_number_of : PySem.W.keepIn K (.ref f_number_of) = true)
    {od_chain an_chain : Option Addr} {sl_chain : Array (Option Value)} {oc_chain kV_chain dc_chain pm_chain cd_chain ct_chain : Value} {f_chain : Addr}
    (a_chain : PySem.W.nsIn K mainGlobals "chain" = some (some (.ref f_chain)))
    (l_chain : K.lookup f_chain = some ⟨oc_chain, od_chain, .func (PySem.W.fnOf "chain" "chain" (defArgs s_chain) (defBody s_chain) (defScope s_chain) .none kV_chain dc_chain pm_chain an_chain cd_chain ct_chain), sl_chain⟩)
    (c_chain : PySem.W.codeIn K cd_chain "chain" = true)
    (k_chain : PySem.W.keepIn K (.ref f_chain) = true)
    {od_way_to_all an_way_to_all : Option Addr} {sl_way_to_all : Array (Option Value)} {oc_way_to_all kV_way_to_all dc_way_to_all pm_way_to_all cd_way_to_all ct_way_to_all : Value} {f_way_to_all : Addr}
    (a_way_to_all : PySem.W.nsIn K mainGlobals "way_to_all" = some (some (.ref f_way_to_all)))
    (l_way_to_all : K.lookup f_way_to_all = some ⟨oc_way_to_all, od_way_to_all, .func (PySem.W.fnOf "way_to_all" "way_to_all" (defArgs s_way_to_all) (defBody s_way_to_all) (defScope s_way_to_all) .none kV_way_to_all dc_way_to_all pm_way_to_all an_way_to_all cd_way_to_all ct_way_to_all), sl_way_to_all⟩)
    (c_way_to_all : PySem.W.codeIn K cd_way_to_all "way_to_all" = true)
    (k_way_to_all : PySem.W.keepIn K (.ref f_way_to_all) = true)
    {od_check_ends an_check_ends : Option Addr} {sl_check_ends : Array (Option Value)} {oc_check_ends kV_check_ends dc_check_ends pm_check_ends cd_check_ends ct_check_ends : Value} {f_check_ends : Addr}
    (a_check_ends : PySem.W.nsIn K mainGlobals "check_ends" = some (some (.ref f_check_ends)))
    (l_check_ends : K.lookup f_check_ends = some ⟨oc_check_ends, od_check_ends, .func (PySem.W.fnOf "check_ends" "check_ends" (defArgs s_check_ends) (defBody s_check_ends) (defScope s_check_ends) .none kV_check_ends dc_check_ends pm_check_ends an_check_ends cd_check_ends ct_check_ends), sl_check_ends⟩)
    (c_check_ends : PySem.W.codeIn K cd_check_ends "check_ends" = true)
    (k_check_ends : PySem.W.keepIn K (.ref f_check_ends) = true)
    {od_law_pot an_law_pot : Option Addr} {sl_law_pot : Array (Option Value)} {oc_law_pot kV_law_pot dc_law_pot pm_law_pot cd_law_pot ct_law_pot : Value} {f_law_pot : Addr}
    (a_law_pot : PySem.W.nsIn K mainGlobals "_law_pot" = some (some (.ref f_law_pot)))
    (l_law_pot : K.lookup f_law_pot = some ⟨oc_law_pot, od_law_pot, .func (PySem.W.fnOf "_law_pot" "_law_pot" (defArgs s_law_pot) (defBody s_law_pot) (defScope s_law_pot) .none kV_law_pot dc_law_pot pm_law_pot an_law_pot cd_law_pot ct_law_pot), sl_law_pot⟩)
    (c_law_pot : PySem.W.codeIn K cd_law_pot "_law_pot" = true)
    (k_law_pot : PySem.W.keepIn K (.ref f_law_pot) = true)
    {od_law_take an_law_take : Option Addr} {sl_law_take : Array (Option Value)} {oc_law_take kV_law_take dc_law_take pm_law_take cd_law_take ct_law_take : Value} {f_law_take : Addr}
    (a_law_take : PySem.W.nsIn K mainGlobals "_law_take" = some (some (.ref f_law_take)))
    (l_law_take : K.lookup f_law_take = some ⟨oc_law_take, od_law_take, .func (PySem.W.fnOf "_law_take" "_law_take" (defArgs s_law_take) (defBody s_law_take) (defScope s_law_take) .none kV_law_take dc_law_take pm_law_take an_law_take cd_law_take ct_law_take), sl_law_take⟩)
    (c_law_take : PySem.W.codeIn K cd_law_take "_law_take" = true)
    (k_law_take : PySem.W.keepIn K (.ref f_law_take) = true)
    {od_law_of an_law_of : Option Addr} {sl_law_of : Array (Option Value)} {oc_law_of kV_law_of dc_law_of pm_law_of cd_law_of ct_law_of : Value} {f_law_of : Addr}
    (a_law_of : PySem.W.nsIn K mainGlobals "_law_of" = some (some (.ref f_law_of)))
    (l_law_of : K.lookup f_law_of = some ⟨oc_law_of, od_law_of, .func (PySem.W.fnOf "_law_of" "_law_of" (defArgs s_law_of) (defBody s_law_of) (defScope s_law_of) .none kV_law_of dc_law_of pm_law_of an_law_of cd_law_of ct_law_of), sl_law_of⟩)
    (c_law_of : PySem.W.codeIn K cd_law_of "_law_of" = true)
    (k_law_of : PySem.W.keepIn K (.ref f_law_of) = true)
    {od_law_some an_law_some : Option Addr} {sl_law_some : Array (Option Value)} {oc_law_some kV_law_some dc_law_some pm_law_some cd_law_some ct_law_some : Value} {f_law_some : Addr}
    (a_law_some : PySem.W.nsIn K mainGlobals "_law_some" = some (some (.ref f_law_some)))
    (l_law_some : K.lookup f_law_some = some ⟨oc_law_some, od_law_some, .func (PySem.W.fnOf "_law_some" "_law_some" (defArgs s_law_some) (defBody s_law_some) (defScope s_law_some) .none kV_law_some dc_law_some pm_law_some an_law_some cd_law_some ct_law_some), sl_law_some⟩)
    (c_law_some : PySem.W.codeIn K cd_law_some "_law_some" = true)
    (k_law_some : PySem.W.keepIn K (.ref f_law_some) = true)
    {od_law_cells an_law_cells : Option Addr} {sl_law_cells : Array (Option Value)} {oc_law_cells kV_law_cells dc_law_cells pm_law_cells cd_law_cells ct_law_cells : Value} {f_law_cells : Addr}
    (a_law_cells : PySem.W.nsIn K mainGlobals "_law_cells" = some (some (.ref f_law_cells)))
    (l_law_cells : K.lookup f_law_cells = some ⟨oc_law_cells, od_law_cells, .func (PySem.W.fnOf "_law_cells" "_law_cells" (defArgs s_law_cells) (defBody s_law_cells) (defScope s_law_cells) .none kV_law_cells dc_law_cells pm_law_cells an_law_cells cd_law_cells ct_law_cells), sl_law_cells⟩)
    (c_law_cells : PySem.W.codeIn K cd_law_cells "_law_cells" = true)
    (k_law_cells : PySem.W.keepIn K (.ref f_law_cells) = true)
    {od_law_odd an_law_odd : Option Addr} {sl_law_odd : Array (Option Value)} {oc_law_odd kV_law_odd dc_law_odd pm_law_odd cd_law_odd ct_law_odd : Value} {f_law_odd : Addr}
    (a_law_odd : PySem.W.nsIn K mainGlobals "_law_odd" = some (some (.ref f_law_odd)))
    (l_law_odd : K.lookup f_law_odd = some ⟨oc_law_odd, od_law_odd, .func (PySem.W.fnOf "_law_odd" "_law_odd" (defArgs s_law_odd) (defBody s_law_odd) (defScope s_law_odd) .none kV_law_odd dc_law_odd pm_law_odd an_law_odd cd_law_odd ct_law_odd), sl_law_odd⟩)
    (c_law_odd : PySem.W.codeIn K cd_law_odd "_law_odd" = true)
    (k_law_odd : PySem.W.keepIn K (.ref f_law_odd) = true)
    {od_law_bent an_law_bent : Option Addr} {sl_law_bent : Array (Option Value)} {oc_law_bent kV_law_bent dc_law_bent pm_law_bent cd_law_bent ct_law_bent : Value} {f_law_bent : Addr}
    (a_law_bent : PySem.W.nsIn K mainGlobals "_law_bent" = some (some (.ref f_law_bent)))
    (l_law_bent : K.lookup f_law_bent = some ⟨oc_law_bent, od_law_bent, .func (PySem.W.fnOf "_law_bent" "_law_bent" (defArgs s_law_bent) (defBody s_law_bent) (defScope s_law_bent) .none kV_law_bent dc_law_bent pm_law_bent an_law_bent cd_law_bent ct_law_bent), sl_law_bent⟩)
    (c_law_bent : PySem.W.codeIn K cd_law_bent "_law_bent" = true)
    (k_law_bent : PySem.W.keepIn K (.ref f_law_bent) = true)
    {od_law_caught an_law_caught : Option Addr} {sl_law_caught : Array (Option Value)} {oc_law_caught kV_law_caught dc_law_caught pm_law_caught cd_law_caught ct_law_caught : Value} {f_law_caught : Addr}
    (a_law_caught : PySem.W.nsIn K mainGlobals "_law_caught" = some (some (.ref f_law_caught)))
    (l_law_caught : K.lookup f_law_caught = some ⟨oc_law_caught, od_law_caught, .func (PySem.W.fnOf "_law_caught" "_law_caught" (defArgs s_law_caught) (defBody s_law_caught) (defScope s_law_caught) .none kV_law_caught dc_law_caught pm_law_caught an_law_caught cd_law_caught ct_law_caught), sl_law_caught⟩)
    (c_law_caught : PySem.W.codeIn K cd_law_caught "_law_caught" = true)
    (k_law_caught : PySem.W.keepIn K (.ref f_law_caught) = true)
    {od_law_int an_law_int : Option Addr} {sl_law_int : Array (Option Value)} {oc_law_int kV_law_int dc_law_int pm_law_int cd_law_int ct_law_int : Value} {f_law_int : Addr}
    (a_law_int : PySem.W.nsIn K mainGlobals "_law_int" = some (some (.ref f_law_int)))
    (l_law_int : K.lookup f_law_int = some ⟨oc_law_int, od_law_int, .func (PySem.W.fnOf "_law_int" "_law_int" (defArgs s_law_int) (defBody s_law_int) (defScope s_law_int) .none kV_law_int dc_law_int pm_law_int an_law_int cd_law_int ct_law_int), sl_law_int⟩)
    (c_law_int : PySem.W.codeIn K cd_law_int "_law_int" = true)
    (k_law_int : PySem.W.keepIn K (.ref f_law_int) = true)
    {od_law_is_lot_of an_law_is_lot_of : Option Addr} {sl_law_is_lot_of : Array (Option Value)} {oc_law_is_lot_of kV_law_is_lot_of dc_law_is_lot_of pm_law_is_lot_of cd_law_is_lot_of ct_law_is_lot_of : Value} {f_law_is_lot_of : Addr}
    (a_law_is_lot_of : PySem.W.nsIn K mainGlobals "_law_is_lot_of" = some (some (.ref f_law_is_lot_of)))
    (l_law_is_lot_of : K.lookup f_law_is_lot_of = some ⟨oc_law_is_lot_of, od_law_is_lot_of, .func (PySem.W.fnOf "_law_is_lot_of" "_law_is_lot_of" (defArgs s_law_is_lot_of) (defBody s_law_is_lot_of) (defScope s_law_is_lot_of) .none kV_law_is_lot_of dc_law_is_lot_of pm_law_is_lot_of an_law_is_lot_of cd_law_is_lot_of ct_law_is_lot_of), sl_law_is_lot_of⟩)
    (c_law_is_lot_of : PySem.W.codeIn K cd_law_is_lot_of "_law_is_lot_of" = true)
    (k_law_is_lot_of : PySem.W.keepIn K (.ref f_law_is_lot_of) = true)
    {od_law_is_row an_law_is_row : Option Addr} {sl_law_is_row : Array (Option Value)} {oc_law_is_row kV_law_is_row dc_law_is_row pm_law_is_row cd_law_is_row ct_law_is_row : Value} {f_law_is_row : Addr}
    (a_law_is_row : PySem.W.nsIn K mainGlobals "_law_is_row" = some (some (.ref f_law_is_row)))
    (l_law_is_row : K.lookup f_law_is_row = some ⟨oc_law_is_row, od_law_is_row, .func (PySem.W.fnOf "_law_is_row" "_law_is_row" (defArgs s_law_is_row) (defBody s_law_is_row) (defScope s_law_is_row) .none kV_law_is_row dc_law_is_row pm_law_is_row an_law_is_row cd_law_is_row ct_law_is_row), sl_law_is_row⟩)
    (c_law_is_row : PySem.W.codeIn K cd_law_is_row "_law_is_row" = true)
    (k_law_is_row : PySem.W.keepIn K (.ref f_law_is_row) = true)
    {od_law_drawn_row an_law_drawn_row : Option Addr} {sl_law_drawn_row : Array (Option Value)} {oc_law_drawn_row kV_law_drawn_row dc_law_drawn_row pm_law_drawn_row cd_law_drawn_row ct_law_drawn_row : Value} {f_law_drawn_row : Addr}
    (a_law_drawn_row : PySem.W.nsIn K mainGlobals "_law_drawn_row" = some (some (.ref f_law_drawn_row)))
    (l_law_drawn_row : K.lookup f_law_drawn_row = some ⟨oc_law_drawn_row, od_law_drawn_row, .func (PySem.W.fnOf "_law_drawn_row" "_law_drawn_row" (defArgs s_law_drawn_row) (defBody s_law_drawn_row) (defScope s_law_drawn_row) .none kV_law_drawn_row dc_law_drawn_row pm_law_drawn_row an_law_drawn_row cd_law_drawn_row ct_law_drawn_row), sl_law_drawn_row⟩)
    (c_law_drawn_row : PySem.W.codeIn K cd_law_drawn_row "_law_drawn_row" = true)
    (k_law_drawn_row : PySem.W.keepIn K (.ref f_law_drawn_row) = true)
    {od_law_near an_law_near : Option Addr} {sl_law_near : Array (Option Value)} {oc_law_near kV_law_near dc_law_near pm_law_near cd_law_near ct_law_near : Value} {f_law_near : Addr}
    (a_law_near : PySem.W.nsIn K mainGlobals "_law_near" = some (some (.ref f_law_near)))
    (l_law_near : K.lookup f_law_near = some ⟨oc_law_near, od_law_near, .func (PySem.W.fnOf "_law_near" "_law_near" (defArgs s_law_near) (defBody s_law_near) (defScope s_law_near) .none kV_law_near dc_law_near pm_law_near an_law_near cd_law_near ct_law_near), sl_law_near⟩)
    (c_law_near : PySem.W.codeIn K cd_law_near "_law_near" = true)
    (k_law_near : PySem.W.keepIn K (.ref f_law_near) = true)
    {od_law_right an_law_right : Option Addr} {sl_law_right : Array (Option Value)} {oc_law_right kV_law_right dc_law_right pm_law_right cd_law_right ct_law_right : Value} {f_law_right : Addr}
    (a_law_right : PySem.W.nsIn K mainGlobals "_law_right" = some (some (.ref f_law_right)))
    (l_law_right : K.lookup f_law_right = some ⟨oc_law_right, od_law_right, .func (PySem.W.fnOf "_law_right" "_law_right" (defArgs s_law_right) (defBody s_law_right) (defScope s_law_right) .none kV_law_right dc_law_right pm_law_right an_law_right cd_law_right ct_law_right), sl_law_right⟩)
    (c_law_right : PySem.W.codeIn K cd_law_right "_law_right" = true)
    (k_law_right : PySem.W.keepIn K (.ref f_law_right) = true)
    {od_law an_law : Option Addr} {sl_law : Array (Option Value)} {oc_law kV_law dc_law pm_law cd_law ct_law : Value} {f_law : Addr}
    (a_law : PySem.W.nsIn K mainGlobals "law" = some (some (.ref f_law)))
    (l_law : K.lookup f_law = some ⟨oc_law, od_law, .func (PySem.W.fnOf "law" "law" (defArgs s_law) (defBody s_law) (defScope s_law) .none kV_law dc_law pm_law an_law cd_law ct_law), sl_law⟩)
    (c_law : PySem.W.codeIn K cd_law "law" = true)
    (k_law : PySem.W.keepIn K (.ref f_law) = true)
    {C_HandError : Addr}
    (a_HandError : PySem.W.nsIn K mainGlobals "HandError" = some (some (.ref C_HandError)))
    (eC_HandError : PySem.W.subIn K (.ref C_HandError) (.type "BaseException") = some true)
    (tC_HandError : PySem.W.typeIn K (.ref C_HandError) = some (.type "type"))
    {od_HandError_init an_HandError_init : Option Addr} {sl_HandError_init : Array (Option Value)} {oc_HandError_init kV_HandError_init dc_HandError_init pm_HandError_init cd_HandError_init ct_HandError_init : Value} {f_HandError_init : Addr}
    {C_BadRow N_BadRow : Addr} {nm_BadRow q_BadRow : Str} {bs_BadRow bm_BadRow sub_BadRow : List Value} {sn_BadRow : List Str} {ab_BadRow : Bool} {col_BadRow : Option Bool} {dd_BadRow : Option Addr} {m0_BadRow m1_BadRow m2_BadRow m3_BadRow m5_BadRow : Option Value}
    (a_BadRow : PySem.W.nsIn K mainGlobals "BadRow" = some (some (.ref C_BadRow)))
    (x_BadRow : K.lookup C_BadRow = some (PySem.excClassObj nm_BadRow q_BadRow C_BadRow N_BadRow bs_BadRow bm_BadRow true sn_BadRow sub_BadRow ab_BadRow col_BadRow dd_BadRow m0_BadRow m1_BadRow m2_BadRow m3_BadRow m5_BadRow "ValueError.__new__"))
    (rv_BadRow : PySem.HandSPX.refsVE bm_BadRow = true)
    (sa_BadRow : PySem.W.findIn K (.ref C_BadRow) "__setattr__" = some (some (.builtin "object.__setattr__")))
    (ga_BadRow : PySem.W.findIn K (.ref C_BadRow) "__getattribute__" = some (some (.builtin "BaseException.__getattribute__")))
    (gg_BadRow : PySem.W.findIn K (.ref C_BadRow) "__getattr__" = some none)
    (nv_BadRow : PySem.W.findIn K (.ref C_BadRow) "value" = some none)
    (in_BadRow : PySem.W.findIn K (.ref C_BadRow) "__init__" = some (some (.ref f_HandError_init)))
    (cc_BadRow : PySem.W.findIn K (.ref C_BadRow) "__class__" = some (some (.builtin "object.__class__")))
    (kC_BadRow : PySem.W.keepIn K (.ref C_BadRow) = true)
    (eC_BadRow : PySem.W.subIn K (.ref C_BadRow) (.type "BaseException") = some true)
    (tC_BadRow : PySem.W.typeIn K (.ref C_BadRow) = some (.type "type"))
    (hC_BadRow : PySem.W.hasDictIn K C_BadRow = true)
    (mr_BadRow : PySem.W.mroIn K C_BadRow (.type "object") = some true)
    (l_HandError_init : K.lookup f_HandError_init = some ⟨oc_HandError_init, od_HandError_init, .func (PySem.W.fnOf "__init__" "HandError.__init__" (defArgs s_HandError_init) (defBody s_HandError_init) (defScope s_HandError_init) .none kV_HandError_init dc_HandError_init pm_HandError_init an_HandError_init cd_HandError_init ct_HandError_init), sl_HandError_init⟩)
    (c_HandError_init : PySem.W.codeIn K cd_HandError_init "HandError.__init__" = true)
    (k_HandError_init : PySem.W.keepIn K (.ref f_HandError_init) = true)
    (ti_HandError_init : PySem.W.typeIn K (.ref f_HandError_init) = some (.type "function"))
    (hn : PySem.W.specialIn K (.builtin "object.__class__") "__get__" = some (some (.builtin "getset_descriptor.__get__")))
    (htk : PySem.W.takesIn K (.builtin "object.__class__") = some true)
    (eh_0 : PySem.W.exmOne K (.ref C_BadRow) (.ref C_HandError) = some true)
    {cR PR : Addr} {occ : Value} {odc : Option Addr} {vsc : Array Value} {slc : Array (Option Value)}
    (hcd : cd_law_right = .ref cR)
    (hco : K.lookup cR = some ⟨occ, odc, .fields vsc, slc⟩)
    (h11 : (vsc[11]? : Option Value) = some (.ref PR))
    (nT : K.lookup PR = none)
    (z_isinstance : PySem.W.nsIn K mainGlobals "isinstance" = some none)
    (z_int : PySem.W.nsIn K mainGlobals "int" = some none)
    (z_bool : PySem.W.nsIn K mainGlobals "bool" = some none)
    (z_tuple : PySem.W.nsIn K mainGlobals "tuple" = some none)
    (z_list : PySem.W.nsIn K mainGlobals "list" = some none)
    (z_all : PySem.W.nsIn K mainGlobals "all" = some none)
    (z_any : PySem.W.nsIn K mainGlobals "any" = some none)
    (z_len : PySem.W.nsIn K mainGlobals "len" = some none)
    (z_sum : PySem.W.nsIn K mainGlobals "sum" = some none)
    (z_abs : PySem.W.nsIn K mainGlobals "abs" = some none)
    (z_max : PySem.W.nsIn K mainGlobals "max" = some none)
    (z_min : PySem.W.nsIn K mainGlobals "min" = some none)
    (z_range : PySem.W.nsIn K mainGlobals "range" = some none)
    (z_repr : PySem.W.nsIn K mainGlobals "repr" = some none)
    (z_set : PySem.W.nsIn K mainGlobals "set" = some none)
    (z_sorted : PySem.W.nsIn K mainGlobals "sorted" = some none)
    (z_zip : PySem.W.nsIn K mainGlobals "zip" = some none)
    (z_enumerate : PySem.W.nsIn K mainGlobals "enumerate" = some none)
    (z_str : PySem.W.nsIn K mainGlobals "str" = some none)
    {t_MOST_HANDS : Tok}
    (v_MOST_HANDS : PySem.W.nsIn K mainGlobals "MOST_HANDS" = some (some (.int 5 t_MOST_HANDS))) :
    LawAtT l w K CX0 21 63 "script" ["_law_right"] mg fa := by
  have e := hfa.symm.trans (PySem.W.mg_of X G a_law)
  cases e
  have F_is_whole := fun_mk (st := s_is_whole) l_is_whole c_is_whole k_is_whole
  have b_is_whole := F_is_whole.binds (ps := ["value"]) fun _ _ _ _ _ _ us hl => match us, hl with | [_], _ => rfl
  have F_is_lot := fun_mk (st := s_is_lot) l_is_lot c_is_lot k_is_lot
  have b_is_lot := F_is_lot.binds (ps := ["value"]) fun _ _ _ _ _ _ us hl => match us, hl with | [_], _ => rfl
  have F_lot_of := fun_mk (st := s_lot_of) l_lot_of c_lot_of k_lot_of
  have b_lot_of := F_lot_of.binds (ps := ["words"]) fun _ _ _ _ _ _ us hl => match us, hl with | [_], _ => rfl
  have F_lies_in := fun_mk (st := s_lies_in) l_lies_in c_lies_in k_lies_in
  have b_lies_in := F_lies_in.binds (ps := ["lot", "other"]) fun _ _ _ _ _ _ us hl => match us, hl with | [_, _], _ => rfl
  have F_exchanged := fun_mk (st := s_exchanged) l_exchanged c_exchanged k_exchanged
  have b_exchanged := F_exchanged.binds (ps := ["row", "at", "thing"]) fun _ _ _ _ _ _ us hl => match us, hl with | [_, _, _], _ => rfl
  have F_check_many := fun_mk (st := s_check_many) l_check_many c_check_many k_check_many
  have b_check_many := F_check_many.binds (ps := ["many"]) fun _ _ _ _ _ _ us hl => match us, hl with | [_], _ => rfl
  have F_is_at_once := fun_mk (st := s_is_at_once) l_is_at_once c_is_at_once k_is_at_once
  have b_is_at_once := F_is_at_once.binds (ps := ["many", "value"]) fun _ _ _ _ _ _ us hl => match us, hl with | [_, _], _ => rfl
  have F_is_view := fun_mk (st := s_is_view) l_is_view c_is_view k_is_view
  have b_is_view := F_is_view.binds (ps := ["many", "hand", "value"]) fun _ _ _ _ _ _ us hl => match us, hl with | [_, _, _], _ => rfl
  have F_fit := fun_mk (st := s_fit) l_fit c_fit k_fit
  have b_fit := F_fit.binds (ps := ["one", "other"]) fun _ _ _ _ _ _ us hl => match us, hl with | [_, _], _ => rfl
  have F_is_whole_row := fun_mk (st := s_is_whole_row) l_is_whole_row c_is_whole_row k_is_whole_row
  have b_is_whole_row := F_is_whole_row.binds (ps := ["many", "value"]) fun _ _ _ _ _ _ us hl => match us, hl with | [_, _], _ => rfl
  have F_weaving_to := fun_mk (st := s_weaving_to) l_weaving_to c_weaving_to k_weaving_to
  have b_weaving_to := F_weaving_to.binds (ps := ["many", "row"]) fun _ _ _ _ _ _ us hl => match us, hl with | [_, _], _ => rfl
  have F_number_of := fun_mk (st := s_number_of) l_number_of c_number_of k_number_of
  have b_number_of := F_number_of.binds (ps := ["many", "row"]) fun _ _ _ _ _ _ us hl => match us, hl with | [_, _], _ => rfl
  have F_chain := fun_mk (st := s_chain) l_chain c_chain k_chain
  have b_chain := F_chain.binds (ps := ["many", "one", "other"]) fun _ _ _ _ _ _ us hl => match us, hl with | [_, _, _], _ => rfl
  have F_way_to_all := fun_mk (st := s_way_to_all) l_way_to_all c_way_to_all k_way_to_all
  have b_way_to_all := F_way_to_all.binds (ps := ["many", "row"]) fun _ _ _ _ _ _ us hl => match us, hl with | [_, _], _ => rfl
  have F_check_ends := fun_mk (st := s_check_ends) l_check_ends c_check_ends k_check_ends
  have b_check_ends := F_check_ends.binds (ps := ["many", "one", "other"]) fun _ _ _ _ _ _ us hl => match us, hl with | [_, _, _], _ => rfl
  have F_law_pot := fun_mk (st := s_law_pot) l_law_pot c_law_pot k_law_pot
  have b_law_pot := F_law_pot.binds (ps := ["script", "place"]) fun _ _ _ _ _ _ us hl => match us, hl with | [_, _], _ => rfl
  have F_law_take := fun_mk (st := s_law_take) l_law_take c_law_take k_law_take
  have b_law_take := F_law_take.binds (ps := ["pot", "upto"]) fun _ _ _ _ _ _ us hl => match us, hl with | [_, _], _ => rfl
  have F_law_of := fun_mk (st := s_law_of) l_law_of c_law_of k_law_of
  have b_law_of := F_law_of.binds (ps := ["pot", "some"]) fun _ _ _ _ _ _ us hl => match us, hl with | [_, _], _ => rfl
  have F_law_some := fun_mk (st := s_law_some) l_law_some c_law_some k_law_some
  have b_law_some := F_law_some.binds (ps := ["pot", "pool", "many"]) fun _ _ _ _ _ _ us hl => match us, hl with | [_, _, _], _ => rfl
  have F_law_cells := fun_mk (st := s_law_cells) l_law_cells c_law_cells k_law_cells
  have b_law_cells := F_law_cells.binds (ps := ["script", "limit"]) fun _ _ _ _ _ _ us hl => match us, hl with | [_, _], _ => rfl
  have F_law_odd := fun_mk (st := s_law_odd) l_law_odd c_law_odd k_law_odd
  have b_law_odd := F_law_odd.binds (ps := ["pot"]) fun _ _ _ _ _ _ us hl => match us, hl with | [_], _ => rfl
  have F_law_bent := fun_mk (st := s_law_bent) l_law_bent c_law_bent k_law_bent
  have b_law_bent := F_law_bent.binds (ps := ["pot", "value"]) fun _ _ _ _ _ _ us hl => match us, hl with | [_, _], _ => rfl
  have F_law_caught := fun_mk (st := s_law_caught) l_law_caught c_law_caught k_law_caught
  have b_law_caught := F_law_caught.binds (ps := ["look"]) fun _ _ _ _ _ _ us hl => match us, hl with | [_], _ => rfl
  have F_law_int := fun_mk (st := s_law_int) l_law_int c_law_int k_law_int
  have b_law_int := F_law_int.binds (ps := ["value", "low", "high"]) fun _ _ _ _ _ _ us hl => match us, hl with | [_, _, _], _ => rfl
  have F_law_is_lot_of := fun_mk (st := s_law_is_lot_of) l_law_is_lot_of c_law_is_lot_of k_law_is_lot_of
  have b_law_is_lot_of := F_law_is_lot_of.binds (ps := ["value", "many"]) fun _ _ _ _ _ _ us hl => match us, hl with | [_, _], _ => rfl
  have F_law_is_row := fun_mk (st := s_law_is_row) l_law_is_row c_law_is_row k_law_is_row
  have b_law_is_row := F_law_is_row.binds (ps := ["many", "value"]) fun _ _ _ _ _ _ us hl => match us, hl with | [_, _], _ => rfl
  have F_law_drawn_row := fun_mk (st := s_law_drawn_row) l_law_drawn_row c_law_drawn_row k_law_drawn_row
  have b_law_drawn_row := F_law_drawn_row.binds (ps := ["pot", "many", "is_whole_v"]) fun _ _ _ _ _ _ us hl => match us, hl with | [_, _, _], _ => rfl
  have F_law_near := fun_mk (st := s_law_near) l_law_near c_law_near k_law_near
  have b_law_near := F_law_near.binds (ps := ["pot", "many", "row"]) fun _ _ _ _ _ _ us hl => match us, hl with | [_, _, _], _ => rfl
  have F_law_right := fun_mk (st := s_law_right) l_law_right c_law_right k_law_right
  have b_law_right := F_law_right.binds (ps := ["pot"]) fun _ _ _ _ _ _ us hl => match us, hl with | [_], _ => rfl
  have F_law := fun_mk (st := s_law) l_law c_law k_law
  have b_law := F_law.binds (ps := ["script"]) fun _ _ _ _ _ _ us hl => match us, hl with | [_], _ => rfl
  have hTab : PySem.W.tabIn K "_law_right" = some (cR, PR) := by
    unfold PySem.W.tabIn
    rw [a_law_right]
    dsimp only
    rw [l_law_right]
    dsimp only [PySem.W.fnOf]
    rw [hcd]
    dsimp only
    rw [hco]
    dsimp only
    rw [h11]
  refine ⟨PySem.W.fnOf "law" "law" (defArgs s_law) (defBody s_law) (defScope s_law) .none kV_law dc_law pm_law an_law cd_law ct_law, [(cR, PR)], spLawT K PR, fun p hp => ⟨"_law_right", List.mem_singleton.mpr rfl, by rw [List.mem_singleton.mp hp]; exact hTab⟩, fun p hp => by rw [List.mem_singleton.mp hp]; exact nT, fun s v => .of_eq rfl,
    fun H a ns hl hH _ hS => ⟨a, ns, rfl, hS, hl, fun p hp => by rw [List.mem_singleton.mp hp]; exact LamX.TabS.nil (hH (cR, PR) (List.mem_singleton.mpr rfl)), fun _ => rfl⟩, fun base _ _ hTB => ?_⟩
  have F_HandError_init := fun_mk (st := s_HandError_init) l_HandError_init c_HandError_init k_HandError_init
  have b_HandError_init := F_HandError_init.binds (ps := ["self", "value"]) fun _ _ _ _ _ _ us hl => match us, hl with | [_, _], _ => rfl
  have T : RTx mg := ⟨(PySem.W.mg_none_of X G z_isinstance), (PySem.W.mg_none_of X G z_int), (PySem.W.mg_none_of X G z_bool), (PySem.W.mg_none_of X G z_tuple), (PySem.W.mg_none_of X G z_list), (PySem.W.mg_none_of X G z_all), (PySem.W.mg_none_of X G z_any), (PySem.W.mg_none_of X G z_len), (PySem.W.mg_none_of X G z_sum), (PySem.W.mg_none_of X G z_abs), (PySem.W.mg_none_of X G z_max), (PySem.W.mg_none_of X G z_min), (PySem.W.mg_none_of X G z_range), (PySem.W.mg_none_of X G z_repr), (PySem.W.mg_none_of X G z_set), (PySem.W.mg_none_of X G z_sorted), (PySem.W.mg_none_of X G z_zip), (PySem.W.mg_none_of X G z_enumerate), ⟨_, (PySem.W.mg_of X G v_MOST_HANDS)⟩⟩
  have LT : LTx mg := ⟨(PySem.W.mg_none_of X G z_len), (PySem.W.mg_none_of X G z_int), (PySem.W.mg_none_of X G z_sum), (PySem.W.mg_none_of X G z_abs), (PySem.W.mg_none_of X G z_list), (PySem.W.mg_none_of X G z_tuple), (PySem.W.mg_none_of X G z_range), (PySem.W.mg_none_of X G z_max), (PySem.W.mg_none_of X G z_min), (PySem.W.mg_none_of X G z_repr), (PySem.W.mg_none_of X G z_all), (PySem.W.mg_none_of X G z_enumerate)⟩
  have G_law_cells : Fd l.prog w K mg base CX0 "_law_cells" 1 ["script", "limit"] (spCells K) := ⟨_, _, (PySem.W.mg_of X G a_law_cells), k_law_cells, b_law_cells, ok_law_cells F_law_cells LT⟩
  have G_law_pot : Fd l.prog w K mg base CX0 "_law_pot" 1 ["script", "place"] (spPot K) := ⟨_, _, (PySem.W.mg_of X G a_law_pot), k_law_pot, b_law_pot, ok_law_pot F_law_pot LT⟩
  have G_law_take : Fd l.prog w K mg base CX0 "_law_take" 1 ["pot", "upto"] spTake := ⟨_, _, (PySem.W.mg_of X G a_law_take), k_law_take, b_law_take, ok_law_take F_law_take LT⟩
  have G_law_some : Fd l.prog w K mg base CX0 "_law_some" 2 ["pot", "pool", "many"] (spSome K) := ⟨_, _, (PySem.W.mg_of X G a_law_some), k_law_some, b_law_some, ok_law_some F_law_some LT G_law_take⟩
  have G_law_drawn_row : Fd l.prog w K mg base CX0 "_law_drawn_row" 3 ["pot", "many", "is_whole_v"] spDRow := ⟨_, _, (PySem.W.mg_of X G a_law_drawn_row), k_law_drawn_row, b_law_drawn_row, ok_law_drawn_row F_law_drawn_row T G_law_take G_law_some⟩
  have G_law_int : Fd l.prog w K mg base CX0 "_law_int" 1 ["value", "low", "high"] spIntD := ⟨_, _, (PySem.W.mg_of X G a_law_int), k_law_int, b_law_int, ok_law_int F_law_int T⟩
  have G_law_is_lot_of : Fd l.prog w K mg base CX0 "_law_is_lot_of" 2 ["value", "many"] spLotOfB := ⟨_, _, (PySem.W.mg_of X G a_law_is_lot_of), k_law_is_lot_of, b_law_is_lot_of, ok_law_is_lot_of F_law_is_lot_of T G_law_int⟩
  have G_law_is_row : Fd l.prog w K mg base CX0 "_law_is_row" 3 ["many", "value"] spLRowD := ⟨_, _, (PySem.W.mg_of X G a_law_is_row), k_law_is_row, b_law_is_row, ok_law_is_row F_law_is_row T G_law_is_lot_of⟩
  have G_is_whole : Fd l.prog w K mg base CX0 "is_whole" 1 ["value"] spWhD := ⟨_, _, (PySem.W.mg_of X G a_is_whole), k_is_whole, b_is_whole, ok_is_whole F_is_whole T⟩
  have G_check_many : Fd l.prog w K mg base CX0 "check_many" 2 ["many"] spChkD := ⟨_, _, (PySem.W.mg_of X G a_check_many), k_check_many, b_check_many, ok_check_many F_check_many T G_is_whole⟩
  have G_is_lot : Fd l.prog w K mg base CX0 "is_lot" 2 ["value"] spLotD := ⟨_, _, (PySem.W.mg_of X G a_is_lot), k_is_lot, b_is_lot, ok_is_lot F_is_lot T G_is_whole⟩
  have G_is_view : Fd l.prog w K mg base CX0 "is_view" 3 ["many", "hand", "value"] spViewD := ⟨_, _, (PySem.W.mg_of X G a_is_view), k_is_view, b_is_view, ok_is_view F_is_view G_is_lot⟩
  have G_lies_in : Fd l.prog w K mg base CX0 "lies_in" 1 ["lot", "other"] spLiesD := ⟨_, _, (PySem.W.mg_of X G a_lies_in), k_lies_in, b_lies_in, ok_lies_in F_lies_in T⟩
  have G_fit : Fd l.prog w K mg base CX0 "fit" 2 ["one", "other"] spFitD := ⟨_, _, (PySem.W.mg_of X G a_fit), k_fit, b_fit, ok_fit F_fit G_lies_in⟩
  have G_is_at_once : Fd l.prog w K mg base CX0 "is_at_once" 4 ["many", "value"] spAtD := ⟨_, _, (PySem.W.mg_of X G a_is_at_once), k_is_at_once, b_is_at_once, ok_is_at_once F_is_at_once T G_check_many G_is_view G_fit⟩
  have G_is_whole_row : Fd l.prog w K mg base CX0 "is_whole_row" 5 ["many", "value"] spRowD := ⟨_, _, (PySem.W.mg_of X G a_is_whole_row), k_is_whole_row, b_is_whole_row, ok_is_whole_row F_is_whole_row G_is_at_once⟩
  have G_law_of : Fd l.prog w K mg base CX0 "_law_of" 2 ["pot", "some"] (spOf K) := ⟨_, _, (PySem.W.mg_of X G a_law_of), k_law_of, b_law_of, ok_law_of F_law_of LT G_law_take⟩
  have G_law_odd : Fd l.prog w K mg base CX0 "_law_odd" 3 ["pot"] spOddS := ⟨_, _, (PySem.W.mg_of X G a_law_odd), k_law_odd, b_law_odd, ok_law_odd F_law_odd T G_law_of⟩
  have G_law_bent : Fd l.prog w K mg base CX0 "_law_bent" 7 ["pot", "value"] (spBentS 4) := all_law_bent F_law_bent b_law_bent (PySem.W.mg_of X G a_law_bent) T (PySem.W.mg_none_of X G z_str) G_law_take G_law_of G_law_odd 4
  have G_law_near : Fd l.prog w K mg base CX0 "_law_near" 8 ["pot", "many", "row"] spNear := ⟨_, _, (PySem.W.mg_of X G a_law_near), k_law_near, b_law_near, ok_law_near F_law_near T G_law_take G_law_drawn_row G_law_odd G_law_bent⟩
  have G_law_caught : FdG l.prog w K mg base CX0 "_law_caught" 18 ["look"] (spCaught l.prog w K mg base 17 C_HandError) := ⟨_, _, (PySem.W.mg_of X G a_law_caught), k_law_caught, b_law_caught, (ok_law_caught F_law_caught (PySem.W.mg_of X G a_HandError)).toG⟩
  have E_BadRow : ErrC l.prog w K mg base "BadRow" C_BadRow := ⟨⟨⟨_, _, _, _, _, _, _, _, _, _, _, _, _, _, _, x_BadRow, rv_BadRow⟩, sa_BadRow, eC_BadRow, tC_BadRow, kC_BadRow⟩, (PySem.W.mg_of X G a_BadRow), nv_BadRow, f_HandError_init, _, in_BadRow, ti_HandError_init, b_HandError_init, ok_HandError_init F_HandError_init⟩
  have X_weaving_to : Fd l.prog w K mg base (L2.CX l.prog w) "weaving_to" 5 ["many", "row"] (spWeaveX C_BadRow) := ⟨_, _, (PySem.W.mg_of X G a_weaving_to), k_weaving_to, b_weaving_to, ok_weaving_toX F_weaving_to E_BadRow G_is_at_once⟩
  have X_number_of : Fd l.prog w K mg base (L2.CX l.prog w) "number_of" 6 ["many", "row"] (spNumX C_BadRow) := ⟨_, _, (PySem.W.mg_of X G a_number_of), k_number_of, b_number_of, ok_number_ofX F_number_of E_BadRow G_is_whole_row⟩
  have X_check_ends : Fd l.prog w K mg base (L2.CX l.prog w) "check_ends" 6 ["many", "one", "other"] (spEndsX C_BadRow) := ⟨_, _, (PySem.W.mg_of X G a_check_ends), k_check_ends, b_check_ends, ok_check_endsX F_check_ends E_BadRow G_is_whole_row⟩
  have X_chain : Fd l.prog w K mg base (L2.CX l.prog w) "chain" 7 ["many", "one", "other"] (spEndsX C_BadRow) := ⟨_, _, (PySem.W.mg_of X G a_chain), k_chain, b_chain, ok_chainX F_chain X_check_ends⟩
  have hErr : ErrB K mg C_BadRow C_HandError := ⟨(PySem.W.mg_of X G a_BadRow), by unfold PySem.W.kitOne; rw [if_pos (by simp)], ⟨ga_BadRow, gg_BadRow, eC_BadRow, hC_BadRow, cc_BadRow, hn, htk, mr_BadRow⟩, ⟨ga_BadRow, gg_BadRow, eC_BadRow, hC_BadRow⟩, nv_BadRow, eh_0⟩
  have G_law_right : FdG l.prog w K mg base CX0 "_law_right" 20 ["pot"] (spRightT PR) := ⟨_, _, (PySem.W.mg_of X G a_law_right), k_law_right, b_law_right, ok_law_right (CH := C_HandError) (CE := C_BadRow) F_law_right a_law_right hTab (hTB (cR, PR) (List.mem_singleton.mpr rfl)) T hErr G_law_take G_law_drawn_row G_law_is_row G_is_at_once G_law_near G_law_caught X_weaving_to X_number_of X_chain⟩
  exact ok_law F_law LT G_law_cells G_law_pot G_law_right
theorem walk {l : PySem.W.OpenLaw} {q : Program} {loose : List Str} {XP : (Str → Option Value) → Heap → Prop} {YP : World → Heap → Prop} {d : DefRec} {K : Params → PySem.W.Frag} (hn : l.most = some 63) (hdf : d.params.defaults = []) (hrec : ((["_law_right"] : List Str).all fun y => (recsOf q).any fun e => e.name == y) = true)
    (hY : ∀ (w : World) (h : Heap), YP w h → (K w.params).In h)
    (F : ∀ (w : World) (mg : Str → Option Value) (fa : Addr) (h : Heap), (K w.params).In h → h.Ns mainGlobals mg → mg d.name = some (.ref fa) → LawAtT l w (K w.params) CX0 21 63 "script" ["_law_right"] mg fa) :
    PySem.W.WalkO q loose XP YP l.row.toRowW d [] (fun f vs => PySem.call f vs) :=
  L2.walk_ofTG (n := 63) (k := 21) (x := "script") (xs := ["_law_right"]) (CX := fun _ => CX0) hn (by decide) hdf ⟨rfl, by decide, by decide⟩ hrec hY F fun _ _ _ _ _ z => z
end Fp
open PySem PySem.W PyProof.Rows
set_option maxRecDepth 100000 in
set_option maxHeartbeats 0 in
theorem PySem.Challenge.cw_fewplaymany_k30_whole_what_is_no_row_of_holds : PySem.Challenge.rw_fewplaymany_k30_whole_what_is_no_row_of.Holds := by
  w_on; o_law; k_head; (case hw => w_witness2)
  k_fill
  refine Fp.walk (l := PySem.Challenge.rw_fewplaymany_k30_whole_what_is_no_row_of) rfl rfl ?R (fun w h Y => PySem.W.km_in_of Y) ?F
  case R => first | rfl | decide +kernel | kernel_rfl
  case F =>
    intro w mg fa h KX G hmg
    refine' Fp.all_mk KX G hmg ?a_is_whole ?l_is_whole ?c_is_whole ?k_is_whole ?a_is_lot ?l_is_lot ?c_is_lot ?k_is_lot ?a_lot_of ?l_lot_of ?c_lot_of ?k_lot_of ?a_lies_in ?l_lies_in ?c_lies_in ?k_lies_in ?a_exchanged ?l_exchanged ?c_exchanged ?k_exchanged ?a_check_many ?l_check_many ?c_check_many ?k_check_many ?a_is_at_once ?l_is_at_once ?c_is_at_once ?k_is_at_once ?a_is_view ?l_is_view ?c_is_view ?k_is_view ?a_fit ?l_fit ?c_fit ?k_fit ?a_is_whole_row ?l_is_whole_row ?c_is_whole_row ?k_is_whole_row ?a_weaving_to ?l_weaving_to ?c_weaving_to ?k_weaving_to ?a_number_of ?l_number_of ?c_number_of ?k_number_of ?a_chain ?l_chain ?c_chain ?k_chain ?a_way_to_all ?l_way_to_all ?c_way_to_all ?k_way_to_all ?a_check_ends ?l_check_ends ?c_check_ends ?k_check_ends ?a_law_pot ?l_law_pot ?c_law_pot ?k_law_pot ?a_law_take ?l_law_take ?c_law_take ?k_law_take ?a_law_of ?l_law_of ?c_law_of ?k_law_of ?a_law_some ?l_law_some ?c_law_some ?k_law_some ?a_law_cells ?l_law_cells ?c_law_cells ?k_law_cells ?a_law_odd ?l_law_odd ?c_law_odd ?k_law_odd ?a_law_bent ?l_law_bent ?c_law_bent ?k_law_bent ?a_law_caught ?l_law_caught ?c_law_caught ?k_law_caught ?a_law_int ?l_law_int ?c_law_int ?k_law_int ?a_law_is_lot_of ?l_law_is_lot_of ?c_law_is_lot_of ?k_law_is_lot_of ?a_law_is_row ?l_law_is_row ?c_law_is_row ?k_law_is_row ?a_law_drawn_row ?l_law_drawn_row ?c_law_drawn_row ?k_law_drawn_row ?a_law_near ?l_law_near ?c_law_near ?k_law_near ?a_law_right ?l_law_right ?c_law_right ?k_law_right ?a_law ?l_law ?c_law ?k_law ?a_HandError ?eC_HandError ?tC_HandError ?a_BadRow ?x_BadRow ?rv_BadRow ?sa_BadRow ?ga_BadRow ?gg_BadRow ?nv_BadRow ?in_BadRow ?cc_BadRow ?kC_BadRow ?eC_BadRow ?tC_BadRow ?hC_BadRow ?mr_BadRow ?l_HandError_init ?c_HandError_init ?k_HandError_init ?ti_HandError_init ?hn ?htk ?eh_0 ?hcd ?hco ?h11 ?nT ?z_isinstance ?z_int ?z_bool ?z_tuple ?z_list ?z_all ?z_any ?z_len ?z_sum ?z_abs ?z_max ?z_min ?z_range ?z_repr ?z_set ?z_sorted ?z_zip ?z_enumerate ?z_str ?v_MOST_HANDS
    (case a_is_whole => k_is)
    (case l_is_whole => k_is)
    (case c_is_whole => k_is)
    (case k_is_whole => k_is)
    (case a_is_lot => k_is)
    (case l_is_lot => k_is)
    (case c_is_lot => k_is)
    (case k_is_lot => k_is)
    (case a_lot_of => k_is)
    (case l_lot_of => k_is)
    (case c_lot_of => k_is)
    (case k_lot_of => k_is)
    (case a_lies_in => k_is)
    (case l_lies_in => k_is)
    (case c_lies_in => k_is)
    (case k_lies_in => k_is)
    (case a_exchanged => k_is)
    (case l_exchanged => k_is)
    (case c_exchanged => k_is)
    (case k_exchanged => k_is)
    (case a_check_many => k_is)
    (case l_check_many => k_is)
    (case c_check_many => k_is)
    (case k_check_many => k_is)
    (case a_is_at_once => k_is)
    (case l_is_at_once => k_is)
    (case c_is_at_once => k_is)
    (case k_is_at_once => k_is)
    (case a_is_view => k_is)
    (case l_is_view => k_is)
    (case c_is_view => k_is)
    (case k_is_view => k_is)
    (case a_fit => k_is)
    (case l_fit => k_is)
    (case c_fit => k_is)
    (case k_fit => k_is)
    (case a_is_whole_row => k_is)
    (case l_is_whole_row => k_is)
    (case c_is_whole_row => k_is)
    (case k_is_whole_row => k_is)
    (case a_weaving_to => k_is)
    (case l_weaving_to => k_is)
    (case c_weaving_to => k_is)
    (case k_weaving_to => k_is)
    (case a_number_of => k_is)
    (case l_number_of => k_is)
    (case c_number_of => k_is)
    (case k_number_of => k_is)
    (case a_chain => k_is)
    (case l_chain => k_is)
    (case c_chain => k_is)
    (case k_chain => k_is)
    (case a_way_to_all => k_is)
    (case l_way_to_all => k_is)
    (case c_way_to_all => k_is)
    (case k_way_to_all => k_is)
    (case a_check_ends => k_is)
    (case l_check_ends => k_is)
    (case c_check_ends => k_is)
    (case k_check_ends => k_is)
    (case a_law_pot => k_is)
    (case l_law_pot => k_is)
    (case c_law_pot => k_is)
    (case k_law_pot => k_is)
    (case a_law_take => k_is)
    (case l_law_take => k_is)
    (case c_law_take => k_is)
    (case k_law_take => k_is)
    (case a_law_of => k_is)
    (case l_law_of => k_is)
    (case c_law_of => k_is)
    (case k_law_of => k_is)
    (case a_law_some => k_is)
    (case l_law_some => k_is)
    (case c_law_some => k_is)
    (case k_law_some => k_is)
    (case a_law_cells => k_is)
    (case l_law_cells => k_is)
    (case c_law_cells => k_is)
    (case k_law_cells => k_is)
    (case a_law_odd => k_is)
    (case l_law_odd => k_is)
    (case c_law_odd => k_is)
    (case k_law_odd => k_is)
    (case a_law_bent => k_is)
    (case l_law_bent => k_is)
    (case c_law_bent => k_is)
    (case k_law_bent => k_is)
    (case a_law_caught => k_is)
    (case l_law_caught => k_is)
    (case c_law_caught => k_is)
    (case k_law_caught => k_is)
    (case a_law_int => k_is)
    (case l_law_int => k_is)
    (case c_law_int => k_is)
    (case k_law_int => k_is)
    (case a_law_is_lot_of => k_is)
    (case l_law_is_lot_of => k_is)
    (case c_law_is_lot_of => k_is)
    (case k_law_is_lot_of => k_is)
    (case a_law_is_row => k_is)
    (case l_law_is_row => k_is)
    (case c_law_is_row => k_is)
    (case k_law_is_row => k_is)
    (case a_law_drawn_row => k_is)
    (case l_law_drawn_row => k_is)
    (case c_law_drawn_row => k_is)
    (case k_law_drawn_row => k_is)
    (case a_law_near => k_is)
    (case l_law_near => k_is)
    (case c_law_near => k_is)
    (case k_law_near => k_is)
    (case a_law_right => k_is)
    (case l_law_right => k_is)
    (case c_law_right => k_is)
    (case k_law_right => k_is)
    (case a_law => k_is)
    (case l_law => k_is)
    (case c_law => k_is)
    (case k_law => k_is)
    (case a_HandError => k_is)
    (case eC_HandError => k_is)
    (case tC_HandError => k_is)
    (case a_BadRow => k_is)
    (case x_BadRow => k_is)
    (case rv_BadRow => first | rfl | decide +kernel | kernel_rfl)
    (case sa_BadRow => k_is)
    (case ga_BadRow => k_is)
    (case gg_BadRow => k_is)
    (case nv_BadRow => k_is)
    (case in_BadRow => k_is)
    (case cc_BadRow => k_is)
    (case kC_BadRow => k_is)
    (case eC_BadRow => k_is)
    (case tC_BadRow => k_is)
    (case hC_BadRow => k_is)
    (case mr_BadRow => k_is)
    (case l_HandError_init => k_is)
    (case c_HandError_init => k_is)
    (case k_HandError_init => k_is)
    (case ti_HandError_init => k_is)
    (case hn => k_is)
    (case htk => k_is)
    (case eh_0 => kts_exm)
    (case hcd => exact rfl)
    (case hco => k_is)
    (case h11 => exact rfl)
    (case nT => kernel_rfl)
    (case z_isinstance => k_is)
    (case z_int => k_is)
    (case z_bool => k_is)
    (case z_tuple => k_is)
    (case z_list => k_is)
    (case z_all => k_is)
    (case z_any => k_is)
    (case z_len => k_is)
    (case z_sum => k_is)
    (case z_abs => k_is)
    (case z_max => k_is)
    (case z_min => k_is)
    (case z_range => k_is)
    (case z_repr => k_is)
    (case z_set => k_is)
    (case z_sorted => k_is)
    (case z_zip => k_is)
    (case z_enumerate => k_is)
    (case z_str => k_is)
    (case v_MOST_HANDS => k_is)
