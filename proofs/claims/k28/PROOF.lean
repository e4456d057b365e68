import PyProof.Rows.All
import HandS.ForMost
import Wide.All
import OpenK.AllK
import Wide.FinOn
import HandS.ForExc
import HandS.Walk
import HandS.Conv
import HandS.Star
import HandS.CallLocal
import HandS.Codes
import HandS.More
import HandS.OwnEq
import HandS.Wide
import HandS.Flow
import KE.GoesEnum
import PyProof.ListStr
import PyProof.StrBlock2
import KE.IntTextLaws
import PyProof.InstNe
import HandS.MakeKwOnly
import HandS.IsInst
import HandS.Ends
import PyProof.ReprRoads
import KE.GoesMore
import HandS.TupMul
import HandS.TupAny
import HandS.Strs
import HandS.SetIn
import HandS.SetFor
import HandS.SortRule
import HandS.Style
import HandS.Deep
import HandS.Iter
import KE.KRevSl
import HandS.Zip
import HandS.Defaults
import PyProof.P3In
import PySem.Challenge.RW_fewplaymany_k28_whole_a_weaving_to_each
import HandS.NamedTupSort
import HandS.TupSets
import KE.SortKeyHeap
import KE.SortData
import HandS.Comp
set_option Elab.async false
set_option linter.all false
set_option maxRecDepth 100000
set_option maxHeartbeats 4000000
/-! small words that enter a reading -/
namespace Fp
open PySem PySem.Spec PyProof.Rows L2
theorem g_set {i : Nat} {v : V} {σ : L2.St} {H : Hp} {k : L2.St → Hp → Prop} (h : k (σ.set i (some v)) H) : gName i v σ H k := h
theorem yes_in {σ : L2.St} {H : Hp} {A B : Hp → Prop} (h : A H) : tYes σ H fun b H3 => if b = true then A H3 else B H3 := by
  show if true = true then A H else B H
  exact iteT h
theorem nx_in {f b c : L2.St → Hp → Prop} {r : VK} {σ : L2.St} {H : Hp} (h : f σ H) : ({ nx := f, rt := r, bk := b, ct := c } : Ends).nx σ H := h
theorem next_in {D : Ends} {σ : L2.St} {H : Hp} (h : D.nx σ H) : tNext D σ H := h
theorem seq_in {a b : TS} {D : Ends} {σ : L2.St} {H : Hp} (h : a { nx := b D, rt := D.rt, bk := D.bk, ct := D.ct } σ H) : tSeq a b D σ H := h
theorem asg_in {te : TE} {g : TG} {D : Ends} {σ : L2.St} {H : Hp} (h : te σ H fun v H1 => g v σ H1 fun σ2 H2 => D.nx σ2 H2) : tAsg te g D σ H := h
theorem op_in {r : R2} {ta tb : TE} {σ : L2.St} {H : Hp} {Q : VK} (h : ta σ H fun x H1 => tb σ H1 fun y H2 => r x y H2 Q) : tOp r ta tb σ H Q := h
theorem if_not {te : TE} {a b : TS} {D : Ends} {σ : L2.St} {H : Hp} (h : te σ H fun v H1 => ∃ c, v = .bl c ∧ if (!c) = true then a D σ H1 else b D σ H1) : tIfS (tNot (tB te)) a b D σ H := h
theorem ret_in {te : TE} {D : Ends} {σ : L2.St} {H : Hp} (h : te σ H D.rt) : tRet te D σ H := h
/-- what stands behind a statement, once for all its ways -/
theorem cut_nx {t : TS} {D : Ends} {σ : L2.St} {H : Hp} (R : Hp → Prop) (h : ∀ H1, R H1 → D.nx σ H1) (g : (∀ H1, R H1 → D.nx σ H1) → t D σ H) : t D σ H := g h
end Fp
namespace Fp
open PySem PySem.Spec PyProof.Rows L2
/-! ### heaps -/
/-- all that is tracked stays, but what stands at S -/
def But (S : List Addr) (H H' : Hp) : Prop := ∀ b o, b ∉ S → H b = some o → H' b = some o
theorem But.refl (S : List Addr) (H : Hp) : But S H H := fun _ _ _ h => h
theorem But.trans {S : List Addr} {H H1 H2 : Hp} (a : But S H H1) (b : But S H1 H2) : But S H H2 := fun c o n h => b c o n (a c o n h)
theorem But.of {S : List Addr} {H H' : Hp} (h : Same H H') : But S H H' := fun c o _ q => h c o q
theorem But.new {S : List Addr} {H H1 : Hp} {p : Addr} {o : HO} (a : But S H H1) (n : H1 p = none) : But S H (upd H1 p o) := fun c u k q => by
  have z := a c u k q
  rw [upd_ne (ne_of_none z n)]
  exact z
theorem But.put {S : List Addr} {H H1 : Hp} {p : Addr} {o : HO} (a : But S H H1) (n : p ∈ S) : But S H (upd H1 p o) := fun c u k q => by
  have ne : c ≠ p := fun z => k (z ▸ n)
  rw [upd_ne ne]
  exact a c u k q
theorem But.wide {S T : List Addr} {H H' : Hp} (a : But S H H') (h : ∀ x ∈ S, x ∈ T) : But T H H' := fun c o n q => a c o (fun z => n (h c z)) q
theorem But.at {S : List Addr} {H H' : Hp} {a : Addr} {o : HO} (b : But S H H') (h : H a = some o) (n : a ∉ S) : H' a = some o := b a o n h
theorem But.seq {S : List Addr} {H H' : Hp} {K : PySem.W.Frag} {a : Addr} {xs : List V} (b : But S H H') (h : SqL K H a xs) (n : a ∉ S) : SqL K H' a xs := by
  rcases h with (h | ⟨o, h⟩) | h
  · exact .inl (.inl (b _ _ n h))
  · exact .inl (.inr ⟨o, b _ _ n h⟩)
  · exact .inr h
theorem But.seqT {S : List Addr} {H H' : Hp} {K : PySem.W.Frag} {a : Addr} {xs : List V} (b : But S H H') (h : SqT K H a xs) (n : a ∉ S) : SqT K H' a xs := by
  rcases h with (h | ⟨o, h⟩) | h
  · exact .inl (.inl (b _ _ n h))
  · exact .inl (.inr ⟨o, b _ _ n h⟩)
  · exact .inr h
theorem same_new {H : Hp} {p : Addr} (h : H p = none) (o : HO) : Same H (upd H p o) := fun b u q => by rw [upd_ne (ne_of_none q h)]; exact q
/-! ### a def of the module with its promise -/
structure Fd (P : Program) (w : World) (K : PySem.W.Frag) (mg : Str → Option Value) (base : Heap) (CX : CXT) (x : Str) (k : Nat) (ps : List Str) (sp : Sp) : Prop where
  ex : ∃ (f : Addr) (fd : FuncData), mg x = some (.ref f) ∧ PySem.W.keepIn K (.ref f) = true ∧ Binds K fd ps [] ∧ FnOk P w K mg base CX k f fd ps sp
section
variable {X : Cx} {CX : CXT} {x : Str} {k : Nat} {ps : List Str} {sp : Sp} {e : Expr} {es : List Expr} {t : TA} {p pos : Pos}
theorem pe_fd (G : Fd X.prog X.w X.K X.mg X.base CX0 x k ps sp) (hr : Room k X.A) (hg : Gl X x) (ha : PA X (e :: es) t) (hdb : (x == ("__debug__" : Str)) = false := by decide)
    (he : starEach (e :: es) X.env = (false, eval e X.env) :: starEach es X.env := by rfl) (hpl : (backTo pos (starEach es X.env)).any (·.1) = false := by rfl) :
    PE X (.Call (.Name x p) (e :: es) [] pos) (tCall sp [] E0 t) := by
  obtain ⟨f, fd, h1, h2, h3, h4⟩ := G.ex
  exact pe_call h4 hr hg h1 h2 h3 .nil pass0 ha hdb he hpl
end
/-! ### powers of greater numbers -/
theorem op_powB {X : Cx} : OpR X (binaryOp .Pow) (rI (fun i j => 0 ≤ j ∧ (Builtin.Int.intBits i : Int) * j ≤ 2 ^ 27) fun i j => .int (i ^ j.toNat)) :=
  opI fun _ _ _ _ _ _ _ hc q => PyProof.Rows.pow_int hc.1 hc.2 q
theorem bits_ok {a : Int} (k : Nat) {j : Int} (h : a.natAbs < 2 ^ k) (hj : 0 ≤ j) (hk : (k : Int) * j ≤ 2 ^ 27) : (Builtin.Int.intBits a : Int) * j ≤ 2 ^ 27 := by
  have h1 : (Builtin.Int.intBits a : Int) ≤ (k : Int) := by
    have := PyProof.Rows.intBits_le h
    omega
  exact Int.le_trans (Int.mul_le_mul_of_nonneg_right h1 hj) hk
/-! ### a word between a part and what follows it -/
def tMid (t : TE) : TE := fun σ H Q => ∃ Mid : V → Hp → Prop, t σ H Mid ∧ ∀ v H', Mid v H' → Q v H'
theorem pe_mid {X : Cx} {e : Expr} {t : TE} (h : PE X e t) : PE X e (tMid t) := by
  refine ⟨fun pins s σ H Q I z => ?_⟩
  obtain ⟨Mid, hm, hu⟩ := z
  exact thn (h.run pins s σ H Mid I hm) fun v s1 ⟨x, H1, I1, r1, q1⟩ => ⟨x, H1, I1, r1, hu x H1 q1⟩
def tMidT (t : TT) : TT := fun σ H Q => ∃ Mid : Bool → Hp → Prop, t σ H Mid ∧ ∀ v H', Mid v H' → Q v H'
theorem pt_mid {X : Cx} {e : Expr} {t : TT} (h : PT X e t) : PT X e (tMidT t) := by
  refine ⟨fun pins s σ H Q I z => ?_⟩
  obtain ⟨Mid, hm, hu⟩ := z
  exact thn (h.run pins s σ H Mid I hm) fun v s1 ⟨H1, I1, q1⟩ => ⟨H1, I1, hu v H1 q1⟩
theorem erase_perm {α : Type} : ∀ (l : List α) (i : Nat) (h : i < l.length), (l[i] :: l.eraseIdx i).Perm l
  | a :: l, 0, _ => List.Perm.refl _
  | a :: l, i + 1, h => by
    have h' : i < l.length := Nat.lt_of_succ_lt_succ h
    have ih := erase_perm l i h'
    show (l[i] :: a :: l.eraseIdx i).Perm (a :: l)
    exact (List.Perm.swap _ _ _).trans (List.Perm.cons a ih)
theorem b01 (k : Bool) : -(2 ^ 64) < (if k = true then (1 : Int) else 0) ∧ (if k = true then (1 : Int) else 0) < 2 ^ 64 := by cases k <;> decide
/-! ### draws -/
def PotAt (H : Hp) (p : Addr) (n : Nat) : Prop := ∃ a b c : Int, H p = some (.lst [.int a, .int b, .int c]) ∧ 0 ≤ b ∧ b < 2305843009213693951 ∧ 0 ≤ c ∧ c ≤ n
theorem PotAt.mono {H : Hp} {p : Addr} {n m : Nat} (h : PotAt H p n) (l : n ≤ m) : PotAt H p m := by
  obtain ⟨a, b, c, h1, h2, h3, h4, h5⟩ := h
  exact ⟨a, b, c, h1, h2, h3, h4, by omega⟩
theorem PotAt.there {H : Hp} {p : Addr} {n : Nat} (h : PotAt H p n) : ∃ xs, H p = some (.lst xs) := by
  obtain ⟨a, b, c, h1, _⟩ := h
  exact ⟨_, h1⟩
def spTake : Sp := fun vs H Q _ => ∃ (p : Addr) (u : Int) (n : Nat), vs = [.ref p, .int u] ∧ 0 < u ∧ u < 1000000 ∧ n < 1000000 ∧ PotAt H p n ∧
  ∀ (d : Nat) (H' : Hp), (d : Int) < u → But [p] H H' → PotAt H' p (n + 1) → Q (.int d) H'
def spOf (K : PySem.W.Frag) : Sp := fun vs H Q _ => ∃ (p q : Addr) (xs : List V) (n : Nat), vs = [.ref p, .ref q] ∧ SqL K H q xs ∧ q ≠ p ∧ xs ≠ [] ∧ xs.length < 1000000 ∧ n < 1000000 ∧ PotAt H p n ∧
  ∀ (d : Nat) (v : V) (H' : Hp), xs[d]? = some v → But [p] H H' → PotAt H' p (n + 1) → Q v H'
/-- many of a pool, in some sequence -/
def spSome (K : PySem.W.Frag) : Sp := fun vs H Q _ => ∃ (p q : Addr) (xs : List V) (m n : Nat), vs = [.ref p, .ref q, .int m] ∧ (SqL K H q xs ∨ SqT K H q xs) ∧ m ≤ xs.length ∧ xs.length < 1000 ∧ n + m < 1000000 ∧ PotAt H p n ∧
  ∀ (l : Addr) (ys zs : List V) (H' : Hp), ys.length = m → (ys ++ zs).Perm xs → H l = none → H' l = some (.lst ys) → But [p] H H' → PotAt H' p (n + m) → Q (.ref l) H'
/-- the pot of a cell -/
def spPot (K : PySem.W.Frag) : Sp := fun vs H Q _ => ∃ (a : Addr) (ns : List Int) (k : Nat), vs = [.ref a, .int k] ∧ SqL K H a (ns.map V.int) ∧ ns.length ≤ 63 ∧ k < 1000 ∧ ∀ (l : Addr) (H' : Hp), Same H H' → H l = none → PotAt H' l 0 → Q (.ref l) H'
/-- the cells that are looked at -/
def spCells (K : PySem.W.Frag) : Sp := fun vs H Q _ => ∃ (a : Addr) (ns : List Int) (m : Nat), vs = [.ref a, .int m] ∧ SqL K H a (ns.map V.int) ∧ ns.length ≤ 63 ∧ m < 1000 ∧
  ∀ (l : Addr) (H' : Hp) (k : Nat), k < 1000 → Same H H' → H l = none → H' l = some (.lst ((List.range k).map fun i => V.int (i : Nat))) → Q (.ref l) H'
theorem modNat (a : Int) {u : Int} (h : 0 < u) : ∃ d : Nat, a % u = (d : Int) ∧ (d : Int) < u :=
  ⟨(a % u).toNat, by have := Int.emod_nonneg a (show u ≠ 0 by omega); omega, by have := Int.emod_nonneg a (show u ≠ 0 by omega); have := Int.emod_lt_of_pos a h; omega⟩
theorem sq_le (m : Int) {c : Int} (h : 0 ≤ c) (h1 : c ≤ 1000001) (hm : 0 ≤ m := by decide) (hm1 : m ≤ 200000 := by decide) : 0 ≤ m * c * c ∧ m * c * c ≤ 200000 * 1000001 * 1000001 := by
  have e1 : m * c ≤ 200000 * 1000001 := Int.mul_le_mul hm1 h1 h (by decide)
  have e0 : 0 ≤ m * c := Int.mul_nonneg hm h
  exact ⟨Int.mul_nonneg e0 h, Int.mul_le_mul e1 h1 h (by decide)⟩
end Fp
namespace Fp
open PySem PySem.Spec PyProof.Rows L2
/-! ### constants of the module -/
section
variable {X : Cx} {x : Str} {pos : Pos}
theorem pe_cS {z : Str} (h : ∃ t, X.mg x = some (.str z t)) (hg : Gl X x := by rfl) (hd : (x == ("__debug__" : Str)) = false := by decide) : PE X (.Name x pos) (tC (.str z)) := by
  obtain ⟨t, h⟩ := h
  exact pe_glob hg h ⟨_, rfl⟩ hd
theorem pe_cI {i : Int} (h : ∃ t, X.mg x = some (.int i t)) (hg : Gl X x := by rfl) (hd : (x == ("__debug__" : Str)) = false := by decide) : PE X (.Name x pos) (tC (.int i)) := by
  obtain ⟨t, h⟩ := h
  exact pe_glob hg h ⟨_, rfl⟩ hd
/-- a tuple of the module -/
def KTup (K : PySem.W.Frag) (a : Addr) (xs : List V) : Prop := ∀ H, SqT K H a xs
def tKT (K : PySem.W.Frag) (xs : List V) : TE := fun _ H Q => ∀ a, KTup K a xs → Q (.ref a) H
theorem pe_cT {xs : List V} (h : ∃ a, X.mg x = some (.ref a) ∧ KTup X.K a xs) (hg : Gl X x := by rfl) (hd : (x == ("__debug__" : Str)) = false := by decide) : PE X (.Name x pos) (tKT X.K xs) := by
  obtain ⟨a, h1, h2⟩ := h
  exact ⟨fun pins s σ H Q I q => (pe_glob (v := .ref a) hg h1 rfl hd).run pins s σ H Q I (q a h2)⟩
/-- an object of the module -/
def tKR (φ : Addr → Prop) : TE := fun _ H Q => ∀ a, φ a → Q (.ref a) H
theorem pe_cR {φ : Addr → Prop} (h : ∃ a, X.mg x = some (.ref a) ∧ φ a) (hg : Gl X x := by rfl) (hd : (x == ("__debug__" : Str)) = false := by decide) : PE X (.Name x pos) (tKR φ) := by
  obtain ⟨a, h1, h2⟩ := h
  exact ⟨fun pins s σ H Q I q => (pe_glob (v := .ref a) hg h1 rfl hd).run pins s σ H Q I (q a h2)⟩
/-- a dict of the module with text keys, at d -/
structure KD (K : PySem.W.Frag) (w : World) (d : Addr) (tab : Str → Option V) : Prop where
  ex : ∃ es n, KDict K w d es n
  get : ∀ z, ∃ r, PySem.W.nsIn K d z = some r ∧ RelO (tab z) r
theorem RelO.some_iff {o : Option V} {r : Option Value} (h : RelO o r) : o.isSome = r.isSome := by
  cases o <;> cases r <;> first | rfl | exact h.elim
variable {e : Expr} {te : TE} {apos cpos p : Pos} {tab : Str → Option V} {d : Addr}
/-- key in NAME -/
theorem pe_kin (D : ∃ d, X.mg x = some (.ref d) ∧ KD X.K X.w d tab) (he : PE X e te) (hg : Gl X x := by rfl) (hb : behindInMarks .In (.Name x p) = false := by rfl) (hd : (x == ("__debug__" : Str)) = false := by decide) : PE X (.Compare e [.In] [.Name x p] pos) (fun σ H Q => te σ H fun y H1 => ∃ z, y = .str z ∧ Q (.bl (tab z).isSome) H1) := by
  obtain ⟨d, hm, ⟨es, n, D⟩, get⟩ := D
  refine ⟨fun pins s σ H Q I h => ?_⟩
  refine (pe_cmpR (op_in_kd D) he (pe_glob (v := .ref d) hg hm rfl hd) hb).run pins s σ H Q I ?_
  have h' : (fun σ H Q => te σ H fun y H1 => ∃ z, y = .str z ∧ Q (.bl (tab z).isSome) H1) σ H Q := h
  exact (fun (k : te σ H _) => k) (by
    refine (?_ : te σ H _)
    have e2 : (fun (y : V) (H1 : Hp) => ∃ z : Str, y = V.str z ∧ Q (V.bl (tab z).isSome) H1) = fun y H1 => tC (.ref d) σ H1 fun y' H2 => ∃ (z : Str) (r : Option Value), y = .str z ∧ y' = .ref d ∧ PySem.W.nsIn X.K d z = some r ∧ Q (.bl r.isSome) H2 := by
      funext y H1
      apply propext
      constructor
      · rintro ⟨z, rfl, q⟩
        obtain ⟨r, g1, g2⟩ := get z
        refine ⟨z, r, rfl, rfl, g1, ?_⟩
        rw [← RelO.some_iff g2]
        exact q
      · rintro ⟨z, r, rfl, _, g1, q⟩
        obtain ⟨r', g1', g2⟩ := get z
        rw [g1] at g1'
        cases g1'
        refine ⟨z, rfl, ?_⟩
        rw [RelO.some_iff g2]
        exact q
    rw [← e2]
    exact h')
/-- NAME.get(key) -/
theorem pe_kget (D : ∃ d, X.mg x = some (.ref d) ∧ KD X.K X.w d tab) (he : PE X e te) (hg : Gl X x := by rfl) (m : M1 X (.Name x p) "get" apos e cpos := by exact ⟨rfl, rfl, rfl, rfl⟩) (hd : (x == ("__debug__" : Str)) = false := by decide) :
    PE X (.Call (.Attribute (.Name x p) "get" apos) [e] [] cpos) (fun σ H Q => te σ H fun y H1 => ∃ z, y = .str z ∧ Q ((tab z).getD .non) H1) := by
  obtain ⟨d, hm, ⟨es, n, D⟩, get⟩ := D
  refine ⟨fun pins s σ H Q I h => ?_⟩
  refine wpAny_Call_method m.base m.few m.line PySem.F.plainAttrs_dict PySem.F.slot_dict_get PySem.F.type_dict_get (thn ((pe_glob (v := .ref d) hg hm rfl hd).run pins s σ H (fun y H1 => y = .ref d ∧ te σ H1 fun y H1 => ∃ z, y = .str z ∧ Q ((tab z).getD .non) H1) I ⟨rfl, h⟩) fun u s1 hh => ?_)
  obtain ⟨y, H1, I1, ry, ey, q1⟩ := hh
  subst ey
  obtain rfl : u = Value.ref d := ry
  have hmp := PySem.W.mapOf_K (prog := X.prog) (w := X.w) I1.kIn D.at_ D.lit
  refine ⟨hmp.typeIs, hmp.noDict, ?_⟩
  rw [m.trees]
  refine Calls.callWith_builtin rfl (Calls.evalArgs_plain (Calls.spliced_cons (thn (he.run pins s1 σ H1 _ I1 q1) fun iv s2 hh2 => Calls.spliced_nil ?_)))
  obtain ⟨y2, H2, I2, ry2, z, ez, q2⟩ := hh2
  subst ez
  obtain ⟨t, rfl⟩ := ry2
  have hmp2 := PySem.W.mapOf_K (prog := X.prog) (w := X.w) I2.kIn D.at_ D.lit
  obtain ⟨r, g1, g2⟩ := get z
  refine call_meetsIn PySem.F.slot_dict_get hmp2.typeIs PySem.F.entry_dict_get (PySem.F.args_dict_get_2 _ _) (meets_dict_get (strKind X.prog X.w) d (PySem.strKind_is X.prog X.w z t) D.low) ⟨_, hmp2, ?_⟩
  show EP X pins σ Q _ _
  rw [PySem.W.find_K D.at_ g1]
  exact ⟨_, H2, I2.tok _, g2.getD (d := .non) rfl, q2⟩
end
/-! ### for i, x in enumerate(list, start) -/
def ItE (K : PySem.W.Frag) (a : Addr) (lo : Int) : It :=
  ⟨fun i H => ∃ (ys : List V) (y : V), SqL K H a ys ∧ ys[i]? = some y,
   fun i H v H' => ∃ T y, v = .ref T ∧ H T = none ∧ H' = upd H T (.tup [.int (lo + (i : Nat)), y]) ∧ ∀ ys, SqL K H a ys → ys[i]? = some y,
   fun i H => ∃ ys : List V, SqL K H a ys ∧ ys.length ≤ i⟩
theorem turn_enumS {P : Program} {w : World} {K : PySem.W.Frag} {elts : List Expr} {kk : Nat} {tpos : Pos} (a e it : Addr) (lo : Int) :
    Turn P w K (.Tuple elts kk tpos) (ItE K a lo) [e, it] e (fun i h => (∃ was, IsEnum h e it (lo + ((i : Nat) : Int)) was) ∧ h.IsListIter it a i ∧ e ≠ it) where
  mem := List.mem_cons_self
  obj := fun i h st b hb => by
    obtain ⟨⟨was, he⟩, ⟨o, ho, hc, hd⟩, _⟩ := st
    rcases List.mem_cons.mp hb with z | z
    · subst z
      exact ⟨_, he, fun v q => nomatch q⟩
    · have z' := List.mem_singleton.mp z
      subst z'
      exact ⟨o, ho, fun v q => by rw [hd] at q; cases q⟩
  keep := fun i h h' st k => ⟨st.1.imp fun was he => k e (by simp) _ he, st.2.1.at fun o q => k it (by simp) o q, st.2.2⟩
  item := by
    intro X hP hw hK hc i pins s σ H E I hf st hg
    subst hP hw hK
    obtain ⟨⟨was, he⟩, hit, hne⟩ := st
    obtain ⟨ys, y, hq, hx⟩ := hg
    obtain ⟨its, rv, lp, hz⟩ := I.list hq
    obtain ⟨u, hu, ru⟩ := rv.get hx
    have le : e < s.heap.objs.size := Heap.lt_size he
    have li : it < s.heap.objs.size := by
      obtain ⟨_, q, _⟩ := hit
      exact Heap.lt_size q
    have fr := I.hok.fresh (Nat.le_refl s.heap.objs.size)
    have hL := lp.isList
    have nel : e ≠ a := fun z => by
      obtain ⟨o, ho, hc', _⟩ := hL
      rw [← z, (show s.heap.get? e = some _ from he)] at ho
      cases ho
      injection hc' with z'
      exact absurd z' (by decide)
    have nil' : a ≠ it := fun z => by
      obtain ⟨o, ho, hc', _⟩ := hL
      obtain ⟨o2, ho2, hc2, _⟩ := hit
      rw [z, ho2] at ho
      cases ho
      rw [hc2] at hc'
      injection hc' with z'
      exact absurd z' (by decide)
    have hiu : its.toArray[i]? = some u := by simpa using hu
    have hlt : i < its.toArray.size := by
      by_cases z : i < its.toArray.size
      · exact z
      · rw [Array.getElem?_eq_none (by omega)] at hiu
        cases hiu
    refine wpAny_pyNext_enum_itemC (Draws.list (A := X.A.in1) (I.ok.hd hc) it a nil' its.toArray) he ⟨hit, hL⟩ hlt hne (by simp [hne, nel]) fun x h1 tk hx1 ho hst1 hT hsz hk => ⟨_, rfl, ?_⟩
    rw [hiu] at hx1
    cases hx1
    have hit1 := hst1.1
    refine wpAny_letOwnedTupleGo_enum (s := { s with heap := h1, toks := tk + 1 }) ho fun h2 he2 sb => ?_
    have hT2 := (sb.2 _ (Nat.ne_of_gt le)).trans hT
    have mem2 : ∀ {b : Addr}, b ∈ [e, it] → b < s.heap.objs.size := fun {b} hb => by
      rcases List.mem_cons.mp hb with z | z
      · rw [z]; exact le
      · rw [List.mem_singleton.mp z]; exact li
    refine ⟨.ref s.heap.objs.size, upd H s.heap.objs.size (.tup [.int (lo + (i : Nat)), y]), ?_, rfl, ⟨_, y, rfl, fr, rfl, fun zs hy => by rw [I.list_inj hy hq]; exact hx⟩, ⟨⟨u, ?_⟩, hit1.at fun o q => (sb.2 it (Ne.symm hne)).trans q, hne⟩, fun b hb => ?_⟩
    · refine I.turnedNew (ch := [e, it]) (fun b ob hb q => ?_) hf (Nat.le_refl _) ⟨by show 2 ≤ sizeLine; decide, [.int (lo + (i : Nat)) tk, u], .cons ⟨_, rfl⟩ (.cons ru .nil), ⟨_, hT2, rfl, _, rfl⟩⟩
      have be : b ≠ e := fun z => hb (by simp [z])
      have bi : b ≠ it := fun z => hb (by simp [z])
      exact (sb.2 b be).trans (hk b ob be bi q)
    · have e1 : lo + (((i + 1 : Nat)) : Int) = lo + (i : Int) + 1 := by omega
      rw [e1]
      exact he2
    · rw [upd_ne (Nat.ne_of_lt (mem2 hb))]
      exact (hf b hb).1
  done := by
    intro X hP hw hK hc i pins s σ H E I hf st hg
    subst hP hw hK
    obtain ⟨⟨was, he⟩, hit, hne⟩ := st
    obtain ⟨ys, hq, hx⟩ := hg
    obtain ⟨its, rv, lp, hz⟩ := I.list hq
    obtain ⟨f0, f1, f2, f3, f4, f5⟩ := hf it (by simp)
    have hl := rv.length
    have D : Draws X.prog X.w X.A.in1 it [it, a] i (fun _ _ => False) (fun j h => j = i ∧ h.IsListIter it a i ∧ h.IsList a its.toArray) := {
      live := fun j h st => by
        obtain ⟨_, ⟨o, ho, _⟩, _⟩ := st
        exact ⟨o, ho⟩
      frame := fun j h h' st k => ⟨st.1, st.2.1.at fun o q => k it (by simp) o q, st.2.2.at fun o q => k a (by simp) o q⟩
      item := fun j s Q E hj st _ => by
        have := st.1
        omega
      done := fun s Q E st hE => wpAny_nextOf_list_end (I.ok.hd hc) st.2.1 st.2.2 (by simp; omega) hE }
    exact wpAny_pyNext_enum_endD D he ⟨rfl, hit, lp.isList⟩ fun h1 eb => ⟨rfl, I.turned (t' := s.toks) (fun b o hb q => eb b o hb q) f0 f1 f3 f4 f5⟩
  self := fun A i s Q E st h => st.1.elim fun _ he => wpAny_pyIter_enum he h
def iEnumS (K : PySem.W.Frag) (ta : TA) : TI := fun σ H R => ta σ H fun vs H1 => ∃ a xs lo, vs = [.ref a, .int lo] ∧ SqL K H1 a xs ∧ -(2 ^ 62) ≤ lo ∧ lo < 2 ^ 62 ∧ R (ItE K a lo) H1
theorem pi_enumS {X : Cx} {e1 e2 : Expr} {ta : TA} {p pos tpos : Pos} {elts : List Expr} {kk : Nat} (hg : Gl X "enumerate") (hm : X.mg "enumerate" = none) (ha : PA X [e1, e2] ta)
    (he : starEach (e1 :: [e2]) X.env = (false, eval e1 X.env) :: starEach [e2] X.env := by rfl) (hpl : (backTo pos (starEach [e2] X.env)).any (·.1) = false := by rfl) :
    PI X (.Tuple elts kk tpos) (.Call (.Name "enumerate" p) [e1, e2] [] pos) (iEnumS X.K ta) := by
  refine ⟨fun pins s σ H R I h => ?_⟩
  refine Call_ (ld_blt I hg hm boot_enumerate (PyProof.Rows.callWith_type1 (thn (ha.run pos pins s σ H _ I h) fun us s1 hh => ?_) he hpl))
  obtain ⟨vs, H1, I1, r1, a, xs, lo, ex, hq, hl0, hl1, q⟩ := hh
  subst ex
  obtain ⟨u1, u2, rfl, ra, rb⟩ := vals2 r1
  obtain rfl : u1 = Value.ref a := ra
  obtain ⟨t, rfl⟩ := rb
  obtain ⟨its, rv, lp, hz⟩ := I1.list hq
  refine enum_begins (begins_list a its.toArray) lp.isList (by omega) (by omega) fun h1 he hit hsz hk => wpAny_pyIter_enum he ?_
  have I2 : Inv X pins σ H1 { s1 with heap := h1 } := I1.kept (t' := s1.toks) hk
  refine ⟨s1.heap.objs.size + 1, [s1.heap.objs.size + 1, s1.heap.objs.size], _, _, H1, rfl, I2, turn_enumS a (s1.heap.objs.size + 1) s1.heap.objs.size lo, ⟨⟨.none, by simpa using he⟩, ⟨_, hit, rfl, rfl⟩, Nat.succ_ne_self _⟩, fun b hb => ?_, q⟩
  have hle : s1.heap.objs.size ≤ b := by
    rcases List.mem_cons.mp hb with z | z
    · rw [z]; exact Nat.le_add_right _ _
    · rw [List.mem_singleton.mp z]; exact Nat.le_refl _
  exact I1.fpOk hle (I1.hok.fresh hle)
/-! ### list(text), text * int -/
abbrev sg (z : Str) : List Nat := z.cps.toList
def signsV (z : Str) : List V := (sg z).map fun c => V.str ⟨#[c]⟩
theorem signs_vals : ∀ (l : List Nat) (us : List Value), us.length = l.length → (∀ (j : Nat) (v : Value), us[j]? = some v → ∃ (c : Nat) (u : Tok), l[j]? = some c ∧ v = Value.str ⟨#[c]⟩ u) → Vals (l.map fun c => V.str ⟨#[c]⟩) us
  | [], [], _, _ => .nil
  | c :: l, u :: us, hl, h => by
    obtain ⟨c', t, e1, e2⟩ := h 0 u rfl
    have e1' : c = c' := by simpa using e1
    subst e1'
    exact .cons ⟨t, e2⟩ (signs_vals l us (by simpa using hl) fun j v e => by simpa using h (j + 1) v (by simpa using e))
  | [], _ :: _, hl, _ => by simp at hl
  | _ :: _, [], hl, _ => by simp at hl
theorem call_list_txt {X : Cx} (hc : X.calm = true) : CallR X (.type "list") (fun xs H Q => ∃ z, xs = [.str z] ∧ z.length ≤ sizeLine ∧ ∀ l, H l = none → Q (.ref l) (upd H l (.lst (signsV z)))) := by
  intro pins s σ H xs us Q I r h
  obtain ⟨z, rfl, hz, q⟩ := h
  obtain ⟨u, rfl, rx⟩ := vals1 r
  obtain ⟨t, rfl⟩ := rx
  refine call_list_str (I.ok.hd hc) z t (fun h' tk acc c' hk hS hacc => ?_) (hn := hz)
  have hv : Vals (signsV z) acc.toList := signs_vals _ _ (by simpa [sg] using hacc.1) fun j v e => by
    obtain ⟨c, u, e1, e2⟩ := hacc.2 j v (by simpa using e)
    exact ⟨c, u, by simpa [sg] using e1, e2⟩
  have hlen : (signsV z).length ≤ sizeLine := by simpa [signsV, sg, Str.length] using hz
  exact ⟨.ref s.heap.objs.size, _, I.laid (t' := tk) hk (Nat.le_refl _) (show ObjOk X.prog X.w _ h' _ (.lst (signsV z)) from ⟨hlen, acc.toList, c', hv, hS⟩), rfl, q _ (I.hok.fresh (Nat.le_refl _))⟩
theorem mulOk6 {z : Str} {i : Int} (hz : z.length = 1) (h0 : 0 ≤ i) (h1 : i ≤ 6) : PySem.MulOk z i := by
  have : i = 0 ∨ i = 1 ∨ i = 2 ∨ i = 3 ∨ i = 4 ∨ i = 5 ∨ i = 6 := by omega
  unfold PySem.MulOk
  rw [hz]
  rcases this with rfl | rfl | rfl | rfl | rfl | rfl | rfl <;> decide
theorem op_mul_txt {X : Cx} : OpR X (binaryOp .Mult) (fun x y H Q => ∃ (z : Str) (i : Int), x = .str z ∧ y = .int i ∧ z.length = 1 ∧ 0 ≤ i ∧ i ≤ 6 ∧ Q (.str (Txt.mul z i)) H) := by
  intro pins s σ H x y v u Q I rx ry h
  obtain ⟨z, i, rfl, rfl, hz, h0, h1, q⟩ := h
  obtain ⟨t, rfl⟩ := rx
  obtain ⟨t', rfl⟩ := ry
  exact PySem.SB.mul (mulOk6 hz h0 h1) fun t2 k => ⟨.str (Txt.mul z i), H, I.tok k, ⟨t2, rfl⟩, q⟩
/-! ### a comprehension over a text -/
theorem lc_txt {z : Str} {f : Nat → V} {g : TG} {te : TE} {vs : List Nat} {σ : L2.St} {H : Hp} {D : Addr} {Qd : Hp → Prop} (hD : H D = none) (hz : z.length ≤ 100000)
    (helt : ∀ (c : Nat) (H' : Hp) (R : V → Hp → Prop), c ∈ sg z → Same H H' → R (f c) H' → g (.str ⟨#[c]⟩) (wipe σ vs) H' fun σ2 H2 => wipe σ2 vs = wipe σ vs ∧ te σ2 H2 R)
    (hq : ∀ H', Same H H' → H' D = some (.lst ((sg z).map f)) → Qd H') :
    ∃ W : Nat → Nat → Hp → Prop, (∃ m, W 0 m (upd H D (.lst []))) ∧ ∀ i m H, W i m H →
      ((Its z).stop i H ∧ Qd H) ∨ ((Its z).go i H ∧ ∃ Nx : Hp → Prop, (∀ H', Nx H' → ∃ m', m' < m ∧ W (i + 1) m' H') ∧ ∀ x H', (Its z).yld i H x H' → g x (wipe σ vs) H' fun σ2 H2 => wipe σ2 vs = wipe σ vs ∧ tYes σ2 H2 fun b H3 =>
        if b = true then te σ2 H3 fun y H4 => ∃ acc, H4 D = some (.lst acc) ∧ acc.length < sizeLine ∧ Nx (upd H4 D (.lst (acc ++ [y]))) else Nx H3) := by
  have hsz : z.cps.size = (sg z).length := by simp [sg]
  refine lc_it (walk_str (z := z)) (fun i H' => Same H H' ∧ H' D = some (.lst (((sg z).take i).map f))) ⟨same_new hD _, upd_same⟩ (fun _ _ _ _ => True.intro) ?_ (fun H' h => hq H' h.1 (by rw [hsz] at h; rw [h.2, List.take_length]))
  rintro i x H1 H2 hi ⟨g1, g2⟩ ⟨rfl, c, hc, rfl⟩
  have hc' : (sg z)[i]? = some c := by simpa [sg] using hc
  refine helt c H2 _ (List.mem_of_getElem? hc') g1 ⟨_, g2, ?_, fun b o q => ?_, ?_⟩
  · have : (((sg z).take i).map f).length ≤ z.length := by simp [sg, Str.length]; omega
    exact Nat.lt_of_le_of_lt (Nat.le_trans this hz) (by decide)
  · rw [upd_ne (ne_of_none q hD)]
    exact g1 b o q
  · rw [upd_same, List.take_add_one, hc']
    simp
end Fp
namespace Fp
open PySem PySem.Spec PyProof.Rows L2
/-! ### methods with their promises -/
section
variable {X : Cx} {k i : Nat} {x m : Str} {p pos apos : Pos} {e o : Expr} {es : List Expr} {t : TA} {ta : TE} {C : Addr} {ps : List Str} {sp : Sp}
structure Md (P : Program) (w : World) (K : PySem.W.Frag) (mg : Str → Option Value) (base : Heap) (CX : CXT) (C : Addr) (m : Str) (k : Nat) (ps : List Str) (sp : Sp) : Prop where
  ex : ∃ (f : Addr) (fd : FuncData), Meth K C m f ∧ Binds K fd ps [] ∧ FnOk P w K mg base CX k f fd ps sp
theorem pe_md {pl : Sem Bool} (he : PE X o ta) (c : Cls X.K C) (M : Md X.prog X.w X.K X.mg X.base CX0 C m k ps sp) (hr : Room k X.A) (ha : PA X (e :: es) t)
    (hst : starEach (e :: es) X.env = (false, eval e X.env) :: starEach es X.env := by rfl) (hpl : (backTo pos (starEach es X.env)).any (·.1) = false := by rfl)
    (ht : eval (.Call (.Attribute o m apos) (e :: es) [] pos) X.env = (do
      let ov ← eval o X.env
      standAt apos.atName
      let (f, first) ← holding [ov] (getMethod ov m pl)
      callWith pos f first (backTo pos (starEach (e :: es) X.env)) (backToKw pos (keywordEach [] X.env))) := by rfl) :
    PE X (.Call (.Attribute o m apos) (e :: es) [] pos) (tMeth C m sp [] E0 ta t) := by
  obtain ⟨f, fd, h1, h2, h3⟩ := M.ex
  exact pe_meth he c h1 h3 hr h2 .nil pass0 ha hst hpl ht
theorem pe_md0 {pl : Sem Bool} (he : PE X o ta) (c : Cls X.K C) (M : Md X.prog X.w X.K X.mg X.base CX0 C m k ps sp) (hr : Room k X.A)
    (ht : eval (.Call (.Attribute o m apos) [] [] pos) X.env = (do
      let ov ← eval o X.env
      standAt apos.atName
      let (f, first) ← holding [ov] (getMethod ov m pl)
      callWith pos f first (backTo pos (starEach [] X.env)) (backToKw pos (keywordEach [] X.env))) := by rfl) :
    PE X (.Call (.Attribute o m apos) [] [] pos) (tMeth C m sp [] E0 ta tNil) := by
  obtain ⟨f, fd, h1, h2, h3⟩ := M.ex
  exact pe_meth0 he c h1 h3 hr h2 .nil pass0 ht
end
/-- a statement that is never reached -/
theorem ps_no {X : Cx} {st : Stmt} : PS X st (fun _ _ _ => False) := ⟨fun _ _ _ _ _ _ h => h.elim⟩
/-! ### a class of the module, made with its promise -/
structure MkC (P : Program) (w : World) (K : PySem.W.Frag) (mg : Str → Option Value) (base : Heap) (x : Str) (C : Addr) (k : Nat) (ps : List Str) (sp : Sp) : Prop where
  at_ : mg x = some (.ref C)
  ex : ∃ (f : Addr) (fd : FuncData), Mk K C f ∧ Binds K fd ps [] ∧ FnOk P w K mg base CX0 k f fd ps sp
section
variable {X : Cx} {x : Str} {k : Nat} {ps : List Str} {sp : Sp} {C : Addr} {e : Expr} {es : List Expr} {t : TA} {p pos : Pos}
theorem pe_mk0 (M : MkC X.prog X.w X.K X.mg X.base x C k ps sp) (hr : Room (k + 1) X.A) (hg : Gl X x) (hdb : (x == ("__debug__" : Str)) = false := by decide) : PE X (.Call (.Name x p) [] [] pos) (tMake C sp [] E0 tNil) := by
  obtain ⟨f, fd, h1, h2, h3⟩ := M.ex
  exact pe_make0 h1 h3 hr hg M.at_ h2 .nil pass0 hdb
theorem pe_mk (M : MkC X.prog X.w X.K X.mg X.base x C k ps sp) (hr : Room (k + 1) X.A) (hg : Gl X x) (ha : PA X (e :: es) t) (hdb : (x == ("__debug__" : Str)) = false := by decide)
    (he : starEach (e :: es) X.env = (false, eval e X.env) :: starEach es X.env := by rfl) (hpl : (backTo pos (starEach es X.env)).any (·.1) = false := by rfl) : PE X (.Call (.Name x p) (e :: es) [] pos) (tMake C sp [] E0 t) := by
  obtain ⟨f, fd, h1, h2, h3⟩ := M.ex
  exact pe_make h1 h3 hr hg M.at_ h2 .nil pass0 ha hdb he hpl
end
/-! ### x == y, x != y by an own __eq__ (no own __ne__) -/
section
open PySem.W
variable {prog : Program} {w : World} {A : Around} {E : Value → Shared → Prop} {s : Shared} {K : Frag} {x C L f : Addr} {h₀ : Heap} {m : Str → Option Value} {ox : Obj} {od : Option Obj} {b tb : Value}
theorem tryNe_K {Q : Option Value → Shared → Prop} (hu : A.units + 1 < cLine) (X : K.In s.heap) (I : InstAt s.heap x ox C od) (hne : findIn K (.ref C) "__ne__" = some (some (.builtin "object.__ne__"))) (top : mroIn K C (.type "object") = some true)
    (hs : findIn K (.ref C) "__eq__" = some (some (.ref f))) (hf : isFn K (.ref f) = true)
    (h : wpAny (model prog w) A.in1 (call (.ref f) [.ref x, b]) (fun v s' => ∃ k, v = .bool k ∧ Q (some (.bool (!k))) s') E s) : wpAny (model prog w) A (tryCompare (.ref x) "__ne__" b) Q E s := by
  have inner : ∀ (A' : Around) (hu' : A'.units < cLine) (E' : Value → Shared → Prop) (Q' : Fin → Shared → Prop), wpAny (model prog w) A' (call (.ref f) [.ref x, b]) (fun v s' => ∃ k, v = .bool k ∧ Q' (.done (.ret (.bool (!k)))) s') E' s →
      wpAny (model prog w) A' (Builtin.«object.__ne__» ⟨[.ref x, b], []⟩) Q' E' s := by
    intro A' hu' E' Q' h'
    unfold Builtin.«object.__ne__»
    repeat (first
      | with_reducible refine wpAny_cRoomFor hu' ?_
      | (refine wpAny_bind (m := callSpecialIfBound? (.ref x) (Str.ofString "__eq__") [b])
          (ifBound_K X I hs hf (wpAny_mono h' (fun r s' hr => by
            obtain ⟨k, rfl, hq⟩ := hr
            repeat (first | exact hq | exact wpAny_pure hq | exact wpAny_truthy_bool hq | (refine wpAny_bind (m := truthy (.bool _)) (wpAny_truthy_bool ?_)) | wp_step)) fun _ _ e => e)))
      | wp_step)
  have hi : Looks (model prog w) s.heap (isInstance (.ref x) (.type "object")) true := I.type.andThen (looks_mroIn X top)
  have S := F.slot_object_ne
  have done : ∀ (Q' : Value → Shared → Prop), wpAny (model prog w) A.in1 (call (.ref f) [.ref x, b]) (fun v s' => ∃ k, v = .bool k ∧ Q' (.bool (!k)) s') E s → wpAny (model prog w) A (call (.builtin "object.__ne__") [.ref x, b]) Q' E s := by
    intro Q' h'
    refine wpAny_call (codeAny_call_builtin S.plain PySem.F.cmpEntry_ne (check_slot PySem.F.cmpKind_ne PySem.F.cmpSplit_ne hi (PySem.F.cmpArgs_ne _ _) (inner A.in1 hu _ _ (wpAny_mono h' (fun v s' hv => ?_) fun _ _ e => e))))
    obtain ⟨k, rfl, hq⟩ := hv
    exact ⟨k, rfl, hq⟩
  have one : wpAny (model prog w) A (callSpecialIfBound? (.ref x) "__ne__" [b]) (fun r s' => ∃ k, r = some (.bool k) ∧ Q (some (.bool k)) s') E s := by
    simp only [callSpecialIfBound?, bindSpecialIfBound?]
    refine wpAny_holding (wpAny_bind (wpAny_bind (wpAny_bind (I.type.here ((looks_findIn X hne).here ?_)))))
    refine wpAny_bind (wpAny_askSetting (wpAny_ite ?_))
    have fin : wpAny (model prog w) A (call (.builtin "object.__ne__") ([.ref x] ++ [b]) >>= fun v => pure (some v)) (fun r s' => ∃ k, r = some (.bool k) ∧ Q (some (.bool k)) s') E s :=
      wpAny_bind (done _ (wpAny_mono h (fun v s' hv => by
        obtain ⟨k, rfl, hq⟩ := hv
        exact ⟨k, rfl, wpAny_pure ⟨_, rfl, hq⟩⟩) fun _ _ e => e))
    rw [S.bind]
    split
    · exact wpAny_bind (wpAny_pure (wpAny_pure fin))
    · exact wpAny_tryCatch (wpAny_bind (wpAny_pure (wpAny_pure fin)))
  unfold tryCompare
  refine wpAny_bind (wpAny_mono one (fun r s' z => ?_) fun _ _ e => e)
  obtain ⟨k, rfl, hq⟩ := z
  exact wpAny_pure hq
theorem ne_K {Q : Value → Shared → Prop} (hu : A.units + 1 < cLine) (F : Fr h₀ L s.heap m) (X₀ : K.In h₀) (I : InstAt s.heap x ox C od) (hb : Looks (model prog w) s.heap (typeOf b) tb) (hn : notFirst K C tb = true)
    (hne : findIn K (.ref C) "__ne__" = some (some (.builtin "object.__ne__"))) (top : mroIn K C (.type "object") = some true) (hs : findIn K (.ref C) "__eq__" = some (some (.ref f))) (hf : isFn K (.ref f) = true)
    (h : wpAny (model prog w) A.in1 (call (.ref f) [.ref x, b]) (fun v s' => ∃ k, v = .bool k ∧ Q (.bool (!k)) s') E s) : wpAny (model prog w) A (richCompare .NotEq (.ref x) b) Q E s := by
  have X := X₀.keeps F.keep
  have one : wpAny (model prog w) A (tryCompare (.ref x) "__ne__" b) (fun r s' => ∃ v, r = some v ∧ Q v s') E s :=
    tryNe_K hu X I hne top hs hf (wpAny_mono h (fun v s' hv => by
      obtain ⟨k, rfl, hq⟩ := hv
      exact ⟨k, rfl, _, rfl, hq⟩) fun _ _ e => e)
  unfold richCompare
  simp only [oneThing_ref]
  refine wpAny_holding (wpAny_bind (wpAny_cRoomFor (Nat.lt_of_succ_lt hu) ?_))
  refine wpAny_bind (I.type.here (wpAny_bind (hb.here ?_)))
  split
  · rename_i q
    have e : subIn K tb (.ref C) = some false := by
      rcases Bool.or_eq_true_iff.mp hn with e | e
      · rw [beq_iff_eq.mp e] at q; simp at q
      · exact beq_iff_eq.mp e
    refine wpAny_bind ((looks_subIn X e).here ?_)
    simp only [Bool.false_eq_true, if_false]
    refine wpAny_bind (wpAny_mono one (fun r s' z => ?_) fun _ _ e => e)
    obtain ⟨v, rfl, hq⟩ := z
    exact wpAny_pure hq
  · refine wpAny_bind (wpAny_pure ?_)
    simp only [Bool.false_eq_true, if_false]
    refine wpAny_bind (wpAny_mono one (fun r s' z => ?_) fun _ _ e => e)
    obtain ⟨v, rfl, hq⟩ := z
    exact wpAny_pure hq
end
/-- what a class with an own == must have -/
structure EqC (P : Program) (w : World) (K : PySem.W.Frag) (mg : Str → Option Value) (base : Heap) (C : Addr) (n : Nat) (ps : List Str) (sp : Sp) : Prop where
  ex : ∃ (f : Addr) (fd : FuncData), PySem.W.findIn K (.ref C) "__eq__" = some (some (.ref f)) ∧ PySem.W.isFn K (.ref f) = true ∧ Binds K fd ps [] ∧ FnOk P w K mg base CX0 n f fd ps sp
  ne : PySem.W.findIn K (.ref C) "__ne__" = some (some (.builtin "object.__ne__"))
  top : PySem.W.mroIn K C (.type "object") = some true
def rEqO (K : PySem.W.Frag) (C : Addr) (sp : Sp) (neg : Bool) : R2 := fun x y H Q => ∃ (a dx : Addr) (fs : List (Str × V)) (t : Value), x = .ref a ∧ H a = some (.ins C dx fs) ∧ TyX K H y t ∧ PySem.W.notFirst K C t = true ∧
  sp [x, y] H (fun v H' => ∃ b, v = .bl b ∧ Q (.bl (if neg then !b else b)) H') E0
section
variable {X : Cx} {C : Addr} {n : Nat} {ps : List Str} {sp : Sp}
theorem op_eqO (M : EqC X.prog X.w X.K X.mg X.base C n ps sp) (hr : Room n X.A) : OpR X (compareOp .Eq) (rEqO X.K C sp false) := by
  intro pins s σ H x y v u Q I rx ry h
  obtain ⟨a, dx, fs, t, rfl, ha, ty, hn, q⟩ := h
  cases rx
  obtain ⟨f, fd, hs, hf, hb, F⟩ := M.ex
  obtain ⟨mA, J, _⟩ := ins_get I.hok ha
  obtain ⟨od, J, _⟩ := J.look
  obtain ⟨m, hF⟩ := I.fr
  obtain ⟨Pk, Z, pk, _⟩ := kit_of I ry ty
  show wpAny (model X.prog X.w) X.A (richCompare .Eq (.ref a) u) (EP X pins σ Q) X.xe s
  refine PySem.W.cmp_K (op := .Eq) (tb := t) hr.units0 hF I.ok.mod.kin J (Z.ty _ _ I.kIn pk) hn hs hf ?_
  refine wpAny_mono (run_fn (us := [.ref a, u]) (vs := [.ref a, y]) F hr hb .nil pass0 I (.cons rfl (.cons ry .nil)) (show sp ([V.ref a, y] ++ []) H _ E0 from q)) (fun r s' z => ?_) fun _ _ e => e
  obtain ⟨v, H', I', rv, b, rfl, q'⟩ := z
  cases rv
  exact ⟨.bl b, H', I', rfl, q'⟩
theorem op_neO (M : EqC X.prog X.w X.K X.mg X.base C n ps sp) (hr : Room (n + 1) X.A) : OpR X (compareOp .NotEq) (rEqO X.K C sp true) := by
  intro pins s σ H x y v u Q I rx ry h
  obtain ⟨a, dx, fs, t, rfl, ha, ty, hn, q⟩ := h
  cases rx
  obtain ⟨f, fd, hs, hf, hb, F⟩ := M.ex
  obtain ⟨mA, J, _⟩ := ins_get I.hok ha
  obtain ⟨od, J, _⟩ := J.look
  obtain ⟨m, hF⟩ := I.fr
  obtain ⟨Pk, Z, pk, _⟩ := kit_of I ry ty
  show wpAny (model X.prog X.w) X.A (richCompare .NotEq (.ref a) u) (EP X pins σ Q) X.xe s
  refine ne_K (tb := t) (hu_of hr) hF I.ok.mod.kin J (Z.ty _ _ I.kIn pk) hn M.ne M.top hs hf ?_
  have e0 : Env0 X.prog X.w X.K X.mg X.base X.A.in1 X.stack s H := I.env0.in1
  have r2 : Vals ([V.ref a, y] ++ []) ([Value.ref a, u] ++ []) := (Vals.append (.cons rfl (.cons ry .nil)) .nil)
  have hsp : sp ([V.ref a, y] ++ []) H (fun v H' => ∃ b, v = .bl b ∧ Q (.bl (!b)) H') E0 := q
  have hl : ([Value.ref a, u] ++ []).length = ps.length := by rw [← r2.length]; exact F.len _ _ _ _ hsp
  refine wpAny_call (codeAny_mono (F.run X.A.in1 X.stack s H ⟨[.ref a, u], []⟩ _ _ _ E0 hr.in1 e0 (hb s [.ref a, u] I.kIn hl) r2 hsp) fun r s' hq => ?_)
  cases r with
  | error e => exact pass0 pins σ H s e s' I hq
  | ok fl =>
    cases fl with
    | ret u =>
      obtain ⟨v, H', I', rv, b, rfl, q'⟩ := I.after hq
      cases rv
      exact ⟨b, rfl, .bl (!b), H', I', rfl, q'⟩
    | next => exact False.elim hq
    | brk => exact False.elim hq
    | cont => exact False.elim hq
end
end Fp
/-! Defs that may show data: no repr under way -/
namespace L2
open PySem PySem.Spec PyProof.Rows
structure FnOkG (P : Program) (w : World) (K : PySem.W.Frag) (mg : Str → Option Value) (base : Heap) (CX : CXT) (k : Nat) (f : Addr) (fd : FuncData) (ps : List Str) (sp : Sp) : Prop where
  len : ∀ vs H Q E, sp vs H Q E → vs.length = ps.length
  run : ∀ (A : Around) (outer : List Env) (s : Shared) (H : Hp) (args : Args) (us : List Value) (vs : List V) (Q : VK) (E : XK), Room k A → A.guards = some [] → Env0 P w K mg base A outer s H → BindsTo s fd args (ps.zip us) → Vals vs us → sp vs H Q E →
    codeAny (model P w) A (.call (.ref f) args) (CR CX outer P w H s Q E) s
theorem fn_ofG {CX : CXT} {P : Program} {w : World} {K : PySem.W.Frag} {mg : Str → Option Value} {base : Heap} {k : Nat} {f : Addr} {name qual : Str} {params : Arguments} {body : List Stmt} {scope : Scope} {dV kV doc pm cdv ct oc : Value} {an od : Option Addr}
    {osl : Array (Option Value)} {N ps : List Str} {sp : Sp} (lk : K.lookup f = some ⟨oc, od, .func (PySem.W.fnOf name qual params body scope dV kV doc pm an cdv ct), osl⟩) (hcd : PySem.W.codeIn K cdv qual = true) (S : FnScope N ps scope)
    (len : ∀ vs H Q E, sp vs H Q E → vs.length = ps.length)
    (hbody : ∀ (A : Around) (outer : List Env) (s : Shared) (H : Hp) (vs : List V) (Q : VK) (E : XK), Room k (A.deeper (envOfC qual scope s.heap.objs.size f cdv)) → (A.deeper (envOfC qual scope s.heap.objs.size f cdv)).guards = some [] → sp vs H Q E →
      ∃ t, PSs (cxOf CX P w K mg base N qual scope f cdv A outer s H E) body t ∧ t { nx := fun _ H' => Q .non H', rt := Q } (start N vs) H) :
    FnOkG P w K mg base CX (k + 1) f (PySem.W.fnOf name qual params body scope dV kV doc pm an cdv ct) ps sp := by
  refine ⟨len, fun A outer s H args us vs Q E hr hgu e0 hb r hsp => ?_⟩
  have hl := len _ _ _ _ hsp
  have KX : K.In s.heap := e0.mod.kin.keeps fun b o e => (e0.bs b o e).1
  have lim : s.heap.NoLimit := e0.mod.nolimit.keeps fun b o e => (e0.bs b o e).1
  have hkind : ∀ y ∈ ps.zip us, scope.names.lookup y.1 = some .local ∨ (scope.names.lookup y.1 = some .cell ∧ ((cellsFrom (s.heap.objs.size + 1) scope.names []).lookup y.1).isSome = true) := fun ⟨n, v⟩ hy => by
    rcases S.par n (List.of_mem_zip hy).1 with q | q
    · exact .inl q
    · exact .inr ⟨q, PySem.W.cellsFrom_some _ _ _ (.inl q)⟩
  refine codeAny_call_function hr.depth (KX _ _ lk) rfl S.co S.gen rfl (PySem.W.codeRec_of KX hcd) (hb _ _ _ _ ?_)
  refine wpAny_newFunctionEnv_cells S.kind hkind fun env he s1 x => ?_
  subst he
  refine ⟨lim.keeps x.toInCall.keep, codeAny_func ?_⟩
  obtain ⟨t, ht, hq⟩ := hbody A outer s H vs Q E (hr.deeper _) hgu hsp
  have I : Inv (cxOf CX P w K mg base N qual scope f cdv A outer s H E) [] (start N vs) H s1 := inv_start S hr.hd e0 hl r x
  refine wpAny_mono (ht.run [] s1 (start N vs) H _ I hq) (fun fl s' hs => ?_) fun e s' hs => hs
  have fin : ∀ {σ' : St} {H' : Hp} {v : V} {u : Value}, Inv (cxOf CX P w K mg base N qual scope f cdv A outer s H E) [] σ' H' s' → RelV v u → Q v H' → CE outer P w H s Q u s' :=
    fun {σ' H' v u} J rv q => ⟨v, H', J.os, J.bare, J.base, J.hok, rv, q⟩
  cases fl with
  | ret u =>
    obtain ⟨v, σ', H', J, rv, q⟩ := hs
    exact fin J rv q
  | next =>
    obtain ⟨σ', H', J, q⟩ := hs
    exact fin (v := V.non) (u := Value.none) J rfl q
  | brk =>
    obtain ⟨_, _, _, q⟩ := hs
    exact False.elim q
  | cont =>
    obtain ⟨_, _, _, q⟩ := hs
    exact False.elim q
theorem law_callG {P : Program} {w : World} {K : PySem.W.Frag} {mg mb : Str → Option Value} {CX : CXT} {k : Nat} {fa a : Addr} {fd : FuncData} {x : Str} {sp : Sp} {s₁ : Shared} {vs : List Value} {ns : List Int}
    (KX : K.In s₁.heap) (hns : s₁.heap.Ns mainGlobals mg) (hb : s₁.heap.Ns builtinsNs mb) (hbb : ∀ x : Str, x ≠ "__name__" → mb x = bootBuiltins x) (hlim : s₁.heap.NoLimit) (hg : s₁.gens = #[])
    (ha : s₁.heap.get? a = some { cls := .type "list", data := .seq vs.toArray }) (hi : IntsAre vs ns) (hl : ns.length ≤ sizeLine) (hr : Room k callerA)
    (F : ∀ base : Heap, K.In base → base.Ns mainGlobals mg → FnOkG P w K mg base CX k fa fd [x] sp) (hbind : ∀ (s : Shared) (u : Value), BindsTo s fd ⟨[u], []⟩ [(x, u)])
    (hsp : ∀ H : Hp, Only H → SqL K H a (ns.map V.int) → sp [.ref a] H (fun v _ => v = .bl true) fun _ _ _ => False)
    (hCX : ∀ H e s', CX [] H s₁ (fun _ _ _ => False) e s' → False) :
    codeAny (model P w) callerA (.call (.ref fa) ⟨[.ref a], []⟩) (fun r s' => r = .ok (.ret (.bool true)) ∧ OldK s₁.heap s'.heap ∧ s'.os = s₁.os ∧ AllBare s'.gens) s₁ := by
  have rv := vals_ints hi
  have lenV := hi.length
  -- from an abstract heap in which nothing but the script may be tracked
  have core : ∀ H : Hp, Only H → SqL K H a (ns.map V.int) → HOk P w H s₁.heap → (∀ b, H b ≠ none → b = a) → (H a ≠ none → K.lookup a = none) →
      codeAny (model P w) callerA (.call (.ref fa) ⟨[.ref a], []⟩) (fun r s' => r = .ok (.ret (.bool true)) ∧ OldK s₁.heap s'.heap ∧ s'.os = s₁.os ∧ AllBare s'.gens) s₁ := by
    intro H hO hS hok hA hK
    have base_of : ∀ {b : Addr} {o : Obj}, s₁.heap.get? b = some o → H b = none → (hidT s₁.heap H).get? b = some o := fun e n => hidT_get e n
    have noA : ∀ {b : Addr} {o : Obj} {es : Array DictEntry} {ep : Nat}, s₁.heap.get? b = some o → o.data = .dict es ep → H b = none := fun {b o es ep} e d => by
      cases q : H b with
      | none => rfl
      | some u =>
        have e' : b = a := hA b (by rw [q]; simp)
        subst e'
        rw [ha] at e; cases e
        have d' : Data.seq vs.toArray _ = Data.dict es ep := d
        cases d'
    have nsK : ∀ {b : Addr} {m : Str → Option Value}, s₁.heap.Ns b m → (hidT s₁.heap H).Ns b m := fun {b m} ⟨o, es, ep, e, d, r⟩ => ⟨o, es, ep, base_of e (noA e d), d, r⟩
    have hKb : K.In (hidT s₁.heap H) := fun b o e => base_of (KX b o e) (by
      cases q : H b with
      | none => rfl
      | some u =>
        have e' : b = a := hA b (by rw [q]; simp)
        subst e'
        rw [hK (by rw [q]; simp)] at e; cases e)
    have hM : Mod K mg (hidT s₁.heap H) := ⟨hKb, nsK hns, ⟨mb, nsK hb, hbb⟩, let ⟨mc, h1, h2⟩ := hlim; ⟨mc, nsK h1, h2⟩⟩
    have e0 : Env0 P w K mg (hidT s₁.heap H) callerA [] s₁ H := ⟨rfl, hM, fun b o e => of_hidT e, Nat.le_of_eq (hidT_size _ _), trivial, fun b hb => absurd (show b ∈ ([] : List Addr) from hb) (by simp), hok, .of_eq hg⟩
    refine codeAny_mono ((F _ hKb (nsK hns)).run callerA [] s₁ H ⟨[.ref a], []⟩ [.ref a] [.ref a] _ _ hr rfl e0 (hbind s₁ (.ref a)) (.cons rfl .nil) (hsp H hO hS)) fun r s' h => ?_
    cases r with
    | error e => exact (hCX H e s' h).elim
    | ok fl =>
      cases fl with
      | next => exact False.elim h
      | brk => exact False.elim h
      | cont => exact False.elim h
      | ret u =>
        obtain ⟨v, H', os, bare, un, hok', r', q⟩ := h
        have q' : v = .bl true := q
        subst q'
        obtain rfl : u = Value.bool true := r'
        refine ⟨rfl, OldK.of_keep fun b o e => ?_, os, bare⟩
        cases q : H b with
        | none => exact un.keep b o e q (by intro z; exact absurd (show b ∈ ([] : List Addr) from z) (by simp)) (by simp)
        | some u =>
          rcases hO b with z | ⟨ob, xs, z⟩
          · rw [q] at z; cases z
          · have z2 := un.frzs b ob _ z
            obtain ⟨e1, _⟩ := hok b _ z
            obtain ⟨e2, _⟩ := hok' b _ z2
            rw [e] at e1; cases e1
            exact e2
  cases hk : K.lookup a with
  | some o =>
    -- the script is one of the module's own objects
    have e := KX a o hk
    rw [ha] at e
    cases e
    refine core (fun _ => none) (fun _ => .inl rfl) (.inr ⟨_, vs.toArray, _, hk, rfl, rfl, rfl, by rw [List.size_toArray, lenV]; exact hl, by simpa using rv⟩) (fun b u z => by have z' : (none : Option HO) = some u := z; cases z') (fun b z => absurd rfl z) fun z => absurd rfl z
  | none =>
    refine core (fun b => if b = a then some (.frz { cls := .type "list", data := .seq vs.toArray } (.lst (ns.map V.int))) else none) (fun b => ?_) (.inl (.inr ⟨{ cls := .type "list", data := .seq vs.toArray }, if_pos rfl⟩)) (fun b u z => ?_) (fun b z => ?_) fun _ => hk
    · by_cases hb : b = a
      · exact .inr ⟨_, _, if_pos hb⟩
      · exact .inl (if_neg hb)
    · by_cases hb : b = a
      · have z' := (if_pos hb).symm.trans z
        cases z'
        subst hb
        exact ⟨ha, by rw [List.length_map]; exact hl, vs, _, rv, ha⟩
      · have z' := (if_neg hb).symm.trans z
        cases z'
    · by_cases hb : b = a
      · exact hb
      · exact absurd (if_neg hb) z
theorem walk_ofG {l : PySem.W.OpenLaw} {n k : Nat} {q : Program} {loose : List Str} {XP : (Str → Option Value) → Heap → Prop} {YP : World → Heap → Prop} {d : DefRec} {K : Params → PySem.W.Frag} {CX : World → CXT} {sp : World → Sp} {x : Str}
    (hn : l.most = some n) (hn2 : n ≤ sizeLine) (hdf : d.params.defaults = []) (hr : Room k callerA)
    (hY : ∀ (w : World) (h : Heap), YP w h → (K w.params).In h)
    (F : ∀ (w : World) (mg : Str → Option Value) (fa : Addr) (h : Heap), (K w.params).In h → h.Ns mainGlobals mg → mg d.name = some (.ref fa) →
      ∃ fd : FuncData, (∀ (s : Shared) (u : Value), BindsTo s fd ⟨[u], []⟩ [(x, u)]) ∧
        ∀ base : Heap, (K w.params).In base → base.Ns mainGlobals mg → FnOkG l.prog w (K w.params) mg base (CX w) k fa fd [x] (sp w))
    (hsp : ∀ (w : World) (H : Hp) (a : Addr) (ns : List Int), ns.length ≤ n → Only H → SqL (K w.params) H a (ns.map V.int) → sp w [.ref a] H (fun v _ => v = .bl true) fun _ _ _ => False)
    (hCX : ∀ (w : World) (H : Hp) (s : Shared) (e : Value) (s' : Shared), CX w [] H s (fun _ _ _ => False) e s' → False) :
    PySem.W.WalkO q loose XP YP l.row.toRowW d [] (fun f vs => PySem.call f vs) := by
  refine Att.attach_call hn hdf fun w s₀ s₁ mg mb fa o pm cd doc a vs ns G Y ho hd hcd hmg hobj hints hlen hg => ?_
  have KX := hY w _ Y
  obtain ⟨fd, hb, hF⟩ := F w mg fa _ KX G.T.g hmg
  exact law_callG KX G.T.g G.T.b G.T.builtins G.T.nolimit hg hobj hints (Nat.le_trans hlen hn2) hr hF hb (fun H hO hS => hsp w H a ns hlen hO hS) fun H e s' => hCX w H s₁ e s'
theorem FnOk.toG {P : Program} {w : World} {K : PySem.W.Frag} {mg : Str → Option Value} {base : Heap} {CX : CXT} {k : Nat} {f : Addr} {fd : FuncData} {ps : List Str} {sp : Sp} (F : FnOk P w K mg base CX k f fd ps sp) : FnOkG P w K mg base CX k f fd ps sp :=
  ⟨F.len, fun A outer s H args us vs Q E hr _ => F.run A outer s H args us vs Q E hr⟩
end L2
namespace Fp
open PySem PySem.Spec PyProof.Rows L2
section
variable {P : Program} {w : World} {K : PySem.W.Frag} {mg : Str → Option Value} {base : Heap}
theorem fun_okG {x qual : Str} {st : Stmt} {f : Addr} {fd : FuncData} {N ps : List Str} {k : Nat} {sp : Sp} (F : Fun K x qual st f fd) (S : FnScope N ps (defScope st)) (len : ∀ vs H Q E, sp vs H Q E → vs.length = ps.length)
    (hbody : ∀ (cdv : Value) (A : Around) (outer : List Env) (s : Shared) (H : Hp) (vs : List V) (Q : VK) (E : XK), Room k (A.deeper (envOfC qual (defScope st) s.heap.objs.size f cdv)) → (A.deeper (envOfC qual (defScope st) s.heap.objs.size f cdv)).guards = some [] → sp vs H Q E →
      ∃ t, PSs (cxOf CX0 P w K mg base N qual (defScope st) f cdv A outer s H E).nox (defBody st) t ∧ t { nx := fun _ H' => Q .non H', rt := Q } (start N vs) H) : FnOkG P w K mg base CX0 (k + 1) f fd ps sp := by
  obtain ⟨oc, od, kV, doc, pm, an, cdv, ct, osl, rfl, lk, hcd⟩ := F.ex
  refine fn_ofG lk hcd S len fun A outer s H vs Q E hr hg hsp => ?_
  obtain ⟨t, h, q⟩ := hbody cdv A outer s H vs Q E hr hg hsp
  exact ⟨t, h.nox, q⟩
structure FdG (P : Program) (w : World) (K : PySem.W.Frag) (mg : Str → Option Value) (base : Heap) (CX : CXT) (x : Str) (k : Nat) (ps : List Str) (sp : Sp) : Prop where
  ex : ∃ (f : Addr) (fd : FuncData), mg x = some (.ref f) ∧ PySem.W.keepIn K (.ref f) = true ∧ Binds K fd ps [] ∧ FnOkG P w K mg base CX k f fd ps sp
end
section
variable {X : Cx} {x : Str} {k : Nat} {ps : List Str} {sp : Sp} {e : Expr} {es : List Expr} {t : TA} {p pos : Pos}
theorem pe_fdG (G : FdG X.prog X.w X.K X.mg X.base CX0 x k ps sp) (hr : Room k X.A) (hgu : X.A.guards = some []) (hg : Gl X x) (ha : PA X (e :: es) t) (hdb : (x == ("__debug__" : Str)) = false := by decide)
    (he : starEach (e :: es) X.env = (false, eval e X.env) :: starEach es X.env := by rfl) (hpl : (backTo pos (starEach es X.env)).any (·.1) = false := by rfl) :
    PE X (.Call (.Name x p) (e :: es) [] pos) (tCall sp [] E0 t) := by
  obtain ⟨f, fd, hm, hk, hb, F⟩ := G.ex
  refine ⟨fun pins s σ H Q I h => ?_⟩
  refine wpAny_Call_Name_kw (ld_glob I hg hm ?_ hdb)
  refine PySem.W.callWith_K (h₀ := X.base) I.ok.mod.kin hk (thn (ha.run pos pins s σ H _ I h) fun us s1 ⟨vs, H1, I1, r, q⟩ => ⟨I1.kIn, ?_⟩) he hpl
  have r2 : Vals (vs ++ []) (us ++ []) := r.append .nil
  have hl : (us ++ []).length = ps.length := by rw [← r2.length]; exact F.len _ _ _ _ q
  refine wpAny_call (codeAny_mono (F.run X.A X.stack s1 H1 ⟨us, []⟩ (us ++ []) (vs ++ []) Q E0 hr hgu I1.env0 (hb s1 us I1.kIn hl) r2 q) fun r s' hq => ?_)
  cases r with
  | error e => exact pass0 pins σ H1 s1 e s' I1 hq
  | ok fl =>
    cases fl with
    | ret u => exact I1.after hq
    | next => exact False.elim hq
    | brk => exact False.elim hq
    | cont => exact False.elim hq
/-- repr(x), x of data -/
theorem call_reprG (hgu : X.A.guards = some []) (hu : X.A.units + 64 < cLine) : CallR X (.builtin "repr") (fun xs H Q => ∃ (p : Addr) (d : PyData), xs = [.ref p] ∧ Dp X.K H (.ref p) d ∧ d.showable = true ∧ d.hasDict = false ∧ d.depth ≤ 60 ∧ d.shown.length ≤ sizeLine ∧ Q (.str d.shown) H) := by
  intro pins s σ H xs us Q I r h
  obtain ⟨p, d, rfl, hd, h1, h2, h3, h4, q⟩ := h
  obtain ⟨u, rfl, rx⟩ := vals1 r
  obtain ⟨as, rd⟩ := Dp.reads I d _ u hd rx
  cases rx
  exact repr_of_reads' rd h1 (fun z => by rw [h2] at z; cases z) hgu (by omega) (fun _ _ z => z) (fun h' u tk k => ⟨.str d.shown, H, I.kept (t' := tk) k, ⟨_, rfl⟩, q⟩) h4
end
end Fp
namespace Fp
open PySem PySem.Spec PyProof.Rows L2
/-! ### for i, x in enumerate(tuple, start) -/
def ItF (K : PySem.W.Frag) (a : Addr) (lo : Int) : It :=
  ⟨fun i H => ∃ (ys : List V) (y : V), SqT K H a ys ∧ ys[i]? = some y,
   fun i H v H' => ∃ T y, v = .ref T ∧ H T = none ∧ H' = upd H T (.tup [.int (lo + (i : Nat)), y]) ∧ ∀ ys, SqT K H a ys → ys[i]? = some y,
   fun i H => ∃ ys : List V, SqT K H a ys ∧ ys.length ≤ i⟩
theorem turn_enumF {P : Program} {w : World} {K : PySem.W.Frag} {elts : List Expr} {kk : Nat} {tpos : Pos} (a e it : Addr) (lo : Int) :
    Turn P w K (.Tuple elts kk tpos) (ItF K a lo) [e, it] e (fun i h => (∃ was, IsEnum h e it (lo + ((i : Nat) : Int)) was) ∧ h.IsTupleIter it a i ∧ e ≠ it) where
  mem := List.mem_cons_self
  obj := fun i h st b hb => by
    obtain ⟨⟨was, he⟩, ⟨o, ho, hc, hd⟩, _⟩ := st
    rcases List.mem_cons.mp hb with z | z
    · subst z
      exact ⟨_, he, fun v q => nomatch q⟩
    · have z' := List.mem_singleton.mp z
      subst z'
      exact ⟨o, ho, fun v q => by rw [hd] at q; cases q⟩
  keep := fun i h h' st k => ⟨st.1.imp fun was he => k e (by simp) _ he, st.2.1.at fun o q => k it (by simp) o q, st.2.2⟩
  item := by
    intro X hP hw hK hc i pins s σ H E I hf st hg
    subst hP hw hK
    obtain ⟨⟨was, he⟩, hit, hne⟩ := st
    obtain ⟨ys, y, hq, hx⟩ := hg
    obtain ⟨its, rv, lp, hz⟩ := I.tuple hq
    obtain ⟨u, hu, ru⟩ := rv.get hx
    have le : e < s.heap.objs.size := Heap.lt_size he
    have li : it < s.heap.objs.size := by
      obtain ⟨_, q, _⟩ := hit
      exact Heap.lt_size q
    have fr := I.hok.fresh (Nat.le_refl s.heap.objs.size)
    have hL := lp
    have nel : e ≠ a := fun z => by
      obtain ⟨o, ho, hc', _⟩ := hL
      rw [← z, (show s.heap.get? e = some _ from he)] at ho
      cases ho
      injection hc' with z'
      exact absurd z' (by decide)
    have nil' : a ≠ it := fun z => by
      obtain ⟨o, ho, hc', _⟩ := hL
      obtain ⟨o2, ho2, hc2, _⟩ := hit
      rw [z, ho2] at ho
      cases ho
      rw [hc2] at hc'
      injection hc' with z'
      exact absurd z' (by decide)
    have hiu : its.toArray[i]? = some u := by simpa using hu
    have hlt : i < its.toArray.size := by
      by_cases z : i < its.toArray.size
      · exact z
      · rw [Array.getElem?_eq_none (by omega)] at hiu
        cases hiu
    refine wpAny_pyNext_enum_itemC (Draws.tuple (A := X.A.in1) (I.ok.hd hc) it a nil' its.toArray) he ⟨hit, hL⟩ hlt hne (by simp [hne, nel]) fun x h1 tk hx1 ho hst1 hT hsz hk => ⟨_, rfl, ?_⟩
    rw [hiu] at hx1
    cases hx1
    have hit1 := hst1.1
    refine wpAny_letOwnedTupleGo_enum (s := { s with heap := h1, toks := tk + 1 }) ho fun h2 he2 sb => ?_
    have hT2 := (sb.2 _ (Nat.ne_of_gt le)).trans hT
    have mem2 : ∀ {b : Addr}, b ∈ [e, it] → b < s.heap.objs.size := fun {b} hb => by
      rcases List.mem_cons.mp hb with z | z
      · rw [z]; exact le
      · rw [List.mem_singleton.mp z]; exact li
    refine ⟨.ref s.heap.objs.size, upd H s.heap.objs.size (.tup [.int (lo + (i : Nat)), y]), ?_, rfl, ⟨_, y, rfl, fr, rfl, fun zs hy => by rw [I.tuple_inj hy hq]; exact hx⟩, ⟨⟨u, ?_⟩, hit1.at fun o q => (sb.2 it (Ne.symm hne)).trans q, hne⟩, fun b hb => ?_⟩
    · refine I.turnedNew (ch := [e, it]) (fun b ob hb q => ?_) hf (Nat.le_refl _) ⟨by show 2 ≤ sizeLine; decide, [.int (lo + (i : Nat)) tk, u], .cons ⟨_, rfl⟩ (.cons ru .nil), ⟨_, hT2, rfl, _, rfl⟩⟩
      have be : b ≠ e := fun z => hb (by simp [z])
      have bi : b ≠ it := fun z => hb (by simp [z])
      exact (sb.2 b be).trans (hk b ob be bi q)
    · have e1 : lo + (((i + 1 : Nat)) : Int) = lo + (i : Int) + 1 := by omega
      rw [e1]
      exact he2
    · rw [upd_ne (Nat.ne_of_lt (mem2 hb))]
      exact (hf b hb).1
  done := by
    intro X hP hw hK hc i pins s σ H E I hf st hg
    subst hP hw hK
    obtain ⟨⟨was, he⟩, hit, hne⟩ := st
    obtain ⟨ys, hq, hx⟩ := hg
    obtain ⟨its, rv, lp, hz⟩ := I.tuple hq
    obtain ⟨f0, f1, f2, f3, f4, f5⟩ := hf it (by simp)
    have hl := rv.length
    have D : Draws X.prog X.w X.A.in1 it [it, a] i (fun _ _ => False) (fun j h => j = i ∧ h.IsTupleIter it a i ∧ h.IsTuple a its.toArray) := {
      live := fun j h st => by
        obtain ⟨_, ⟨o, ho, _⟩, _⟩ := st
        exact ⟨o, ho⟩
      frame := fun j h h' st k => ⟨st.1, st.2.1.at fun o q => k it (by simp) o q, st.2.2.at fun o q => k a (by simp) o q⟩
      item := fun j s Q E hj st _ => by
        have := st.1
        omega
      done := fun s Q E st hE => wpAny_nextOf_tuple_end (I.ok.hd hc) st.2.1 st.2.2 (by simp; omega) hE }
    exact wpAny_pyNext_enum_endD D he ⟨rfl, hit, lp⟩ fun h1 eb => ⟨rfl, I.turned (t' := s.toks) (fun b o hb q => eb b o hb q) f0 f1 f3 f4 f5⟩
  self := fun A i s Q E st h => st.1.elim fun _ he => wpAny_pyIter_enum he h
def iEnumF (K : PySem.W.Frag) (ta : TA) : TI := fun σ H R => ta σ H fun vs H1 => ∃ a xs lo, vs = [.ref a, .int lo] ∧ SqT K H1 a xs ∧ -(2 ^ 62) ≤ lo ∧ lo < 2 ^ 62 ∧ R (ItF K a lo) H1
theorem pi_enumF {X : Cx} {e1 e2 : Expr} {ta : TA} {p pos tpos : Pos} {elts : List Expr} {kk : Nat} (hg : Gl X "enumerate") (hm : X.mg "enumerate" = none) (ha : PA X [e1, e2] ta)
    (he : starEach (e1 :: [e2]) X.env = (false, eval e1 X.env) :: starEach [e2] X.env := by rfl) (hpl : (backTo pos (starEach [e2] X.env)).any (·.1) = false := by rfl) :
    PI X (.Tuple elts kk tpos) (.Call (.Name "enumerate" p) [e1, e2] [] pos) (iEnumF X.K ta) := by
  refine ⟨fun pins s σ H R I h => ?_⟩
  refine Call_ (ld_blt I hg hm boot_enumerate (PyProof.Rows.callWith_type1 (thn (ha.run pos pins s σ H _ I h) fun us s1 hh => ?_) he hpl))
  obtain ⟨vs, H1, I1, r1, a, xs, lo, ex, hq, hl0, hl1, q⟩ := hh
  subst ex
  obtain ⟨u1, u2, rfl, ra, rb⟩ := vals2 r1
  obtain rfl : u1 = Value.ref a := ra
  obtain ⟨t, rfl⟩ := rb
  obtain ⟨its, rv, lp, hz⟩ := I1.tuple hq
  refine enum_begins (begins_tuple a its.toArray) lp (by omega) (by omega) fun h1 he hit hsz hk => wpAny_pyIter_enum he ?_
  have I2 : Inv X pins σ H1 { s1 with heap := h1 } := I1.kept (t' := s1.toks) hk
  refine ⟨s1.heap.objs.size + 1, [s1.heap.objs.size + 1, s1.heap.objs.size], _, _, H1, rfl, I2, turn_enumF a (s1.heap.objs.size + 1) s1.heap.objs.size lo, ⟨⟨.none, by simpa using he⟩, ⟨_, hit, rfl, rfl⟩, Nat.succ_ne_self _⟩, fun b hb => ?_, q⟩
  have hle : s1.heap.objs.size ≤ b := by
    rcases List.mem_cons.mp hb with z | z
    · rw [z]; exact Nat.le_add_right _ _
    · rw [List.mem_singleton.mp z]; exact Nat.le_refl _
  exact I1.fpOk hle (I1.hok.fresh hle)

set_option maxHeartbeats 1000000 in
theorem meets_enumerate_newB1 {v : Value} {o : Obj} {H : Heap → Prop} (B : Begins v o H) :
    Meets (Builtin.«enumerate.__new__» ⟨[.type "enumerate", v], []⟩) (fun _ R s => H s.heap ∧
      R (.ok (.ret (.ref (s.heap.push o).objs.size))) { s with heap := (s.heap.push o).push { cls := .type "enumerate", data := .fields #[.none, .bool false, .ref s.heap.objs.size, rawInt 0, .none, .none] } }) :=
  .of_wp fun prog w A R s h => by
    obtain ⟨hp, g, d, tk, os⟩ := s; obtain ⟨h1, h⟩ := h
    have hsub := sub_enumerate
    have q1 : ∀ {A' : Around} {E : Value → Shared → Prop} {Q : Value → Shared → Prop}, Q (.ref hp.objs.size) ⟨hp.push o, g, d, tk, os⟩ → wpAny (model prog w) A' (pyIter v) Q E ⟨hp, g, d, tk, os⟩ :=
      fun q => B.iter prog w _ _ ⟨hp, g, d, tk, os⟩ _ h1 q
    wp_walk using q1
    refine wpAny_stack_any fun st => wpAny_pure ?_
    split
    · rename_i c _ _ _ _ _
      cases (c == Value.type "enumerate")
      · wp_walk using q1
        exact ⟨_, rfl, h⟩
      · wp_walk using q1
        exact ⟨_, rfl, h⟩
    · wp_walk using q1
      exact ⟨_, rfl, h⟩
section
variable {prog : Program} {w : World} {A : Around} {E : Value → Shared → Prop} {s : Shared}
theorem enum_begins1 {v : Value} {o : Obj} {H : Heap → Prop} {Q : Value → Shared → Prop} (B : Begins v o H) (h1 : H s.heap)
    (h : ∀ h', IsEnum h' (s.heap.objs.size + 1) s.heap.objs.size 0 .none → h'.get? s.heap.objs.size = some o → h'.objs.size = s.heap.objs.size + 2 →
      (∀ b o, s.heap.get? b = some o → h'.get? b = some o) → Q (.ref (s.heap.objs.size + 1)) { s with heap := h' }) :
    wpAny (model prog w) A (call (.type "enumerate") [v]) Q E s := by
  refine callType_new F.called_enumerate (by decide) (F.typeCall_enumerate_1 _) (F.newCall_enumerate_1 _) (fun obj => F.args_object_init_2 obj _) F.entry_enumerate_new
    (meets_enumerate_newB1 B) ⟨h1, ?_⟩
  have hz : (s.heap.push o).objs.size = s.heap.objs.size + 1 := Heap.size_push ..
  show _ ∧ _
  rw [hz]
  have he : IsEnum ((s.heap.push o).push { cls := .type "enumerate", data := .fields #[.none, .bool false, .ref s.heap.objs.size, rawInt 0, .none, .none] }) (s.heap.objs.size + 1) s.heap.objs.size 0 .none := by
    have := Heap.get?_push_size (s.heap.push o) (o := { cls := .type "enumerate", data := .fields #[.none, .bool false, .ref s.heap.objs.size, rawInt 0, .none, .none] }) rfl
    rw [hz] at this; exact this
  refine ⟨⟨_, he, rfl⟩, h _ he (Heap.get?_push_of_some _ (Heap.get?_push_size _ B.free)) (by rw [Heap.size_push, hz]) fun b o x => Heap.get?_push_of_some _ (Heap.get?_push_of_some _ x)⟩
end
def iEnumT (K : PySem.W.Frag) (ta : TA) : TI := fun σ H R => ta σ H fun vs H1 => ∃ a xs, vs = [.ref a] ∧ SqT K H1 a xs ∧ R (ItF K a 0) H1
theorem pi_enumT {X : Cx} {e1 : Expr} {ta : TA} {p pos tpos : Pos} {elts : List Expr} {kk : Nat} (hg : Gl X "enumerate") (hm : X.mg "enumerate" = none) (ha : PA X [e1] ta)
    (hs : starEach [e1] X.env = [(false, eval e1 X.env)] := by rfl) :
    PI X (.Tuple elts kk tpos) (.Call (.Name "enumerate" p) [e1] [] pos) (iEnumT X.K ta) := by
  refine ⟨fun pins s σ H R I h => ?_⟩
  refine Call_ (ld_blt I hg hm boot_enumerate (PyProof.Rows.callWith_type1 (thn (ha.run pos pins s σ H _ I h) fun us s1 hh => ?_) hs rfl))
  obtain ⟨vs, H1, I1, r1, a, xs, ex, hq, q⟩ := hh
  subst ex
  obtain ⟨u1, rfl, ra⟩ := vals1 r1
  obtain rfl : u1 = Value.ref a := ra
  obtain ⟨its, rv, lp, hz⟩ := I1.tuple hq
  refine enum_begins1 (begins_tuple a its.toArray) lp fun h1 he hit hsz hk => wpAny_pyIter_enum he ?_
  have I2 : Inv X pins σ H1 { s1 with heap := h1 } := I1.kept (t' := s1.toks) hk
  refine ⟨s1.heap.objs.size + 1, [s1.heap.objs.size + 1, s1.heap.objs.size], _, _, H1, rfl, I2, turn_enumF a (s1.heap.objs.size + 1) s1.heap.objs.size 0, ⟨⟨.none, by simpa using he⟩, ⟨_, hit, rfl, rfl⟩, Nat.succ_ne_self _⟩, fun b hb => ?_, q⟩
  have hle : s1.heap.objs.size ≤ b := by
    rcases List.mem_cons.mp hb with z | z
    · rw [z]; exact Nat.le_add_right _ _
    · rw [List.mem_singleton.mp z]; exact Nat.le_refl _
  exact I1.fpOk hle (I1.hok.fresh hle)
theorem walk_enumT {K : PySem.W.Frag} {a : Addr} {xs : List V} {lo : Int} : Walk (ItF K a lo) xs.length (fun H => SqT K H a xs) (fun i H v H' => ∃ T y, v = .ref T ∧ H T = none ∧ H' = upd H T (.tup [.int (lo + (i : Nat)), y]) ∧ xs[i]? = some y) where
  goes := fun i H hi h => ⟨xs, xs[i], h, List.getElem?_eq_getElem hi⟩
  stops := fun H h => ⟨xs, h, Nat.le_refl _⟩
  yields := fun i H v H' hi h y => by
    obtain ⟨T, y, e1, e2, e3, e4⟩ := y
    exact ⟨T, y, e1, e2, e3, e4 _ h⟩
end Fp
/-! Rules: tuple * 1, tuple.index of flat items, repr of any data, not equal -/
namespace L2
open PySem PySem.Spec PyProof.Rows
theorem tuple_mul1 (l : Addr) (items : Array Value) (n : Nat) (dd : Option Addr) (sl : Array (Option Value)) (u : Tok) :
    Meets (Builtin.«tuple.__mul__» ⟨[.ref l, .int 1 u], []⟩) (fun _ R s => s.heap.get? l = some { cls := .type "tuple", dict := dd, data := .seq items n, slots := sl } ∧
      R (.ok (.ret (Value.ref l))) s) :=
  .of_wp fun prog w A R s h => by
    obtain ⟨hp, g, d, tk, os⟩ := s
    obtain ⟨hl, h⟩ := h
    have f1 := AutoSeq1.idx_int
    have c0 : ¬ ((decide ((1 : Int) < -(2 ^ 63)) || decide ((1 : Int) ≥ 2 ^ 63)) = true) := by decide
    have c1 : (items.isEmpty || (1 : Int) == 1) = true := by simp
    wp_walk using wpAny_loadPart' hl
    repeat (first
      | (refine wpAny_ite_false (decide_eq_false (by decide)) ?_; wp_walk using wpAny_loadPart' hl)
      | (refine wpAny_ite_true (decide_eq_true c1) ?_; wp_walk using wpAny_loadPart' hl))
    all_goals first | exact ⟨_, rfl, h⟩ | exact h
def rRepU (K : PySem.W.Frag) : R2 := fun x y H Q => ∃ l k xs, x = .ref l ∧ y = .int k ∧ SqT K H l xs ∧ xs ≠ [] ∧ 1 ≤ k ∧ k ≤ 1000 ∧ xs.length ≤ 1000 ∧ (k = 1 → Q (.ref l) H) ∧ (2 ≤ k → ∀ p, H p = none → Q (.ref p) (upd H p (.tup (List.replicate k.toNat xs).flatten)))
section
variable {X : Cx}
theorem op_repU : OpR X (binaryOp .Mult) (rRepU X.K) := by
  intro pins s σ H x y v u Q I rx ry h
  obtain ⟨l, k, xs, rfl, rfl, hT, hne, h1, h2, hz, q1, q2⟩ := h
  by_cases hk : k = 1
  · subst hk
    cases rx
    obtain ⟨t, rfl⟩ := ry
    obtain ⟨its, r, ⟨⟨cls, dd, data, sl⟩, ho, hc, n, hd⟩, hs⟩ := I.tuple hT
    simp only at hc hd
    subst hc hd
    refine wpAny_binaryOp_repeat_ref (T := "tuple") (U := "int") (by decide) ⟨_, ho, rfl⟩ (fun s' => typeIs_int s' 1 t) noFill_tuple_mul F.fills_int_mul F.slot_int_rmul repeat_tuple F.slot_int_index.lookup
      (call_meets F.slot_int_rmul (typeIs_int s 1 t) F.entry_int_rmul (F.args_int_rmul_2 _ _) (int_rmul_tuple 1 t l its.toArray n dd sl)
        ⟨ho, rfl, ⟨_, ho, rfl⟩, call_meets F.slot_tuple_mul ⟨_, ho, rfl⟩ F.entry_tuple_mul (F.args_tuple_mul_2 _ _) (tuple_mul1 l its.toArray n dd sl t) ⟨ho, ?_⟩⟩)
    exact ⟨.ref l, H, I, rfl, q1 rfl⟩
  · exact op_repT pins s σ H _ _ v u Q I rx ry ⟨l, k, xs, rfl, rfl, hT, hne, by omega, h2, hz, q2 (by omega)⟩
/-- t.index(x), x and all of t flat: the first place -/
theorem mt_tindex : MtR X "tuple.index" (fun x xs H Q => ∃ (p : Addr) (ys : List V) (y : V) (j : Nat) (z : V), x = .ref p ∧ xs = [y] ∧ SqT X.K H p ys ∧ flatV y = true ∧ ys.all flatV = true ∧ ys[j]? = some z ∧ eqV z y = true ∧
    (∀ (m : Nat) (z' : V), m < j → ys[m]? = some z' → eqV z' y = false) ∧ Q (.int (j : Nat)) H) := by
  intro pins s σ H x xs v us Q I rx rs h
  obtain ⟨p, ys, y, j, z, rfl, rfl, hq, fy, fys, hz, hzj, hno, q⟩ := h
  cases rx
  obtain ⟨uy, rfl, ry⟩ := vals1 rs
  obtain ⟨its, rv, pl, hlen⟩ := I.tuple hq
  obtain ⟨⟨cls, dd, dt, sl⟩, ho, hc, n, hd⟩ := pl
  simp only at hc hd
  subst hc
  subst hd
  obtain ⟨u, hu, ru⟩ := rv.get hz
  obtain ⟨hjl, hje⟩ := List.getElem?_eq_some_iff.mp hu
  have hvl := rv.length
  have hj : j < its.toArray.size := by simpa using hjl
  refine call_meets PySem.F.slot_tuple_index ⟨_, ho, rfl⟩ PySem.F.entry_tuple_index (PySem.F.args_tuple_index_2 _ _) (TI.tuple_indexAt p its.toArray n dd sl uy (eqU y) j hj ?_ ?_)
    ⟨ho, fun u' hu' => mem_eqAt ry fy rv fys u' (by simpa using hu'), ⟨.int (j : Nat), H, I.tok _, ⟨_, rfl⟩, q⟩⟩
  · have e1 : its.toArray[j] = u := by simpa using hje
    rw [e1, eqU_of ru (flat_at fys hz)]
    exact hzj
  · intro m hm hmj
    have hml : m < its.length := by simpa using hm
    have hmy : m < ys.length := by omega
    have hy' : ys[m]? = some ys[m] := List.getElem?_eq_getElem hmy
    obtain ⟨u2, hu2, ru2⟩ := rv.get hy'
    obtain ⟨_, hme⟩ := List.getElem?_eq_some_iff.mp hu2
    have e1 : its.toArray[m] = u2 := by simpa using hme
    rw [e1, eqU_of ru2 (flat_at fys hy')]
    exact hno m _ hmj hy'
/-! ### tuples of which it is known that they have no dict -/
def TF (H : Hp) (a : Addr) (xs : List V) : Prop := ∃ o, H a = some (.frz o (.tup xs)) ∧ o.dict = none
theorem TF.sq {K : PySem.W.Frag} {H : Hp} {a : Addr} {xs : List V} (h : TF H a xs) : SqT K H a xs := by
  obtain ⟨o, h, _⟩ := h
  exact .inl (.inr ⟨o, h⟩)
def tTupF (t : TA) : TE := fun σ H Q => t σ H fun xs H1 => xs.length ≤ sizeLine ∧ ∀ p o, H1 p = none → o.dict = none → Q (.ref p) (upd H1 p (.frz o (.tup xs)))
theorem pe_tupF {es : List Expr} {x1} {t : TA} {pos : Pos} (h : PA X es t) : PE X (.Tuple es x1 pos) (tTupF t) := by
  refine ⟨fun pins s σ H Q I hq => ?_⟩
  refine wpAny_Tuple_spliced (thn (h.run pos pins s σ H _ I hq) fun us s1 ⟨xs, H1, I1, r, z, q⟩ => ⟨by rw [← r.length]; exact z, ?_⟩)
  have hf : H1 s1.heap.objs.size = none := I1.hok.fresh (Nat.le_refl _)
  refine ⟨.ref s1.heap.objs.size, upd H1 s1.heap.objs.size (.frz { cls := .type "tuple", data := .seq us.toArray } (.tup xs)), I1.laid (t' := s1.toks) (fun b u e => Heap.get?_push_of_some _ e) (Nat.le_refl _) ?_, rfl, q _ _ hf rfl⟩
  exact ⟨Heap.get?_push_size _ rfl, z, us, r, ⟨_, Heap.get?_push_size _ rfl, rfl, _, rfl⟩⟩
def rCatF (K : PySem.W.Frag) : R2 := fun x y H Q => ∃ a b xs ys, x = .ref a ∧ y = .ref b ∧ SqT K H a xs ∧ SqT K H b ys ∧ xs.length + ys.length ≤ sizeLine ∧
  (xs = [] → Q (.ref b) H) ∧ (xs ≠ [] → ys = [] → Q (.ref a) H) ∧ (xs ≠ [] → ys ≠ [] → ∀ p o, H p = none → o.dict = none → Q (.ref p) (upd H p (.frz o (.tup (xs ++ ys)))))
theorem op_catF : OpR X (binaryOp .Add) (rCatF X.K) := by
  intro pins s σ H x y v u Q I rx ry h
  obtain ⟨a, b, xs, ys, rfl, rfl, ha, hb, hz, q0, q1, q2⟩ := h
  cases rx
  cases ry
  obtain ⟨its, r1, p1, _⟩ := I.tuple ha
  obtain ⟨its2, r2, p2, _⟩ := I.tuple hb
  by_cases hx : xs = []
  · subst hx
    cases r1
    exact cat_tup0 p1 p2 ⟨.ref b, H, I, rfl, q0 rfl⟩
  · refine HT.cat_tup p1 p2 (fun z => hx (r1.nil_iff.mp z)) (fun z => ⟨.ref a, H, I, rfl, q1 hx (r2.nil_iff.mp z)⟩) (fun z => ?_) (by rw [← r1.length, ← r2.length]; exact hz)
    refine ⟨.ref s.heap.objs.size, _, I.laid (t' := s.toks) (o := .frz { cls := .type "tuple", data := .seq (its ++ its2).toArray } (.tup (xs ++ ys))) (fun b ob q => Heap.get?_push_of_some _ q) (Nat.le_refl _) ?_, rfl, q2 hx (fun w => z (r2.nil_iff.mpr w)) _ _ (I.hok.fresh (Nat.le_refl _)) rfl⟩
    exact ⟨Heap.get?_push_size _ rfl, by rw [List.length_append]; exact hz, _, r1.append r2, IsTup.new _ _⟩
def rRepF (K : PySem.W.Frag) : R2 := fun x y H Q => ∃ l k xs, x = .ref l ∧ y = .int k ∧ SqT K H l xs ∧ xs ≠ [] ∧ 1 ≤ k ∧ k ≤ 1000 ∧ xs.length ≤ 1000 ∧ (k = 1 → Q (.ref l) H) ∧ (2 ≤ k → ∀ p o, H p = none → o.dict = none → Q (.ref p) (upd H p (.frz o (.tup (List.replicate k.toNat xs).flatten))))
theorem op_repF : OpR X (binaryOp .Mult) (rRepF X.K) := by
  intro pins s σ H x y v u Q I rx ry h
  obtain ⟨l, k, xs, rfl, rfl, hT, hne, h1, h2, hz, q1, q2⟩ := h
  by_cases hk : k = 1
  · subst hk
    exact op_repU pins s σ H _ _ v u Q I rx ry ⟨l, 1, xs, rfl, rfl, hT, hne, h1, h2, hz, q1, fun z => absurd z (by decide)⟩
  · cases rx
    obtain ⟨t, rfl⟩ := ry
    obtain ⟨its, r, ⟨⟨cls, dd, data, sl⟩, ho, hc, n, hd⟩, hs⟩ := I.tuple hT
    simp only at hc hd
    subst hc hd
    have hle : its.length = xs.length := r.length.symm
    have hn : its ≠ [] := fun e => hne (by
      rw [e] at hle
      exact List.eq_nil_of_length_eq_zero hle.symm)
    have hi : its.toArray.isEmpty = false := by
      cases its with
      | nil => exact absurd rfl hn
      | cons a b => rfl
    have hsz0 : its.toArray.size = xs.length := by rw [List.size_toArray, hle]
    have hm : ((its.toArray.size : Nat) : Int) * k ≤ 1000000 := by
      rw [hsz0]
      have a1 : ((xs.length : Nat) : Int) * k ≤ 1000 * k := Int.mul_le_mul_of_nonneg_right (by omega) (by omega)
      omega
    have flen : (List.replicate k.toNat its).flatten.length ≤ sizeLine := by
      rw [PyProof.Rows.lm_len_rep_flat, hle, sizeLine_eq]
      have a1 : k.toNat * xs.length ≤ 1000 * 1000 := Nat.mul_le_mul (by omega) hz
      omega
    have c0 : (decide (k < -(2 ^ 63)) || decide (k ≥ 2 ^ 63)) = false := by
      rw [decide_eq_false (by omega), decide_eq_false (by omega)] <;> rfl
    have c1 : (its.toArray.isEmpty || k == 1) = false := by
      rw [hi, Bool.false_or]
      exact beq_eq_false_iff_ne.mpr (by omega)
    have c2 : (decide (k ≤ 0) || its.toArray.isEmpty) = false := by
      rw [hi, Bool.or_false]
      exact decide_eq_false (by omega)
    have c4 : Builtin.Tuple.tupleTooMany (((its.toArray.size : Nat) : Int) * k) = false := by
      unfold Builtin.Tuple.tupleTooMany
      rw [sizeLine_eq]
      exact decide_eq_false (by omega)
    refine wpAny_binaryOp_repeat_ref (T := "tuple") (U := "int") (by decide) ⟨_, ho, rfl⟩ (fun s' => typeIs_int s' k t) noFill_tuple_mul F.fills_int_mul F.slot_int_rmul repeat_tuple F.slot_int_index.lookup
      (call_meets F.slot_int_rmul (typeIs_int s k t) F.entry_int_rmul (F.args_int_rmul_2 _ _) (int_rmul_tuple k t l its.toArray n dd sl)
        ⟨ho, rfl, ⟨_, ho, rfl⟩, call_meets F.slot_tuple_mul ⟨_, ho, rfl⟩ F.entry_tuple_mul (F.args_tuple_mul_2 _ _) (tuple_mulW l its.toArray n dd sl k t c0 c1 c2 (by omega) c4 (by rw [size_rep, List.size_toArray]; exact flen)) ⟨ho, ?_⟩⟩)
    rw [size_rep]
    refine ⟨.ref s.heap.objs.size, _, I.laid (t' := s.toks) (o := .frz { cls := .type "tuple", data := .seq (List.replicate k.toNat its).flatten.toArray } (.tup (List.replicate k.toNat xs).flatten)) (fun b ob q => Heap.get?_push_of_some _ q) (Nat.le_refl _) ?_, rfl, q2 (by omega) _ _ (I.hok.fresh (Nat.le_refl _)) rfl⟩
    exact ⟨Heap.get?_push_size _ rfl, by rw [PyProof.Rows.lm_len_rep_flat, sizeLine_eq]; have a1 : k.toNat * xs.length ≤ 1000 * 1000 := Nat.mul_le_mul (by omega) hz; omega, _, r.rep k.toNat, IsTup.new _ _⟩
/-- t.index(x) -/
def tTIdx (K : PySem.W.Frag) (to te : TE) : TE := fun σ H Q => to σ H fun x H1 => (∃ p ys, x = .ref p ∧ TF H1 p ys) ∧ te σ H1 fun y H2 => ∃ (p : Addr) (ys : List V) (j : Nat) (z : V), x = .ref p ∧ SqT K H2 p ys ∧ flatV y = true ∧ ys.all flatV = true ∧ ys[j]? = some z ∧ eqV z y = true ∧
    (∀ (m : Nat) (z' : V), m < j → ys[m]? = some z' → eqV z' y = false) ∧ Q (.int (j : Nat)) H2
theorem pe_tindex {o e : Expr} {to te : TE} {apos cpos : Pos} (ho : PE X o to) (he : PE X e te)
    (hbase : attributeBase o "index" X.env (eval o X.env) = eval o X.env := by rfl)
    (hfew : ((backTo cpos (starEach [e] X.env)).all (fun x => !x.1) && (backToKw cpos (keywordEach [] X.env)).all (fun x => x.1.isSome)
      && decide ([e].length + ([] : List Keyword).length + (if ([] : List Keyword).isEmpty then 0 else 1) < 30)) = true := by rfl)
    (hline : (apos.endLine == cpos.line) = true := by rfl) (hs : starEach [e] X.env = (false, eval e X.env) :: starEach [] X.env := by rfl) (hplain : (backTo cpos (starEach [] X.env)).any (·.1) = false := by rfl) :
    PE X (.Call (.Attribute o "index" apos) [e] [] cpos) (tTIdx X.K to te) := by
  refine ⟨fun pins s σ H Q I h => ?_⟩
  refine wpAny_Call_method_late hbase hfew hline rfl (thn (ho.run pins s σ H _ I h) fun v s1 ⟨x, H1, I1, r1, ⟨p, ys, ex, ⟨ob, hob, hdd⟩⟩, q1⟩ => ?_)
  subst ex
  cases r1
  have e1 := (I1.hok p _ hob).1
  obtain ⟨its, rv, pl, hz⟩ := I1.tuple (.inl (.inr ⟨ob, hob⟩))
  refine ⟨"tuple", "tuple.index", PySem.F.plainAttrs_tuple, PySem.F.slot_tuple_index, PySem.F.type_tuple_index, pl.typeIs, fun a ea => by cases ea; exact ⟨ob, e1, hdd⟩, ?_⟩
  have hA := (pa_cons he pa_nil hs).run cpos pins s1 σ H1 (fun vs H2 => match vs with
    | [y] => ∃ (p' : Addr) (ys : List V) (j : Nat) (z : V), V.ref p = .ref p' ∧ SqT X.K H2 p' ys ∧ flatV y = true ∧ ys.all flatV = true ∧ ys[j]? = some z ∧ eqV z y = true ∧
      (∀ (m : Nat) (z' : V), m < j → ys[m]? = some z' → eqV z' y = false) ∧ Q (.int (j : Nat)) H2
    | _ => False) I1 q1
  rw [hs] at hA ⊢
  refine Calls.callWith_builtin (by show (false || (backTo cpos (starEach [] X.env)).any (·.1)) = false; rw [hplain] <;> rfl) (Calls.evalArgs_plain ?_)
  refine thn hA fun us s2 ⟨vs, H2, I2, r2, hh⟩ => ?_
  match vs, r2, hh with
  | [y], r2, ⟨p', ys', j, z, ep, a1, a2, a3, a4, a5, a6, q⟩ =>
    cases ep
    exact mt_tindex pins s2 σ H2 (.ref p) [y] (.ref p) us Q I2 rfl r2 ⟨p, ys', y, j, z, rfl, rfl, a1, a2, a3, a4, a5, a6, q⟩
end
end L2
/-! Small data: what can be shown and compared; values that are brought -/
namespace Fp
open PySem PySem.Spec PyProof.Rows L2
theorem ite_no {c : Bool} {A B : Prop} (hc : c = false) (h : B) : if c = true then A else B := by
  rw [hc]; exact iteF h
theorem ite_yes {c : Bool} {A B : Prop} (hc : c = true) (h : A) : if c = true then A else B := by
  rw [hc]; exact iteT h
theorem get_lt {α : Type} {l : List α} {i : Nat} {x : α} (h : l[i]? = some x) : i < l.length := (List.getElem?_eq_some_iff.mp h).1
theorem u66 {k : Nat} {A : Around} (r : Room k A) : A.units + 66 < cLine := by have := r.un; omega
theorem szl {n : Nat} (h : n ≤ 10000000) : n ≤ sizeLine := by rw [sizeLine_eq]; omega
theorem szt {n : Nat} (h : n < 10000000) : n < sizeLine := by rw [sizeLine_eq]; omega
/-- data that can be shown and compared: at most so deep, at most so much -/
structure Sm (k n : Nat) (d : PyData) : Prop where
  sh : d.showable = true
  lay : d.canLay0 = true
  lv : d.leavesShort 13 = true
  blk : d.bulk ≤ n
  dep : d.depth ≤ k
theorem Sm.mono {k n k' n' : Nat} {d : PyData} (h : Sm k n d) (hk : k ≤ k') (hn : n ≤ n') : Sm k' n' d := ⟨h.sh, h.lay, h.lv, Nat.le_trans h.blk hn, Nat.le_trans h.dep hk⟩
structure Sms (k n : Nat) (ds : List PyData) : Prop where
  sh : PyData.showableAll ds = true
  lay : PyData.canLayAll0 ds = true
  lv : PyData.leavesShortAll 13 ds = true
  blk : PyData.bulkAll ds ≤ n
  dep : PyData.depthAll ds ≤ k
theorem Sms.nil {k n : Nat} : Sms k n [] := ⟨by simp [PyData.showableAll], by simp [PyData.canLayAll0], by simp [PyData.leavesShortAll], by simp [PyData.bulkAll], by simp [PyData.depthAll]⟩
theorem Sms.cons {k a b : Nat} {d : PyData} {ds : List PyData} (h : Sm k a d) (t : Sms k b ds) : Sms k (a + 1 + b) (d :: ds) :=
  ⟨by simp [PyData.showableAll, h.sh, t.sh], by simp [PyData.canLayAll0, h.lay, t.lay], by simp [PyData.leavesShortAll, h.lv, t.lv], by have := h.blk; have := t.blk; simp only [PyData.bulkAll]; omega, by have := h.dep; have := t.dep; simp only [PyData.depthAll]; omega⟩
theorem Sms.mono {k n k' n' : Nat} {d : List PyData} (h : Sms k n d) (hk : k ≤ k') (hn : n ≤ n') : Sms k' n' d := ⟨h.sh, h.lay, h.lv, Nat.le_trans h.blk hn, Nat.le_trans h.dep hk⟩
theorem Sms.all {k n : Nat} : ∀ {ds : List PyData}, (∀ d ∈ ds, Sm k n d) → Sms k ((n + 1) * ds.length) ds
  | [], _ => Sms.nil
  | d :: ds, h => (Sms.cons (h d (by simp)) (Sms.all fun e he => h e (List.mem_cons_of_mem _ he))).mono (Nat.le_refl _) (by
    rw [List.length_cons, Nat.mul_succ]; omega)
theorem Sms.tup {k n : Nat} {ds : List PyData} (h : Sms k n ds) : Sm (k + 1) n (.tuple ds) :=
  ⟨by simpa [PyData.showable] using h.sh, by simpa [PyData.canLay0] using h.lay, by simpa [PyData.leavesShort] using h.lv, by have := h.blk; simpa only [PyData.bulk] using this, by have := h.dep; simp only [PyData.depth]; omega⟩
theorem Sms.lst {k n : Nat} {ds : List PyData} (h : Sms k n ds) : Sm (k + 1) n (.list ds) :=
  ⟨by simpa [PyData.showable] using h.sh, by simpa [PyData.canLay0] using h.lay, by simpa [PyData.leavesShort] using h.lv, by have := h.blk; simpa only [PyData.bulk] using this, by have := h.dep; simp only [PyData.depth]; omega⟩
theorem Sm.non : Sm 1 0 .none := ⟨by simp [PyData.showable], by simp [PyData.canLay0], by simp [PyData.leavesShort], by simp [PyData.bulk], by simp [PyData.depth]⟩
theorem Sm.str {z : Str} {n : Nat} (hz : z.cps.size ≤ n) (hc : (z.cps.toList.all fun c => decide (c < 16 ^ 8)) = true) (ho : PyData.strOk z = true) : Sm 1 n (.str z) :=
  ⟨by simp [PyData.showable], by simp [PyData.canLay0, ho], by simpa only [PyData.leavesShort] using hc, by simpa only [PyData.bulk] using hz, by simp [PyData.depth]⟩
theorem log2_lt {i : Int} (h0 : -99999 ≤ i) (h1 : i ≤ 99999) : i.natAbs.log2 < 1920 := by
  by_cases h : i.natAbs = 0
  · rw [h]; decide
  · have : i.natAbs.log2 < 17 := (Nat.log2_lt h).mpr (show i.natAbs < 2 ^ 17 by omega)
    omega
theorem Sm.int {i : Int} (h0 : -9999 ≤ i) (h1 : i ≤ 9999) : Sm 1 0 (.int i) := by
  refine ⟨?_, by simp [PyData.canLay0], ?_, by simp [PyData.bulk], by simp [PyData.depth]⟩
  · simp only [PyData.showable, decide_eq_true_eq]
    exact log2_lt (by omega) (by omega)
  · simp only [PyData.leavesShort, decide_eq_true_eq]
    exact PyData.shown_int_le (by omega)
theorem Sm.fits {k n : Nat} {d : PyData} (h : Sm k n d) (hn : n ≤ 1000000) : d.shown.length ≤ sizeLine := PyData.shown_fits_bulk (B := 13) (by decide) (by decide) h.lv (Nat.le_trans h.blk (Nat.le_trans hn (by decide)))
theorem Sm.shaped {k n : Nat} {d : PyData} (h : Sm k n d) (hk : k ≤ 64) : SeqAt.shaped d = true := by
  unfold SeqAt.shaped
  rw [h.lay, Bool.true_and]
  exact decide_eq_true (Nat.le_trans h.dep hk)
/-! ### repr of any data -/
section
variable {X : Cx}
theorem wpAny_repr {prog : Program} {w : World} {A : Around} {E : Value → Shared → Prop} {s : Shared} {Q : Value → Shared → Prop} {v : Value} {d : PyData} {as : List Addr} (r : Reads s.heap v d as) (hs : d.showable = true) (hd : d.hasDict = false) (hz : d.shown.length ≤ sizeLine)
    (hg : A.guards = some []) (hu : A.units + (d.depth + 1) < cLine) (hQ : ∀ h' u tk, (∀ b o, s.heap.get? b = some o → h'.get? b = some o) → Q (.str d.shown u) { s with heap := h', toks := tk }) : wpAny (model prog w) A (call (.builtin "repr") [v]) Q E s := by
  cases r with
  | none => exact PySem.P.repr_of_none (hQ _ _ _ fun _ _ e => e)
  | bool b => exact PySem.P.repr_of_bool (hQ _ _ _ fun _ _ e => e)
  | int i t => exact PySem.P.repr_of_int (by simpa only [PyData.showable, decide_eq_true_eq] using hs) (by simpa only [PyData.shown] using hQ _ _ _ fun _ _ e => e)
  | str x t => exact PySem.P.repr_of_str (by simpa only [PyData.shown] using hQ _ _ _ fun _ _ e => e) (by simpa only [PyData.shown] using hz)
  | list a b c e => exact repr_of_reads' (.list a b c e) hs (fun z => by rw [hd] at z; cases z) hg hu (fun _ _ z => z) hQ hz
  | tuple a b c e => exact repr_of_reads' (.tuple a b c e) hs (fun z => by rw [hd] at z; cases z) hg hu (fun _ _ z => z) hQ hz
  | dict a b c e f => simp [PyData.hasDict] at hd
/-- repr(x), x any data -/
theorem call_reprA (hgu : X.A.guards = some []) (hu : X.A.units + 66 < cLine) : CallR X (.builtin "repr") (fun xs H Q => ∃ (x : V) (d : PyData) (k n : Nat), xs = [x] ∧ Dp X.K H x d ∧ Sm k n d ∧ k ≤ 64 ∧ n ≤ 1000000 ∧ Q (.str d.shown) H) := by
  intro pins s σ H xs us Q I r h
  obtain ⟨x, d, k, n, rfl, hd, sm, hk, hn, q⟩ := h
  obtain ⟨u, rfl, rx⟩ := vals1 r
  obtain ⟨as, rd⟩ := Dp.reads I d _ u hd rx
  have hdp := sm.dep
  exact wpAny_repr rd sm.sh (PyData.hasDict_of_canLay _ sm.lay) (sm.fits hn) hgu (by omega) (fun h' u tk k => ⟨.str d.shown, H, I.kept (t' := tk) k, ⟨_, rfl⟩, q⟩)
end
/-! ### values that are brought: None, integers, tuples of at most three such, at most so deep -/
inductive VOk : Nat → PyData → Prop where
  | non {n} : VOk n .none
  | int {n i} : -9999 ≤ i → i ≤ 9999 → VOk n (.int i)
  | tup {n ds} : (∀ d ∈ ds, VOk n d) → ds.length ≤ 3 → VOk (n + 1) (.tuple ds)
mutual
inductive VAt (H : Hp) : V → PyData → Prop where
  | non : VAt H .non .none
  | int (i : Int) : VAt H (.int i) (.int i)
  | tup {a : Addr} {xs : List V} {ds : List PyData} : H a = some (.tup xs) → VsAt H xs ds → VAt H (.ref a) (.tuple ds)
inductive VsAt (H : Hp) : List V → List PyData → Prop where
  | nil : VsAt H [] []
  | cons {v vs d ds} : VAt H v d → VsAt H vs ds → VsAt H (v :: vs) (d :: ds)
end
/-- tuples stay -/
def IsT : Option HO → Prop
  | some (.tup _) => True
  | some (.frz _ (.tup _)) => True
  | _ => False
def TK (H H' : Hp) : Prop := ∀ a, IsT (H a) → H' a = H a
theorem TK.refl (H : Hp) : TK H H := fun _ _ => rfl
theorem TK.trans {H H1 H2 : Hp} (a : TK H H1) (b : TK H1 H2) : TK H H2 := fun x h => (b x (by rw [a x h]; exact h)).trans (a x h)
theorem TK.of {H H' : Hp} (g : Same H H') : TK H H' := fun a h => by
  cases e : H a with
  | none => rw [e] at h; exact h.elim
  | some o => exact g a _ e
theorem TK.but {S : List Addr} {H H' : Hp} (g : But S H H') (h : ∀ a ∈ S, ¬ IsT (H a)) : TK H H' := fun a n => by
  cases e : H a with
  | none => rw [e] at n; exact n.elim
  | some o => exact g a _ (fun m => h a m n) e
theorem TK.put {H : Hp} {p : Addr} {o u : HO} (h : H p = some o) (n : ¬ IsT (some o)) : TK H (upd H p u) := fun a e => by
  rw [upd_ne (fun z => n (by rw [← h, ← z]; exact e))]
theorem TK.t {H H' : Hp} (g : TK H H') {a : Addr} {xs : List V} (h : H a = some (.tup xs)) : H' a = some (.tup xs) := by
  rw [g a (by rw [h]; trivial), h]
theorem TK.f {H H' : Hp} (g : TK H H') {a : Addr} {xs : List V} (h : TF H a xs) : TF H' a xs := by
  obtain ⟨o, h, d⟩ := h
  exact ⟨o, by rw [g a (by rw [h]; trivial), h], d⟩
mutual
theorem VAt.mono {H H' : Hp} (g : TK H H') : ∀ {v : V} {d : PyData}, VAt H v d → VAt H' v d
  | _, _, .non => .non
  | _, _, .int i => .int i
  | _, _, .tup a b => .tup (g.t a) (VsAt.mono g b)
theorem VsAt.mono {H H' : Hp} (g : TK H H') : ∀ {v : List V} {d : List PyData}, VsAt H v d → VsAt H' v d
  | _, _, .nil => .nil
  | _, _, .cons a b => .cons (VAt.mono g a) (VsAt.mono g b)
end
mutual
theorem VAt.dp {K : PySem.W.Frag} {H : Hp} : ∀ {v : V} {d : PyData}, VAt H v d → Dp K H v d
  | _, _, .non => .non
  | _, _, .int i => .int i
  | _, _, .tup a b => .tup (.of a) (VsAt.dp b)
theorem VsAt.dp {K : PySem.W.Frag} {H : Hp} : ∀ {v : List V} {d : List PyData}, VsAt H v d → DpAll K H v d
  | _, _, .nil => .nil
  | _, _, .cons a b => .cons (VAt.dp a) (VsAt.dp b)
end
theorem VOk.up {n : Nat} {d : PyData} (h : VOk n d) : VOk (n + 1) d := by
  induction h with
  | non => exact .non
  | int a b => exact .int a b
  | tup a b ih => exact .tup (fun d hd => ih d hd) b
def vb : Nat → Nat
  | 0 => 0
  | n + 1 => (vb n + 1) * 3
theorem VOk.sm : ∀ {n : Nat} {d : PyData}, VOk n d → Sm (n + 1) (vb n) d := by
  intro n d h
  induction h with
  | non => exact Sm.non.mono (by omega) (by omega)
  | int a b => exact (Sm.int a b).mono (by omega) (by omega)
  | tup a b ih => exact (Sms.all ih).tup.mono (Nat.le_refl _) (Nat.mul_le_mul_left _ b)
theorem VsAt.snoc {H : Hp} {v : V} {d : PyData} (h : VAt H v d) : ∀ {vs : List V} {ds : List PyData}, VsAt H vs ds → VsAt H (vs ++ [v]) (ds ++ [d])
  | _, _, .nil => .cons h .nil
  | _, _, .cons a b => .cons a (VsAt.snoc h b)
theorem VsAt.len {H : Hp} : ∀ {vs : List V} {ds : List PyData}, VsAt H vs ds → vs.length = ds.length
  | _, _, .nil => rfl
  | _, _, .cons _ b => congrArg (· + 1) b.len
theorem VsAt.get {H : Hp} : ∀ {xs : List V} {b : List PyData} {i : Nat} {x : V}, VsAt H xs b → xs[i]? = some x → ∃ it, b[i]? = some it ∧ VAt H x it
  | _, _, 0, _, .cons h _, e => by cases e; exact ⟨_, rfl, h⟩
  | _, _, i + 1, x, .cons _ r, e => VsAt.get (i := i) r e
  | _, _, _, _, .nil, e => by cases e
end Fp
/-! A door, as a plain thing -/
namespace Fp
open PySem PySem.Spec PyProof.Rows L2
abbrev Lv := Option Int
def lvV : Lv → V
  | none => .non
  | some i => .int i
structure Deed where
  stp : Bool
  p : Nat
  x : V
structure DS where
  came : List (Option V)
  lev : List Lv
  heard : List (Option V)
  seen : List (Option (List Lv))
  deeds : List Deed
inductive Told where
  | level (i : Int) | look (l : List Lv) | wait | word (v : V)
theorem getD_set {α : Type} (l : List (Option α)) (p q : Nat) (x : Option α) : (l.set p x).getD q none = if p = q ∧ p < l.length then x else l.getD q none := by
  simp only [List.getD_eq_getElem?_getD, List.getElem?_set]
  by_cases h : p = q
  · subst h
    by_cases h2 : p < l.length
    · simp [h2]
    · have e : l[p]? = none := List.getElem?_eq_none (by omega)
      simp [h2, e]
  · simp [h]
theorem getD_none_of {α : Type} {l : List (Option α)} {q : Nat} {x : α} (h : l.getD q none = some x) : q < l.length ∧ l[q]? = some (some x) := by
  rw [List.getD_eq_getElem?_getD] at h
  cases e : l[q]? with
  | none => rw [e] at h; cases h
  | some y =>
    rw [e] at h
    have h' : y = some x := h
    exact ⟨(List.getElem?_eq_some_iff.mp e).1, by rw [h']⟩
theorem getD_of {α : Type} {l : List (Option α)} {q : Nat} {y : Option α} (h : l[q]? = some y) : l.getD q none = y := by
  rw [List.getD_eq_getElem?_getD, h]; rfl
theorem mem_getD {α : Type} {l : List (Option α)} {x : α} : some x ∈ l ↔ ∃ q, l.getD q none = some x := by
  constructor
  · intro h
    obtain ⟨q, hq⟩ := List.getElem?_of_mem h
    exact ⟨q, getD_of hq⟩
  · rintro ⟨q, hq⟩
    exact List.mem_of_getElem? (getD_none_of hq).2
namespace DS
def new (n : Nat) : DS := ⟨List.replicate n none, List.replicate n none, List.replicate n none, List.replicate n none, []⟩
def cm (s : DS) (p : Nat) : Option V := s.came.getD p none
def lv (s : DS) (p : Nat) : Lv := s.lev.getD p none
def sn (s : DS) (p : Nat) : Option (List Lv) := s.seen.getD p none
def stgOf (a : Lv) (b : Option (List Lv)) : Nat := match a with
  | none => 0
  | some i => if i = 1 then (if b.isSome then 2 else 1) else 3
def stg (s : DS) (p : Nat) : Nat := stgOf (s.lv p) (s.sn p)
def kindOf : Nat → Str
  | 1 => "look" | 3 => "ask" | _ => "level"
def next (s : DS) (p : Nat) : Option Str := if (s.cm p).isSome then some (kindOf (s.stg p)) else none
def isTwo (a : Lv) : Bool := decide (a = some 2)
def two (s : DS) : Nat := s.lev.findIdx isTwo
def saw (s : DS) (p : Nat) : Bool := decide (some 2 ∈ (s.sn p).getD [])
def wr (s : DS) (p : Nat) : Int := if s.saw p then 0 else 2
def come (s : DS) (p : Nat) (v : V) : DS := { s with came := s.came.set p (some v), deeds := s.deeds ++ [⟨false, p, v⟩] }
def told (s : DS) (p : Nat) : Told := match s.stg p with
  | 0 => .level 1
  | 1 => .look s.lev
  | 2 => .level (s.wr p)
  | _ => if some 1 ∈ s.lev then .wait else .word ((s.cm s.two).getD .non)
def step (s : DS) (p : Nat) : DS := match s.stg p with
  | 0 => { s with deeds := s.deeds ++ [⟨true, p, .str "level"⟩], lev := s.lev.set p (some 1) }
  | 1 => { s with deeds := s.deeds ++ [⟨true, p, .str "look"⟩], seen := s.seen.set p (some s.lev) }
  | 2 => { s with deeds := s.deeds ++ [⟨true, p, .str "level"⟩], lev := s.lev.set p (some (s.wr p)) }
  | _ => if some 1 ∈ s.lev then { s with deeds := s.deeds ++ [⟨true, p, .str "ask"⟩] } else { s with deeds := s.deeds ++ [⟨true, p, .str "ask"⟩], heard := s.heard.set p (s.cm s.two) }
structure WF (s : DS) : Prop where
  n1 : 1 ≤ s.lev.length
  n5 : s.lev.length ≤ 5
  lc : s.came.length = s.lev.length
  lh : s.heard.length = s.lev.length
  ls : s.seen.length = s.lev.length
  vals : ∀ p x, s.lv p = some x → x = 0 ∨ x = 1 ∨ x = 2
  cmv : ∀ p, s.lv p ≠ none → s.cm p ≠ none
  snv : ∀ p, s.sn p ≠ none → s.lv p ≠ none
  lok : ∀ p x, s.lv p = some x → x ≠ 1 → s.sn p ≠ none
  z2 : ∀ p, s.lv p = some 0 → ∃ q, s.lv q = some 2
  s2 : ∀ p l, s.sn p = some l → some 2 ∈ l → ∃ q, s.lv q = some 2
theorem rep_none {α : Type} (n p : Nat) : (List.replicate n (none : Option α)).getD p none = none := by
  rw [List.getD_eq_getElem?_getD, List.getElem?_replicate]; split <;> rfl
theorem lv_new (n p : Nat) : (new n).lv p = none := rep_none n p
theorem sn_new (n p : Nat) : (new n).sn p = none := rep_none n p
theorem cm_new (n p : Nat) : (new n).cm p = none := rep_none n p
theorem WF.new {n : Nat} (h1 : 1 ≤ n) (h5 : n ≤ 5) : (new n).WF := by
  refine ⟨by simpa [DS.new] using h1, by simpa [DS.new] using h5, by simp [DS.new], by simp [DS.new], by simp [DS.new], ?_, ?_, ?_, ?_, ?_, ?_⟩ <;> intro p <;> simp only [lv_new, sn_new, cm_new] <;> simp
section
variable {s : DS} {p : Nat} {v : V}
theorem lv_come (q : Nat) : (s.come p v).lv q = s.lv q := rfl
theorem sn_come (q : Nat) : (s.come p v).sn q = s.sn q := rfl
theorem cm_come (q : Nat) : (s.come p v).cm q = if p = q ∧ p < s.came.length then some v else s.cm q := getD_set _ _ _ _
theorem WF.come (h : s.WF) : (s.come p v).WF := by
  refine ⟨h.n1, h.n5, by simp [DS.come, h.lc], h.lh, h.ls, h.vals, fun q hq => ?_, h.snv, h.lok, h.z2, h.s2⟩
  rw [cm_come]
  split
  · simp
  · exact h.cmv q hq
theorem stg_lt (s : DS) (p : Nat) : s.stg p ≤ 3 := by
  unfold stg stgOf
  split
  · omega
  · split
    · split <;> omega
    · omega
theorem stg0 : s.stg p = 0 ↔ s.lv p = none := by
  unfold stg stgOf
  cases s.lv p with
  | none => simp
  | some i => simp only; split <;> (try split) <;> simp
theorem stg1 : s.stg p = 1 ↔ s.lv p = some 1 ∧ s.sn p = none := by
  unfold stg stgOf
  cases s.lv p with
  | none => simp
  | some i =>
    simp only
    cases s.sn p <;> by_cases hi : i = 1 <;> simp [hi]
theorem stg2 : s.stg p = 2 ↔ s.lv p = some 1 ∧ s.sn p ≠ none := by
  unfold stg stgOf
  cases s.lv p with
  | none => simp
  | some i =>
    simp only
    cases s.sn p <;> by_cases hi : i = 1 <;> simp [hi]
theorem stg3 : s.stg p = 3 ↔ ∃ x, s.lv p = some x ∧ x ≠ 1 := by
  unfold stg stgOf
  cases s.lv p with
  | none => simp
  | some i =>
    simp only
    cases s.sn p <;> by_cases hi : i = 1 <;> simp [hi]
/-- the step by its stage -/
theorem step0 (h : s.stg p = 0) : s.step p = { s with deeds := s.deeds ++ [⟨true, p, .str "level"⟩], lev := s.lev.set p (some 1) } := by simp only [step, h]
theorem step1 (h : s.stg p = 1) : s.step p = { s with deeds := s.deeds ++ [⟨true, p, .str "look"⟩], seen := s.seen.set p (some s.lev) } := by simp only [step, h]
theorem step2 (h : s.stg p = 2) : s.step p = { s with deeds := s.deeds ++ [⟨true, p, .str "level"⟩], lev := s.lev.set p (some (s.wr p)) } := by simp only [step, h]
theorem step3 (h : s.stg p = 3) : s.step p = if some 1 ∈ s.lev then { s with deeds := s.deeds ++ [⟨true, p, .str "ask"⟩] } else { s with deeds := s.deeds ++ [⟨true, p, .str "ask"⟩], heard := s.heard.set p (s.cm s.two) } := by simp only [step, h]
theorem told0 (h : s.stg p = 0) : s.told p = .level 1 := by simp only [told, h]
theorem told1 (h : s.stg p = 1) : s.told p = .look s.lev := by simp only [told, h]
theorem told2 (h : s.stg p = 2) : s.told p = .level (s.wr p) := by simp only [told, h]
theorem told3 (h : s.stg p = 3) : s.told p = if some 1 ∈ s.lev then .wait else .word ((s.cm s.two).getD .non) := by simp only [told, h]
theorem cm_step (q : Nat) : (s.step p).cm q = s.cm q := by
  unfold step
  split <;> (try split) <;> rfl
theorem came_step : (s.step p).came = s.came := by
  unfold step
  split <;> (try split) <;> rfl
theorem len_step : (s.step p).lev.length = s.lev.length := by
  unfold step
  split <;> (try split) <;> simp
theorem two_lev (h : ∃ q, s.lv q = some 2) : s.two < s.lev.length ∧ s.lv s.two = some 2 ∧ ∀ m, m < s.two → s.lv m ≠ some 2 := by
  obtain ⟨q, hq⟩ := h
  obtain ⟨hl, he⟩ := getD_none_of hq
  have hm : ∃ x ∈ s.lev, isTwo x = true := ⟨some 2, List.mem_of_getElem? he, by simp [isTwo]⟩
  have h1 : s.two < s.lev.length := List.findIdx_lt_length_of_exists hm
  refine ⟨h1, ?_, fun m hlt => ?_⟩
  · have e : isTwo s.lev[s.two] = true := List.findIdx_getElem (p := isTwo) (xs := s.lev) (w := h1)
    have e' : s.lev[s.two] = some 2 := by simpa [isTwo] using e
    exact getD_of (by rw [List.getElem?_eq_getElem h1, e'])
  · intro z
    have hml : m < s.lev.length := by omega
    have e : isTwo s.lev[m] = false := by simpa using List.not_of_lt_findIdx (p := isTwo) (xs := s.lev) hlt
    have z' : s.lev[m] = some 2 := by
      obtain ⟨_, z2⟩ := getD_none_of z
      rw [List.getElem?_eq_getElem hml] at z2
      exact Option.some.inj z2
    rw [z'] at e
    simp [isTwo] at e
theorem findIdx_ext {α : Type} {f g : α → Bool} : ∀ {l m : List α}, l.length = m.length → (∀ (i : Nat) x y, l[i]? = some x → m[i]? = some y → f x = g y) → l.findIdx f = m.findIdx g
  | [], [], _, _ => rfl
  | [], _ :: _, h, _ => by simp at h
  | _ :: _, [], h, _ => by simp at h
  | a :: l, b :: m, h, hp => by
    have e := hp 0 a b rfl rfl
    rw [List.findIdx_cons, List.findIdx_cons, e, findIdx_ext (l := l) (m := m) (by simpa using h) fun i x y hx hy => hp (i + 1) x y (by simpa using hx) (by simpa using hy)]
theorem two_same {s t : DS} (hl : t.lev.length = s.lev.length) (h : ∀ q, t.lv q = some 2 ↔ s.lv q = some 2) : t.two = s.two := by
  refine findIdx_ext hl fun i x y hx hy => ?_
  have h1 := h i
  rw [show t.lv i = x from getD_of hx, show s.lv i = y from getD_of hy] at h1
  unfold isTwo
  exact decide_eq_decide.mpr h1
theorem lv_step0 (h : s.stg p = 0) (hp : p < s.lev.length) (q : Nat) : (s.step p).lv q = if p = q then some 1 else s.lv q := by
  rw [step0 h]
  show (s.lev.set p (some 1)).getD q none = _
  rw [getD_set]
  by_cases e : p = q <;> simp [e, hp, lv] <;> omega
theorem lv_step1 (h : s.stg p = 1) (q : Nat) : (s.step p).lv q = s.lv q := by rw [step1 h]; rfl
theorem lv_step2 (h : s.stg p = 2) (hp : p < s.lev.length) (q : Nat) : (s.step p).lv q = if p = q then some (s.wr p) else s.lv q := by
  rw [step2 h]
  show (s.lev.set p (some (s.wr p))).getD q none = _
  rw [getD_set]
  by_cases e : p = q
  · subst e; simp [hp]
  · simp [e, lv]
theorem lv_step3 (h : s.stg p = 3) (q : Nat) : (s.step p).lv q = s.lv q := by rw [step3 h]; split <;> rfl
theorem sn_step1 (h : s.stg p = 1) (hp : p < s.seen.length) (q : Nat) : (s.step p).sn q = if p = q then some s.lev else s.sn q := by
  rw [step1 h]
  show (s.seen.set p (some s.lev)).getD q none = _
  rw [getD_set]
  by_cases e : p = q
  · subst e; simp [hp]
  · simp [e, sn]
theorem sn_stepN (h : s.stg p ≠ 1) (q : Nat) : (s.step p).sn q = s.sn q := by
  unfold step
  split <;> (try split) <;> first | rfl | (rename_i e; exact absurd e h)
theorem wr02 (s : DS) (p : Nat) : s.wr p = 0 ∧ s.saw p = true ∨ s.wr p = 2 ∧ s.saw p = false := by
  unfold wr
  cases s.saw p <;> simp
theorem saw_iff : s.saw p = true ↔ ∃ l, s.sn p = some l ∧ some 2 ∈ l := by
  unfold saw
  rw [decide_eq_true_iff]
  cases s.sn p with
  | none => simp
  | some l => simp
theorem lt_of_cm (h : s.WF) (hc : s.cm p ≠ none) : p < s.lev.length := by
  cases e : s.cm p with
  | none => exact absurd e hc
  | some v => rw [← h.lc]; exact (getD_none_of e).1
theorem has2_step (h : s.WF) (hc : s.cm p ≠ none) (h2 : ∃ q, s.lv q = some 2) : ∃ q, (s.step p).lv q = some 2 := by
  obtain ⟨q, hq⟩ := h2
  refine ⟨q, ?_⟩
  have hp := lt_of_cm h hc
  have := stg_lt s p
  rcases (show s.stg p = 0 ∨ s.stg p = 1 ∨ s.stg p = 2 ∨ s.stg p = 3 by omega) with e | e | e | e
  · rw [lv_step0 e hp, if_neg]; exact hq
    intro z; subst z; rw [stg0.mp e] at hq; cases hq
  · rw [lv_step1 e]; exact hq
  · rw [lv_step2 e hp, if_neg]; exact hq
    intro z; subst z; rw [(stg2.mp e).1] at hq; cases hq
  · rw [lv_step3 e]; exact hq
theorem WF.step (h : s.WF) (hc : s.cm p ≠ none) : (s.step p).WF := by
  have hp := lt_of_cm h hc
  have hps : p < s.seen.length := by rw [h.ls]; exact hp
  have h4 := stg_lt s p
  have hlen := len_step (s := s) (p := p)
  have k2 := has2_step h hc
  have lens : (s.step p).came.length = (s.step p).lev.length ∧ (s.step p).heard.length = (s.step p).lev.length ∧ (s.step p).seen.length = (s.step p).lev.length := by
    rw [hlen, came_step]
    refine ⟨h.lc, ?_, ?_⟩
    · unfold DS.step; split <;> (try split) <;> simp [h.lh]
    · unfold DS.step; split <;> (try split) <;> simp [h.ls]
  rcases (show s.stg p = 0 ∨ s.stg p = 1 ∨ s.stg p = 2 ∨ s.stg p = 3 by omega) with e | e | e | e
  · have L := lv_step0 e hp
    have S : ∀ q, (s.step p).sn q = s.sn q := sn_stepN (by omega)
    refine ⟨by rw [hlen]; exact h.n1, by rw [hlen]; exact h.n5, lens.1, lens.2.1, lens.2.2, fun q x hq => ?_, fun q hq => ?_, fun q hq => ?_, fun q x hq hx => ?_, fun q hq => ?_, fun q l hq hl => ?_⟩
    · rw [L] at hq; split at hq
      · cases hq; omega
      · exact h.vals q x hq
    · rw [cm_step]; rw [L] at hq; split at hq
      · rename_i z; subst z; exact hc
      · exact h.cmv q hq
    · rw [S] at hq; rw [L]; split
      · simp
      · exact h.snv q hq
    · rw [S]; rw [L] at hq; split at hq
      · cases hq; exact absurd rfl hx
      · exact h.lok q x hq hx
    · rw [L] at hq; split at hq
      · cases hq
      · exact k2 (h.z2 q hq)
    · rw [S] at hq; exact k2 (h.s2 q l hq hl)
  · have L := lv_step1 e
    have S := sn_step1 e hps
    obtain ⟨e1, e2⟩ := stg1.mp e
    refine ⟨by rw [hlen]; exact h.n1, by rw [hlen]; exact h.n5, lens.1, lens.2.1, lens.2.2, fun q x hq => h.vals q x (by rw [← L]; exact hq), fun q hq => ?_, fun q hq => ?_, fun q x hq hx => ?_, fun q hq => ?_, fun q l hq hl => ?_⟩
    · rw [cm_step]; exact h.cmv q (by rw [← L]; exact hq)
    · rw [L]; rw [S] at hq; split at hq
      · rename_i z; subst z; rw [e1]; simp
      · exact h.snv q hq
    · rw [S]; split
      · simp
      · exact h.lok q x (by rw [← L]; exact hq) hx
    · exact k2 (h.z2 q (by rw [← L]; exact hq))
    · rw [S] at hq; split at hq
      · cases hq; exact k2 (mem_getD.mp hl)
      · exact k2 (h.s2 q l hq hl)
  · have L := lv_step2 e hp
    have S : ∀ q, (s.step p).sn q = s.sn q := sn_stepN (by omega)
    obtain ⟨e1, e2⟩ := stg2.mp e
    have w2 := wr02 s p
    refine ⟨by rw [hlen]; exact h.n1, by rw [hlen]; exact h.n5, lens.1, lens.2.1, lens.2.2, fun q x hq => ?_, fun q hq => ?_, fun q hq => ?_, fun q x hq hx => ?_, fun q hq => ?_, fun q l hq hl => ?_⟩
    · rw [L] at hq; split at hq
      · cases hq; omega
      · exact h.vals q x hq
    · rw [cm_step]; rw [L] at hq; split at hq
      · rename_i z; subst z; exact hc
      · exact h.cmv q hq
    · rw [S] at hq; rw [L]; split
      · simp
      · exact h.snv q hq
    · rw [S]; rw [L] at hq; split at hq
      · rename_i z; subst z; exact e2
      · exact h.lok q x hq hx
    · rw [L] at hq; split at hq
      · rename_i z; subst z
        rcases w2 with ⟨_, w⟩ | ⟨w, _⟩
        · obtain ⟨l, hl, hl2⟩ := saw_iff.mp w
          exact k2 (h.s2 _ l hl hl2)
        · rw [w] at hq; cases hq
      · exact k2 (h.z2 q hq)
    · rw [S] at hq; exact k2 (h.s2 q l hq hl)
  · have L := lv_step3 e
    have S : ∀ q, (s.step p).sn q = s.sn q := sn_stepN (by omega)
    exact ⟨by rw [hlen]; exact h.n1, by rw [hlen]; exact h.n5, lens.1, lens.2.1, lens.2.2, fun q x hq => h.vals q x (by rw [← L]; exact hq), fun q hq => by rw [cm_step]; exact h.cmv q (by rw [← L]; exact hq), fun q hq => by rw [L]; exact h.snv q (by rw [← S]; exact hq),
      fun q x hq hx => by rw [S]; exact h.lok q x (by rw [← L]; exact hq) hx, fun q hq => k2 (h.z2 q (by rw [← L]; exact hq)), fun q l hq hl => k2 (h.s2 q l (by rw [← S]; exact hq) hl)⟩
/-- who asks while nobody stands at 1 finds somebody at 2, who came -/
theorem ask_two (h : s.WF) (e : s.stg p = 3) : ∃ q, s.lv q = some 2 := by
  obtain ⟨x, hx, h1⟩ := stg3.mp e
  rcases h.vals p x hx with rfl | rfl | rfl
  · exact h.z2 p hx
  · exact absurd rfl h1
  · exact ⟨p, hx⟩
theorem two_came (h : s.WF) (e : ∃ q, s.lv q = some 2) : ∃ v, s.cm s.two = some v := by
  obtain ⟨_, h2, _⟩ := two_lev e
  cases c : s.cm s.two with
  | none => exact absurd c (h.cmv _ (by rw [h2]; simp))
  | some v => exact ⟨v, rfl⟩
/-! ### going on -/
theorem stg_step (h : s.WF) (hc : s.cm p ≠ none) (q : Nat) : (s.step p).stg q = if p = q then min 3 (s.stg p + 1) else s.stg q := by
  have hp := lt_of_cm h hc
  have hps : p < s.seen.length := by rw [h.ls]; exact hp
  have h4 := stg_lt s p
  rcases (show s.stg p = 0 ∨ s.stg p = 1 ∨ s.stg p = 2 ∨ s.stg p = 3 by omega) with e | e | e | e
  · by_cases z : p = q
    · subst z
      have hsn : s.sn p = none := by
        cases c : s.sn p with
        | none => rfl
        | some l => exact absurd (stg0.mp e) (h.snv p (by rw [c]; simp))
      rw [if_pos rfl, e]
      exact stg1.mpr ⟨by rw [lv_step0 e hp, if_pos rfl], by rw [sn_stepN (by omega)]; exact hsn⟩
    · rw [if_neg z]; unfold stg; rw [lv_step0 e hp, if_neg z, sn_stepN (by omega)]
  · by_cases z : p = q
    · subst z
      rw [if_pos rfl, e]
      exact stg2.mpr ⟨by rw [lv_step1 e]; exact (stg1.mp e).1, by rw [sn_step1 e hps, if_pos rfl]; simp⟩
    · rw [if_neg z]; unfold stg; rw [lv_step1 e, sn_step1 e hps, if_neg z]
  · by_cases z : p = q
    · subst z
      rw [if_pos rfl, e]
      refine stg3.mpr ⟨s.wr p, by rw [lv_step2 e hp, if_pos rfl], ?_⟩
      rcases wr02 s p with ⟨w, _⟩ | ⟨w, _⟩ <;> rw [w] <;> decide
    · rw [if_neg z]; unfold stg; rw [lv_step2 e hp, if_neg z, sn_stepN (by omega)]
  · have : (s.step p).stg q = s.stg q := by unfold stg; rw [lv_step3 e, sn_stepN (by omega)]
    rw [this]
    by_cases z : p = q
    · subst z; rw [if_pos rfl, e]; rfl
    · rw [if_neg z]
theorem stg_come (q : Nat) : (s.come p v).stg q = s.stg q := rfl
theorem no_one (h : ∀ q, s.stg q = 0 ∨ s.stg q = 3) : some 1 ∉ s.lev := fun m => by
  obtain ⟨q, hq⟩ := mem_getD.mp m
  have hq : s.lv q = some 1 := hq
  rcases h q with e | e
  · rw [stg0.mp e] at hq; cases hq
  · obtain ⟨x, hx, hx1⟩ := stg3.mp e
    rw [hq] at hx
    cases hx
    exact hx1 rfl
end
end DS
end Fp
/-! A door in the heap; promises of the program's defs -/
namespace Fp
open PySem PySem.Spec PyProof.Rows L2
def dfl (n : Int) (a b c e f : Addr) : List (Str × V) := [("many", .int n), ("came", .ref a), ("levels", .ref b), ("heard", .ref c), ("seen", .ref e), ("deeds", .ref f)]
structure DC (K : PySem.W.Frag) (C : Addr) : Prop where
  cl : Cls K C
  nM : NoAttr K C "many"
  nC : NoAttr K C "came"
  nL : NoAttr K C "levels"
  nH : NoAttr K C "heard"
  nS : NoAttr K C "seen"
  nD : NoAttr K C "deeds"
section
variable {n n' : Int} {a b c e f a' b' c' e' f' : Addr}
theorem d_many : (dfl n a b c e f).lookup ("many" : Str) = some (.int n) := by kernel_rfl
theorem d_came : (dfl n a b c e f).lookup ("came" : Str) = some (.ref a) := by kernel_rfl
theorem d_lev : (dfl n a b c e f).lookup ("levels" : Str) = some (.ref b) := by kernel_rfl
theorem d_heard : (dfl n a b c e f).lookup ("heard" : Str) = some (.ref c) := by kernel_rfl
theorem d_seen : (dfl n a b c e f).lookup ("seen" : Str) = some (.ref e) := by kernel_rfl
theorem d_deeds : (dfl n a b c e f).lookup ("deeds" : Str) = some (.ref f) := by kernel_rfl
theorem dp_came : putF "came" (.ref a') (dfl n a b c e f) = dfl n a' b c e f := by kernel_rfl
theorem dp_lev : putF "levels" (.ref b') (dfl n a b c e f) = dfl n a b' c e f := by kernel_rfl
theorem dp_heard : putF "heard" (.ref c') (dfl n a b c e f) = dfl n a b c' e f := by kernel_rfl
theorem dp_seen : putF "seen" (.ref e') (dfl n a b c e f) = dfl n a b c e' f := by kernel_rfl
theorem dp_deeds : putF "deeds" (.ref f') (dfl n a b c e f) = dfl n a b c e f' := by kernel_rfl
theorem d_all : putF "deeds" (.ref f) (putF "seen" (.ref e) (putF "heard" (.ref c) (putF "levels" (.ref b) (putF "came" (.ref a) (putF "many" (.int n) []))))) = dfl n a b c e f := by kernel_rfl
theorem no_check : (dfl n a b c e f).lookup ("check_player" : Str) = none := by kernel_rfl
theorem no_next : (dfl n a b c e f).lookup ("next" : Str) = none := by kernel_rfl
theorem no_shows : (dfl n a b c e f).lookup ("shows_level" : Str) = none := by kernel_rfl
theorem no_asks : (dfl n a b c e f).lookup ("asks" : Str) = none := by kernel_rfl
theorem no_step : (dfl n a b c e f).lookup ("step" : Str) = none := by kernel_rfl
theorem no_come : (dfl n a b c e f).lookup ("come" : Str) = none := by kernel_rfl
theorem no_copy : (dfl n a b c e f).lookup ("copy" : Str) = none := by kernel_rfl
end
/-- (VALUE,), or None -/
def One (H : Hp) (x : V) : Option V → Prop
  | none => x = .non
  | some v => ∃ p, x = .ref p ∧ H p = some (.tup [v])
def SeenAt (H : Hp) (x : V) : Option (List Lv) → Prop
  | none => x = .non
  | some l => ∃ p, x = .ref p ∧ TF H p (l.map lvV)
def DeedAt (H : Hp) (x : V) (d : Deed) : Prop := ∃ p, x = .ref p ∧ H p = some (.tup [.str (if d.stp then "step" else "come"), .int (d.p : Nat), d.x])
theorem One.mono {H H' : Hp} (g : TK H H') {x : V} {o : Option V} (h : One H x o) : One H' x o := by
  cases o with
  | none => exact h
  | some v => obtain ⟨p, e, q⟩ := h; exact ⟨p, e, g.t q⟩
theorem SeenAt.mono {H H' : Hp} (g : TK H H') {x : V} {o : Option (List Lv)} (h : SeenAt H x o) : SeenAt H' x o := by
  cases o with
  | none => exact h
  | some v => obtain ⟨p, e, q⟩ := h; exact ⟨p, e, g.f q⟩
theorem DeedAt.mono {H H' : Hp} (g : TK H H') {x : V} {o : Deed} (h : DeedAt H x o) : DeedAt H' x o := by
  obtain ⟨p, e, q⟩ := h; exact ⟨p, e, g.t q⟩
theorem pr_imp {α β : Type} {F G : α → β → Prop} (f : ∀ a b, F a b → G a b) : ∀ {l : List α} {m : List β}, Paired F l m → Paired G l m
  | _, _, .nil => .nil
  | _, _, .cons a b => .cons (f _ _ a) (pr_imp f b)
theorem pr_len {α β : Type} {F : α → β → Prop} : ∀ {l : List α} {m : List β}, Paired F l m → l.length = m.length
  | _, _, .nil => rfl
  | _, _, .cons _ b => congrArg (· + 1) (pr_len b)
theorem pr_at {α β : Type} {F : α → β → Prop} : ∀ {l : List α} {m : List β} {i : Nat} {y : β}, Paired F l m → m[i]? = some y → ∃ x, l[i]? = some x ∧ F x y
  | _, _, 0, _, .cons h _, e => by cases e; exact ⟨_, rfl, h⟩
  | _, _, i + 1, x, .cons _ r, e => pr_at (i := i) r e
  | _, _, _, _, .nil, e => by cases e
theorem pr_set {α β : Type} {F : α → β → Prop} {x : α} {y : β} (h : F x y) : ∀ {l : List α} {m : List β} (i : Nat), Paired F l m → Paired F (l.set i x) (m.set i y)
  | _, _, _, .nil => .nil
  | _, _, 0, .cons _ r => .cons h r
  | _, _, i + 1, .cons a r => .cons a (pr_set h i r)
theorem pr_snoc {α β : Type} {F : α → β → Prop} {a : α} {b : β} (h : F a b) : ∀ {l : List α} {m : List β}, Paired F l m → Paired F (l ++ [a]) (m ++ [b])
  | _, _, .nil => .cons h .nil
  | _, _, .cons k r => .cons k (pr_snoc h r)
theorem pr_rep {α β : Type} {F : α → β → Prop} {x : α} {y : β} (h : F x y) : ∀ n : Nat, Paired F (List.replicate n x) (List.replicate n y)
  | 0 => .nil
  | n + 1 => .cons h (pr_rep h n)
/-- values that may be brought -/
def Good (H : Hp) (v : V) : Prop := ∃ d, VAt H v d ∧ VOk 3 d
theorem Good.mono {H H' : Hp} (g : TK H H') {v : V} (h : Good H v) : Good H' v := by obtain ⟨d, a, b⟩ := h; exact ⟨d, a.mono g, b⟩
structure DoorIn (C : Addr) (H : Hp) (d : Addr) (s : DS) (dx a b c e f : Addr) (cv hv sv dv : List V) : Prop where
  obj : H d = some (.ins C dx (dfl (s.lev.length : Nat) a b c e f))
  own : H dx = some (.own d)
  came : TF H a cv
  cameP : Paired (One H) cv s.came
  lev : TF H b (s.lev.map lvV)
  heard : TF H c hv
  heardP : Paired (One H) hv s.heard
  seen : TF H e sv
  seenP : Paired (SeenAt H) sv s.seen
  deeds : H f = some (.tup dv)
  deedsP : Paired (DeedAt H) dv s.deeds
  good : ∀ p v, s.cm p = some v → Good H v
  wf : s.WF
def DoorAt (C : Addr) (H : Hp) (d : Addr) (s : DS) : Prop := ∃ dx a b c e f cv hv sv dv, DoorIn C H d s dx a b c e f cv hv sv dv
theorem DoorIn.mono {C : Addr} {H H' : Hp} {d : Addr} {s : DS} {dx a b c e f : Addr} {cv hv sv dv : List V} (h : DoorIn C H d s dx a b c e f cv hv sv dv) (g : TK H H') (g1 : ∀ o, H d = some o → H' d = some o) (g2 : H' dx = H dx) : DoorIn C H' d s dx a b c e f cv hv sv dv :=
  ⟨g1 _ h.obj, by rw [g2]; exact h.own, g.f h.came, pr_imp (fun _ _ => One.mono g) h.cameP, g.f h.lev, g.f h.heard, pr_imp (fun _ _ => One.mono g) h.heardP, g.f h.seen, pr_imp (fun _ _ => SeenAt.mono g) h.seenP, g.t h.deeds, pr_imp (fun _ _ => DeedAt.mono g) h.deedsP, fun p v hv => (h.good p v hv).mono g, h.wf⟩
theorem DoorAt.same {C : Addr} {H H' : Hp} {d : Addr} {s : DS} (h : DoorAt C H d s) (g : Same H H') : DoorAt C H' d s := by
  obtain ⟨dx, a, b, c, e, f, cv, hv, sv, dv, h⟩ := h
  exact ⟨dx, a, b, c, e, f, cv, hv, sv, dv, h.mono (.of g) (fun o q => g _ _ q) (by rw [g _ _ h.own]; exact h.own.symm)⟩
/-- what is not an instance, an own dict or a tuple may change -/
theorem DoorAt.but {C : Addr} {H H' : Hp} {d : Addr} {s : DS} {S : List Addr} (h : DoorAt C H d s) (g : But S H H') (n : ∀ x ∈ S, (∃ xs, H x = some (.lst xs)) ∨ ∃ kvs, H x = some (.dK kvs)) : DoorAt C H' d s := by
  obtain ⟨dx, a, b, c, e, f, cv, hv, sv, dv, h⟩ := h
  have nd : d ∉ S := fun m => by
    rcases n d m with ⟨xs, z⟩ | ⟨xs, z⟩ <;> rw [h.obj] at z <;> cases z
  have nx : dx ∉ S := fun m => by
    rcases n dx m with ⟨xs, z⟩ | ⟨xs, z⟩ <;> rw [h.own] at z <;> cases z
  refine ⟨dx, a, b, c, e, f, cv, hv, sv, dv, h.mono (TK.but g fun x m z => ?_) (fun o q => g _ _ nd q) (by rw [g _ _ nx h.own]; exact h.own.symm)⟩
  rcases n x m with ⟨ys, z'⟩ | ⟨ys, z'⟩ <;> rw [z'] at z <;> exact z
theorem DoorAt.wf {C : Addr} {H : Hp} {d : Addr} {s : DS} (h : DoorAt C H d s) : s.WF := by
  obtain ⟨dx, a, b, c, e, f, cv, hv, sv, dv, h⟩ := h
  exact h.wf
theorem getD_at {α : Type} {l : List (Option α)} {p : Nat} (h : p < l.length) : l[p]? = some (l.getD p none) := by
  rw [List.getElem?_eq_getElem h]; exact congrArg some (getD_of (List.getElem?_eq_getElem h)).symm
theorem DS.WF.acm {s : DS} (W : s.WF) {p : Nat} (h : p < s.lev.length) : s.came[p]? = some (s.cm p) := getD_at (by rw [W.lc]; exact h)
theorem DS.WF.asn {s : DS} (W : s.WF) {p : Nat} (h : p < s.lev.length) : s.seen[p]? = some (s.sn p) := getD_at (by rw [W.ls]; exact h)
theorem alv {s : DS} {p : Nat} (h : p < s.lev.length) : s.lev[p]? = some (s.lv p) := getD_at h
theorem alvV {s : DS} {p : Nat} (h : p < s.lev.length) : (s.lev.map lvV)[p]? = some (lvV (s.lv p)) := by rw [List.getElem?_map, alv h]; rfl
theorem One.is {H : Hp} {x : V} {o : Option V} (h : One H x o) : decide (x = .non) = o.isNone := by
  cases o with
  | none => rw [show x = .non from h]; rfl
  | some v => obtain ⟨p, e, _⟩ := h; rw [e]; rfl
theorem SeenAt.is {H : Hp} {x : V} {o : Option (List Lv)} (h : SeenAt H x o) : decide (x = .non) = o.isNone := by
  cases o with
  | none => rw [show x = .non from h]; rfl
  | some v => obtain ⟨p, e, _⟩ := h; rw [e]; rfl
theorem lv_flat : ∀ l : List Lv, (l.map lvV).all flatV = true
  | [] => rfl
  | none :: l => by rw [List.map_cons, List.all_cons, lv_flat l]; rfl
  | some i :: l => by rw [List.map_cons, List.all_cons, lv_flat l]; rfl
theorem eqV_lv (i : Int) (a : Lv) : eqV (lvV a) (.int i) = decide (a = some i) := by
  cases a with
  | none => rfl
  | some j =>
    show (j == i) = _
    rw [Bool.eq_iff_iff]; simp
theorem inV_lv (i : Int) (l : List Lv) : inV (.int i) (l.map lvV) = decide (some i ∈ l) := by
  unfold inV
  rw [List.any_map, Bool.eq_iff_iff, List.any_eq_true, decide_eq_true_iff]
  constructor
  · rintro ⟨x, hx, e⟩
    have e' : eqV (lvV x) (.int i) = true := e
    rw [eqV_lv, decide_eq_true_iff] at e'
    exact e' ▸ hx
  · intro h
    exact ⟨some i, h, by show eqV (lvV (some i)) (.int i) = true; rw [eqV_lv]; simp⟩
def DS.log (s : DS) (p : Nat) : DS := { s with deeds := s.deeds ++ [⟨true, p, .str (DS.kindOf (s.stg p))⟩] }
theorem DS.log_step (s : DS) (p : Nat) : { (s.log p).step p with deeds := (s.log p).deeds } = s.step p := by
  have h4 := DS.stg_lt s p
  have e0 : (s.log p).stg p = s.stg p := rfl
  rcases (show s.stg p = 0 ∨ s.stg p = 1 ∨ s.stg p = 2 ∨ s.stg p = 3 by omega) with e | e | e | e
  · rw [DS.step0 e, DS.step0 (e0.trans e)]; unfold DS.log; rw [e]; rfl
  · rw [DS.step1 e, DS.step1 (e0.trans e)]; unfold DS.log; rw [e]; rfl
  · rw [DS.step2 e, DS.step2 (e0.trans e)]; unfold DS.log; rw [e]; rfl
  · rw [DS.step3 e, DS.step3 (e0.trans e)]; unfold DS.log; rw [e]; split <;> rfl
theorem DS.WF.log {s : DS} {p : Nat} (W : s.WF) : (s.log p).WF := ⟨W.n1, W.n5, W.lc, W.lh, W.ls, W.vals, W.cmv, W.snv, W.lok, W.z2, W.s2⟩
/-- a tuple, of either kind -/
def TT (H : Hp) (a : Addr) (xs : List V) : Prop := H a = some (.tup xs) ∨ TF H a xs
theorem TT.sq {K : PySem.W.Frag} {H : Hp} {a : Addr} {xs : List V} (h : TT H a xs) : SqT K H a xs := h.elim (fun h => .of h) fun h => h.sq
theorem TK.tt {H H' : Hp} (g : TK H H') {a : Addr} {xs : List V} (h : TT H a xs) : TT H' a xs := h.imp (fun h => g.t h) fun h => g.f h
/-- what a step tells -/
def ToldAt (H : Hp) (t : Addr) : Told → Prop
  | .level i => H t = some (.tup [.str "level", .int i])
  | .look l => ∃ q, H t = some (.tup [.str "look", .ref q]) ∧ TT H q (l.map lvV)
  | .wait => H t = some (.tup [.str "wait"])
  | .word v => H t = some (.tup [.str "word", v])
theorem ToldAt.mono {H H' : Hp} (g : TK H H') {t : Addr} {x : Told} (h : ToldAt H t x) : ToldAt H' t x := by
  cases x with
  | level i => exact g.t h
  | look l => obtain ⟨q, a, b⟩ := h; exact ⟨q, g.t a, g.tt b⟩
  | wait => exact g.t h
  | word v => exact g.t h
/-! ### the law's own door -/
def odict (l1 l2 l3 l4 l5 : Addr) (k : Int) : List (Key × V) := [(.inr "came", .ref l1), (.inr "levels", .ref l2), (.inr "stages", .ref l3), (.inr "won", .ref l4), (.inr "heard", .ref l5), (.inr "steps", .int k)]
section
variable {l1 l2 l3 l4 l5 : Addr} {k k' : Int}
theorem o_came : valV (odict l1 l2 l3 l4 l5 k) (.inr "came") = some (.ref l1) := by kernel_rfl
theorem o_lev : valV (odict l1 l2 l3 l4 l5 k) (.inr "levels") = some (.ref l2) := by kernel_rfl
theorem o_stg : valV (odict l1 l2 l3 l4 l5 k) (.inr "stages") = some (.ref l3) := by kernel_rfl
theorem o_won : valV (odict l1 l2 l3 l4 l5 k) (.inr "won") = some (.ref l4) := by kernel_rfl
theorem o_heard : valV (odict l1 l2 l3 l4 l5 k) (.inr "heard") = some (.ref l5) := by kernel_rfl
theorem o_steps : valV (odict l1 l2 l3 l4 l5 k) (.inr "steps") = some (.int k) := by kernel_rfl
theorem op_steps : putK (odict l1 l2 l3 l4 l5 k) (.inr "steps") (.int k') = odict l1 l2 l3 l4 l5 k' := by kernel_rfl
theorem o_merge : mergeK [] (odict l1 l2 l3 l4 l5 k) = odict l1 l2 l3 l4 l5 k := by kernel_rfl
theorem og_came {H : Hp} {o : Addr} (h : H o = some (.dK (odict l1 l2 l3 l4 l5 k))) : DGet H o (.str "came") (some (.ref l1)) := by
  have := DGet.k (k := .inr "came") h; rw [o_came] at this; exact this
theorem og_lev {H : Hp} {o : Addr} (h : H o = some (.dK (odict l1 l2 l3 l4 l5 k))) : DGet H o (.str "levels") (some (.ref l2)) := by
  have := DGet.k (k := .inr "levels") h; rw [o_lev] at this; exact this
theorem og_stg {H : Hp} {o : Addr} (h : H o = some (.dK (odict l1 l2 l3 l4 l5 k))) : DGet H o (.str "stages") (some (.ref l3)) := by
  have := DGet.k (k := .inr "stages") h; rw [o_stg] at this; exact this
theorem og_won {H : Hp} {o : Addr} (h : H o = some (.dK (odict l1 l2 l3 l4 l5 k))) : DGet H o (.str "won") (some (.ref l4)) := by
  have := DGet.k (k := .inr "won") h; rw [o_won] at this; exact this
theorem og_heard {H : Hp} {o : Addr} (h : H o = some (.dK (odict l1 l2 l3 l4 l5 k))) : DGet H o (.str "heard") (some (.ref l5)) := by
  have := DGet.k (k := .inr "heard") h; rw [o_heard] at this; exact this
theorem og_steps {H : Hp} {o : Addr} (h : H o = some (.dK (odict l1 l2 l3 l4 l5 k))) : DGet H o (.str "steps") (some (.int k)) := by
  have := DGet.k (k := .inr "steps") h; rw [o_steps] at this; exact this
theorem oput_steps {H : Hp} {o : Addr} (h : H o = some (.dK (odict l1 l2 l3 l4 l5 k))) : DPut H o (.str "steps") (.int k') (upd H o (.dK (odict l1 l2 l3 l4 l5 k'))) := by
  have := DPut.k (k := .inr "steps") (v := .int k') h (szt (by show 6 < _; decide)); rw [op_steps] at this; exact this
end
theorem ixn {n j : Nat} (h : j < n) : ixN n (j : Int) = some j := by
  unfold ixN
  rw [if_pos (by omega), if_pos (by omega)] <;> simp
def DS.won (s : DS) (p : Nat) : Bool := match s.sn p with
  | none => false
  | some l => !decide (some 2 ∈ l)
structure OwnIn (H : Hp) (o l1 l2 l3 l4 l5 : Addr) (s : DS) (cv hv : List V) (k : Int) : Prop where
  dict : H o = some (.dK (odict l1 l2 l3 l4 l5 k))
  came : H l1 = some (.lst cv)
  cameP : Paired (One H) cv s.came
  lev : H l2 = some (.lst (s.lev.map lvV))
  stg : H l3 = some (.lst ((List.range s.lev.length).map fun p => V.int (s.stg p : Nat)))
  won : H l4 = some (.lst ((List.range s.lev.length).map fun p => V.bl (s.won p)))
  heard : H l5 = some (.lst hv)
  heardP : Paired (One H) hv s.heard
  nd : [o, l1, l2, l3, l4, l5].Nodup
def OwnAt (H : Hp) (o : Addr) (L : List Addr) (s : DS) (k : Int) : Prop := ∃ l1 l2 l3 l4 l5 cv hv, L = [o, l1, l2, l3, l4, l5] ∧ OwnIn H o l1 l2 l3 l4 l5 s cv hv k
theorem OwnAt.but {H H' : Hp} {o : Addr} {L S : List Addr} {s : DS} {k : Int} (h : OwnAt H o L s k) (g : But S H H') (n : ∀ x ∈ S, x ∉ L) (tk : TK H H') : OwnAt H' o L s k := by
  obtain ⟨l1, l2, l3, l4, l5, cv, hv, rfl, h⟩ := h
  have w : ∀ x ∈ [o, l1, l2, l3, l4, l5], x ∉ S := fun x hx m => n x m hx
  exact ⟨l1, l2, l3, l4, l5, cv, hv, rfl, g _ _ (w o (by simp)) h.dict, g _ _ (w l1 (by simp)) h.came, pr_imp (fun _ _ => One.mono tk) h.cameP, g _ _ (w l2 (by simp)) h.lev, g _ _ (w l3 (by simp)) h.stg, g _ _ (w l4 (by simp)) h.won, g _ _ (w l5 (by simp)) h.heard, pr_imp (fun _ _ => One.mono tk) h.heardP, h.nd⟩
theorem OwnAt.same {H H' : Hp} {o : Addr} {L : List Addr} {s : DS} {k : Int} (h : OwnAt H o L s k) (g : Same H H') : OwnAt H' o L s k := h.but (S := []) (.of g) (fun _ m => by cases m) (.of g)
/-- what stands at its places -/
theorem OwnAt.kind {H : Hp} {o : Addr} {L : List Addr} {s : DS} {k : Int} (h : OwnAt H o L s k) : ∀ x ∈ L, (∃ xs, H x = some (.lst xs)) ∨ ∃ kvs, H x = some (.dK kvs) := by
  obtain ⟨l1, l2, l3, l4, l5, cv, hv, rfl, h⟩ := h
  intro x hx
  simp only [List.mem_cons, List.not_mem_nil, or_false] at hx
  rcases hx with rfl | rfl | rfl | rfl | rfl | rfl
  · exact .inr ⟨_, h.dict⟩
  · exact .inl ⟨_, h.came⟩
  · exact .inl ⟨_, h.lev⟩
  · exact .inl ⟨_, h.stg⟩
  · exact .inl ⟨_, h.won⟩
  · exact .inl ⟨_, h.heard⟩
theorem none0 {P : Program} {w : World} {K : PySem.W.Frag} {mg : Str → Option Value} {base : Heap} {f : Addr} {fd : FuncData} {sp : Sp} {ps : List Str} (h : ∀ vs H Q E, ¬ sp vs H Q E) : FnOk P w K mg base CX0 0 f fd ps sp :=
  ⟨fun vs H Q E q => absurd q (h vs H Q E), fun A outer s H args us vs Q E _ _ _ _ q => absurd q (h vs H Q E)⟩
/-! ### promises -/
def vc : Nat → Nat
  | 0 => 2
  | n + 1 => 2 + 3 * vc n
def spVal (n : Nat) : Sp := fun vs H Q _ => ∃ (p : Addr) (deep m : Nat), vs = [.ref p, .int deep] ∧ deep < n ∧ deep ≤ 2 ∧ m + vc deep ≤ 900000 ∧ PotAt H p m ∧ ∀ v d H', But [p] H H' → VAt H' v d → VOk deep d → PotAt H' p (m + vc deep) → Q v H'
def spODoor : Sp := fun vs H Q _ => ∃ n : Nat, vs = [.int n] ∧ n ≤ 5 ∧ ∀ o L H', Same H H' → (∀ x ∈ L, H x = none) → OwnAt H' o L (DS.new n) 0 → Q (.ref o) H'
def spOCome : Sp := fun vs H Q _ => ∃ (o : Addr) (L : List Addr) (p : Nat) (v : V) (s : DS) (k : Int), vs = [.ref o, .int p, v] ∧ OwnAt H o L s k ∧ p < s.lev.length ∧ s.WF ∧ ∀ H', But L H H' → OwnAt H' o L (s.come p v) k → Q .non H'
def spOStep : Sp := fun vs H Q _ => ∃ (o : Addr) (L : List Addr) (p : Nat) (s : DS) (k : Int), vs = [.ref o, .int p] ∧ OwnAt H o L s k ∧ s.cm p ≠ none ∧ s.WF ∧ ∀ t H', But L H H' → ToldAt H' t (s.told p) → OwnAt H' o L (s.step p) (k + 1) → Q (.ref t) H'
/-- a drawn deed: a coming (None as long as the player is here), or a step -/
def spDeed : Sp := fun vs H Q _ => ∃ (pt o : Addr) (L : List Addr) (s : DS) (k : Int) (m : Nat), vs = [.ref pt, .ref o] ∧ OwnAt H o L s k ∧ s.WF ∧ pt ∉ L ∧ PotAt H pt m ∧ m < 800000 ∧
  ∀ (t : Addr) (p : Nat) (H' : Hp), But [pt] H H' → PotAt H' pt (m + 100) → p < s.lev.length →
    ((s.cm p = none ∧ ∃ q v, H' t = some (.tup [.int (p : Nat), .ref q]) ∧ H' q = some (.tup [v]) ∧ ∃ d, VAt H' v d ∧ VOk 2 d) ∨ (s.cm p ≠ none ∧ H' t = some (.tup [.int (p : Nat), .non]))) → Q (.ref t) H'
def spIsWhole : Sp := fun vs H Q _ => ∃ i : Int, vs = [.int i] ∧ Q (.bl true) H
def spBelow : Sp := fun vs H Q _ => ∃ i n : Int, vs = [.int i, .int n] ∧ Q (.bl (decide (0 ≤ i ∧ i < n))) H
def spExch (K : PySem.W.Frag) : Sp := fun vs H Q _ => ∃ (a : Addr) (xs : List V) (p : Nat) (v : V), vs = [.ref a, .int p, v] ∧ SqT K H a xs ∧ p < xs.length ∧ xs.length ≤ 1000 ∧ ∀ q H', Same H H' → TF H' q (xs.set p v) → Q (.ref q) H'
def spSmW (n : Nat) : Sp := fun vs H Q _ => ∃ (v : V) (d : PyData) (m : Nat) (deep : Int), vs = [v, .int deep] ∧ VAt H v d ∧ VOk m d ∧ m < n ∧ (m : Int) ≤ deep ∧ ∀ H', Same H H' → Q (.bl true) H'
def spSmall : Sp := fun vs H Q _ => ∃ v : V, vs = [v] ∧ Good H v ∧ ∀ H', Same H H' → Q (.bl true) H'
def spDInit (C : Addr) : Sp := fun vs H Q _ => ∃ (d dx : Addr) (n : Nat), vs = [.ref d, .int n] ∧ 1 ≤ n ∧ n ≤ 5 ∧ H d = some (.ins C dx []) ∧ H dx = some (.own d) ∧
  ∀ H', But [d] H H' → DoorAt C H' d (DS.new n) → Q .non H'
def spCheck (C : Addr) : Sp := fun vs H Q _ => ∃ (d : Addr) (p : Nat) (s : DS), vs = [.ref d, .int p] ∧ DoorAt C H d s ∧ p < s.lev.length ∧ Q .non H
def optS : Option Str → V
  | none => .non
  | some z => .str z
def spNext (C : Addr) : Sp := fun vs H Q _ => ∃ (d : Addr) (p : Nat) (s : DS), vs = [.ref d, .int p] ∧ DoorAt C H d s ∧ p < s.lev.length ∧ ∀ H', Same H H' → Q (optS (s.next p)) H'
def spShows (C : Addr) : Sp := fun vs H Q _ => ∃ (d : Addr) (p : Nat) (s : DS), vs = [.ref d, .int p] ∧ DoorAt C H d s ∧ p < s.lev.length ∧ (s.stg p = 0 ∨ s.stg p = 2) ∧ s.cm p ≠ none ∧
  ∀ t H', But [d] H H' → ToldAt H' t (s.told p) → DoorAt C H' d { s.step p with deeds := s.deeds } → Q (.ref t) H'
def spAsks (C : Addr) : Sp := fun vs H Q _ => ∃ (d : Addr) (p : Nat) (s : DS), vs = [.ref d, .int p] ∧ DoorAt C H d s ∧ p < s.lev.length ∧ s.stg p = 3 ∧ s.cm p ≠ none ∧
  ∀ t H', But [d] H H' → ToldAt H' t (s.told p) → DoorAt C H' d { s.step p with deeds := s.deeds } → Q (.ref t) H'
def spStep (C : Addr) : Sp := fun vs H Q _ => ∃ (d : Addr) (p : Nat) (s : DS), vs = [.ref d, .int p] ∧ DoorAt C H d s ∧ s.cm p ≠ none ∧ s.deeds.length < 100000 ∧
  ∀ t H', But [d] H H' → ToldAt H' t (s.told p) → DoorAt C H' d (s.step p) → Q (.ref t) H'
def spCome (C : Addr) : Sp := fun vs H Q _ => ∃ (d : Addr) (p : Nat) (v : V) (s : DS), vs = [.ref d, .int p, v] ∧ DoorAt C H d s ∧ p < s.lev.length ∧ s.cm p = none ∧ Good H v ∧ s.deeds.length < 100000 ∧
  ∀ H', But [d] H H' → DoorAt C H' d (s.come p v) → Q .non H'
def DS.held (s : DS) : List Nat := (List.range s.lev.length).filter fun p => decide (s.lv p = some 1)
def spHeld (C : Addr) : Sp := fun vs H Q _ => ∃ (d : Addr) (s : DS), vs = [.ref d] ∧ DoorAt C H d s ∧ ∀ t H', Same H H' → H' t = some (.tup (s.held.map fun (p : Nat) => V.int (p : Int))) → Q (.ref t) H'
end Fp
namespace Fp
open PySem PySem.Spec PyProof.Rows L2
theorem u65 {k : Nat} {A : Around} (r : Room k A) : A.units + 65 < cLine := by have := r.un; omega
/-! ### rules that may stand within a comprehension -/
theorem op_eqDK {X : Cx} {K : PySem.W.Frag} (hu : X.A.units + 64 < cLine) (e : X.K = K := by rfl) : OpR X (compareOp .Eq) (rEqD K) := by subst e; exact op_eqD hu
theorem op_neDK {X : Cx} {K : PySem.W.Frag} (hu : X.A.units + 64 < cLine) (e : X.K = K := by rfl) : OpR X (compareOp .NotEq) (rNeD K) := by subst e; exact op_neD hu
theorem ix_tupK {X : Cx} {K : PySem.W.Frag} (e : X.K = K := by rfl) : IxR X (rIxT K) := by subst e; exact ix_tup
theorem ix_listK {X : Cx} {K : PySem.W.Frag} (e : X.K = K := by rfl) : IxR X (rIxL K) := by subst e; exact ix_list
def rRepr (K : PySem.W.Frag) : List V → Hp → VK → Prop := fun xs H Q => ∃ (x : V) (d : PyData) (k n : Nat), xs = [x] ∧ Dp K H x d ∧ Sm k n d ∧ k ≤ 64 ∧ n ≤ 1000000 ∧ Q (.str d.shown) H
theorem call_reprK {X : Cx} {K : PySem.W.Frag} (hgu : X.A.guards = some []) (hu : X.A.units + 66 < cLine) (e : X.K = K := by rfl) : CallR X (.builtin "repr") (rRepr K) := by subst e; exact call_reprA hgu hu
theorem pe_fldK {X : Cx} {K : PySem.W.Frag} {o : Expr} {f : Str} {pos : Pos} {to : TE} (h : PE X (.Attribute o f pos) (tFld X.K to f)) (e : X.K = K := by rfl) : PE X (.Attribute o f pos) (tFld K to f) := by subst e; exact h
/-! ### what is told, as data -/
def TOk (H : Hp) : Told → Prop
  | .level i => 0 ≤ i ∧ i ≤ 2
  | .look l => l.length ≤ 5 ∧ ∀ x, some x ∈ l → 0 ≤ x ∧ x ≤ 2
  | .wait => True
  | .word v => Good H v
theorem TOk.mono {H H' : Hp} (g : TK H H') {x : Told} (h : TOk H x) : TOk H' x := by
  cases x with
  | level i => exact h
  | look l => exact h
  | wait => exact h
  | word v => exact Good.mono g h
theorem DS.WF.small {s : DS} (W : s.WF) : s.lev.length ≤ 5 ∧ ∀ x, some x ∈ s.lev → 0 ≤ x ∧ x ≤ 2 := ⟨W.n5, fun x h => by
  obtain ⟨q, hq⟩ := mem_getD.mp h
  rcases W.vals q x hq with rfl | rfl | rfl <;> decide⟩
theorem DoorAt.tok {C : Addr} {H : Hp} {d : Addr} {s : DS} {p : Nat} (h : DoorAt C H d s) : TOk H (s.told p) := by
  obtain ⟨dx, a, b, c, e, f, cv, hv, sv, dv, D⟩ := h
  have W := D.wf
  have h4 := DS.stg_lt s p
  rcases (show s.stg p = 0 ∨ s.stg p = 1 ∨ s.stg p = 2 ∨ s.stg p = 3 by omega) with z | z | z | z
  · rw [DS.told0 z]; exact ⟨by decide, by decide⟩
  · rw [DS.told1 z]; exact W.small
  · rw [DS.told2 z]; rcases DS.wr02 s p with ⟨e, _⟩ | ⟨e, _⟩ <;> rw [e] <;> exact ⟨by decide, by decide⟩
  · rw [DS.told3 z]; split
    · trivial
    · obtain ⟨v, hv⟩ := DS.two_came W (DS.ask_two W z)
      rw [hv]
      exact D.good _ _ hv
def lvD : Lv → PyData
  | none => .none
  | some i => .int i
theorem lv_dp {K : PySem.W.Frag} {H : Hp} : ∀ l : List Lv, DpAll K H (l.map lvV) (l.map lvD)
  | [] => .nil
  | none :: l => .cons .non (lv_dp l)
  | some i :: l => .cons (.int i) (lv_dp l)
theorem lv_sms {l : List Lv} (h : ∀ x, some x ∈ l → 0 ≤ x ∧ x ≤ 2) (hl : l.length ≤ 5) : Sms 1 5 (l.map lvD) := by
  refine (Sms.all (k := 1) (n := 0) fun d hd => ?_).mono (Nat.le_refl _) (by rw [List.length_map]; omega)
  obtain ⟨x, hx, rfl⟩ := List.mem_map.mp hd
  cases x with
  | none => exact Sm.non
  | some i => have := h i hx; exact Sm.int (by omega) (by omega)
theorem Good.dp {K : PySem.W.Frag} {H : Hp} {v : V} (h : Good H v) : ∃ d, Dp K H v d ∧ Sm 4 39 d := by
  obtain ⟨d, a, b⟩ := h
  exact ⟨d, a.dp, b.sm⟩
theorem sm_word (z : Str) (h : (decide (z.cps.size ≤ 10) && z.cps.toList.all (fun c => decide (c < 16 ^ 8)) && PyData.strOk z) = true) : Sm 1 10 (.str z) := by
  rw [Bool.and_eq_true, Bool.and_eq_true] at h
  exact Sm.str (of_decide_eq_true h.1.1) h.1.2 h.2
/-- what is told, as one data, wherever it stands -/
theorem told_data {H : Hp} {x : Told} (o : TOk H x) : ∃ d, Sm 6 100 d ∧ ∀ (K : PySem.W.Frag) (H' : Hp) (t : Addr), TK H H' → ToldAt H' t x → Dp K H' (.ref t) d := by
  cases x with
  | level i =>
    refine ⟨.tuple [.str "level", .int i], ?_, fun K H' t _ h => .tup (.of h) (.cons (.str _) (.cons (.int _) .nil))⟩
    exact (Sms.tup (.cons (sm_word _ (by decide +kernel)) (.cons ((Sm.int (i := i) (by have := o.1; omega) (by have := o.2; omega)).mono (Nat.le_refl 1) (Nat.le_refl 0)) (Sms.nil (n := 0))))).mono (by decide) (by decide)
  | look l =>
    refine ⟨.tuple [.str "look", .tuple (l.map lvD)], ?_, fun K H' t _ h => by obtain ⟨q, a, b⟩ := h; exact .tup (.of a) (.cons (.str _) (.cons (.tup b.sq (lv_dp l)) .nil))⟩
    exact (Sms.tup (.cons ((sm_word "look" (by decide +kernel)).mono (by decide : 1 ≤ 2) (Nat.le_refl 10)) (.cons (lv_sms o.2 o.1).tup (Sms.nil (n := 0))))).mono (by decide) (by decide)
  | wait =>
    refine ⟨.tuple [.str "wait"], ?_, fun K H' t _ h => .tup (.of h) (.cons (.str _) .nil)⟩
    exact (Sms.tup (.cons (sm_word "wait" (by decide +kernel)) (Sms.nil (n := 0)))).mono (by decide) (by decide)
  | word v =>
    obtain ⟨d, hd, ho⟩ := o
    refine ⟨.tuple [.str "word", d], ?_, fun K H' t g h => .tup (.of h) (.cons (.str _) (.cons (hd.mono g).dp .nil))⟩
    exact (Sms.tup (.cons ((sm_word "word" (by decide +kernel)).mono (by decide : 1 ≤ 4) (Nat.le_refl 10)) (.cons ho.sm (Sms.nil (n := 0))))).mono (by decide) (by decide)
/-- two tellings of one thing are one in data -/
theorem told_two {K : PySem.W.Frag} {H : Hp} {t1 t2 : Addr} {x : Told} (h1 : ToldAt H t1 x) (h2 : ToldAt H t2 x) (o : TOk H x) : ∃ d, Dp K H (.ref t1) d ∧ Dp K H (.ref t2) d ∧ Sm 6 100 d := by
  cases x with
  | level i =>
    refine ⟨.tuple [.str "level", .int i], .tup (.of h1) (.cons (.str _) (.cons (.int _) .nil)), .tup (.of h2) (.cons (.str _) (.cons (.int _) .nil)), ?_⟩
    exact (Sms.tup (.cons (sm_word _ (by decide +kernel)) (.cons ((Sm.int (i := i) (by have := o.1; omega) (by have := o.2; omega)).mono (Nat.le_refl 1) (Nat.le_refl 0)) (Sms.nil (n := 0))))).mono (by decide) (by decide)
  | look l =>
    obtain ⟨q1, a1, b1⟩ := h1
    obtain ⟨q2, a2, b2⟩ := h2
    refine ⟨.tuple [.str "look", .tuple (l.map lvD)], .tup (.of a1) (.cons (.str _) (.cons (.tup b1.sq (lv_dp l)) .nil)), .tup (.of a2) (.cons (.str _) (.cons (.tup b2.sq (lv_dp l)) .nil)), ?_⟩
    exact (Sms.tup (.cons ((sm_word "look" (by decide +kernel)).mono (by decide : 1 ≤ 2) (Nat.le_refl 10)) (.cons (lv_sms o.2 o.1).tup (Sms.nil (n := 0))))).mono (by decide) (by decide)
  | wait =>
    refine ⟨.tuple [.str "wait"], .tup (.of h1) (.cons (.str _) .nil), .tup (.of h2) (.cons (.str _) .nil), ?_⟩
    exact (Sms.tup (.cons (sm_word "wait" (by decide +kernel)) (Sms.nil (n := 0)))).mono (by decide) (by decide)
  | word v =>
    obtain ⟨d, hd, sm⟩ := Good.dp (K := K) o
    refine ⟨.tuple [.str "word", d], .tup (.of h1) (.cons (.str _) (.cons hd .nil)), .tup (.of h2) (.cons (.str _) (.cons hd .nil)), ?_⟩
    exact (Sms.tup (.cons ((sm_word "word" (by decide +kernel)).mono (by decide : 1 ≤ 4) (Nat.le_refl 10)) (.cons sm (Sms.nil (n := 0))))).mono (by decide) (by decide)
/-! ### lots of players -/
def natV (l : List Nat) : List V := l.map fun (p : Nat) => V.int (p : Int)
theorem natV_dp {K : PySem.W.Frag} {H : Hp} : ∀ l : List Nat, DpAll K H (natV l) (l.map fun (p : Nat) => PyData.int (p : Int))
  | [] => .nil
  | p :: l => .cons (.int _) (natV_dp l)
theorem natV_sm {l : List Nat} (h : ∀ p ∈ l, p ≤ 5) (hl : l.length ≤ 5) : Sm 2 5 (.tuple (l.map fun (p : Nat) => PyData.int (p : Int))) := by
  refine (Sms.all (k := 1) (n := 0) fun d hd => ?_).tup.mono (Nat.le_refl _) (by rw [List.length_map]; omega)
  obtain ⟨x, hx, rfl⟩ := List.mem_map.mp hd
  have := h x hx
  exact Sm.int (by omega) (by omega)
theorem held_small {s : DS} (W : s.WF) : (∀ p ∈ s.held, p ≤ 5) ∧ s.held.length ≤ 5 := by
  have h5 := W.n5
  refine ⟨fun p hp => ?_, ?_⟩
  · have := List.mem_range.mp (List.mem_filter.mp hp).1
    omega
  · have := List.length_filter_le (fun p => decide (s.lv p = some 1)) (List.range s.lev.length)
    rw [List.length_range] at this
    unfold DS.held
    omega
/-! ### a law's state: a door, an own door, a pot -/
theorem But.into {S T : List Addr} {H0 H H' : Hp} (a : But S H0 H) (b : But T H H') (h : ∀ x ∈ T, H0 x = none ∨ x ∈ S) : But S H0 H' := fun c o n e => b c o (fun m => by
  rcases h c m with z | z
  · rw [z] at e; cases e
  · exact n z) (a c o n e)
theorem But.free {pt d : Addr} {H H1 : Hp} (g : But [pt] H H1) (hp : H1 pt ≠ none) (h : H1 d = none) : H d = none := by
  cases e : H d with
  | none => rfl
  | some o =>
    have := g d o (by simp only [List.mem_singleton]; intro z; exact hp (z ▸ h)) e
    rw [h] at this; cases this
theorem PotAt.ne0 {H : Hp} {p : Addr} {n : Nat} (h : PotAt H p n) : H p ≠ none := by
  obtain ⟨xs, e⟩ := h.there
  rw [e]; simp
structure Sta (C : Addr) (H0 : Hp) (pt d o : Addr) (L : List Addr) (H : Hp) (s1 s2 : DS) (m : Nat) (q : Nat) : Prop where
  fr : But [pt] H0 H
  door : DoorAt C H d s1
  own : ∃ k, OwnAt H o L s2 k
  pot : PotAt H pt m
  p0 : H0 pt ≠ none
  d0 : H0 d = none
  L0 : ∀ x ∈ L, H0 x = none
  dl : s1.deeds.length ≤ q
theorem DoorAt.ins {C : Addr} {H : Hp} {d : Addr} {s : DS} (h : DoorAt C H d s) : ∃ dx fs, H d = some (.ins C dx fs) := by
  obtain ⟨dx, a, b, c, e, f, cv, hv, sv, dv, D⟩ := h
  exact ⟨_, _, D.obj⟩
theorem DoorAt.tk {C : Addr} {H H' : Hp} {d : Addr} {s : DS} (h : DoorAt C H d s) (g : But [d] H H') : TK H H' := TK.but g fun a ha z => by
  obtain ⟨dx, fs, e⟩ := h.ins
  rw [List.mem_singleton.mp ha, e] at z
  exact z
theorem PotAt.tk {H H' : Hp} {pt : Addr} {m : Nat} (h : PotAt H pt m) (g : But [pt] H H') : TK H H' := TK.but g fun a ha z => by
  obtain ⟨xs, e⟩ := h.there
  rw [List.mem_singleton.mp ha, e] at z
  exact z
theorem OwnAt.tk {H H' : Hp} {o : Addr} {L : List Addr} {s : DS} {k : Int} (h : OwnAt H o L s k) (g : But L H H') : TK H H' := TK.but g fun a ha z => by
  rcases h.kind a ha with ⟨xs, e⟩ | ⟨xs, e⟩ <;> rw [e] at z <;> exact z
theorem PotAt.but {H H' : Hp} {pt : Addr} {m : Nat} {S : List Addr} (h : PotAt H pt m) (g : But S H H') (n : pt ∉ S) : PotAt H' pt m := by
  obtain ⟨a, b, c, e, r⟩ := h
  exact ⟨a, b, c, g _ _ n e, r⟩
section
variable {C : Addr} {H0 H H' : Hp} {pt d o : Addr} {L : List Addr} {s1 s2 s' : DS} {m m' q q' : Nat}
theorem Sta.ptL (S : Sta C H0 pt d o L H s1 s2 m q) : pt ∉ L := fun z => S.p0 (S.L0 _ z)
theorem Sta.dL (S : Sta C H0 pt d o L H s1 s2 m q) : d ∉ L := fun z => by
  obtain ⟨k, O⟩ := S.own
  obtain ⟨dx, fs, e⟩ := S.door.ins
  rcases O.kind d z with ⟨xs, e2⟩ | ⟨xs, e2⟩ <;> rw [e] at e2 <;> cases e2
theorem Sta.ptd (S : Sta C H0 pt d o L H s1 s2 m q) : pt ≠ d := fun z => S.p0 (by rw [z]; exact S.d0)
theorem Sta.same (S : Sta C H0 pt d o L H s1 s2 m q) (g : Same H H') : Sta C H0 pt d o L H' s1 s2 m q :=
  ⟨S.fr.trans (.of g), S.door.same g, let ⟨k, O⟩ := S.own; ⟨k, O.same g⟩, S.pot.but (.of (S := []) g) (by simp), S.p0, S.d0, S.L0, S.dl⟩
theorem Sta.take (S : Sta C H0 pt d o L H s1 s2 m q) (g : But [pt] H H') (hp : PotAt H' pt m') : Sta C H0 pt d o L H' s1 s2 m' q :=
  ⟨S.fr.trans g, S.door.but g fun x hx => by rw [List.mem_singleton.mp hx]; exact .inl S.pot.there, let ⟨k, O⟩ := S.own; ⟨k, O.but g (fun x hx => by rw [List.mem_singleton.mp hx]; exact S.ptL) (S.pot.tk g)⟩, hp, S.p0, S.d0, S.L0, S.dl⟩
theorem Sta.stepD (S : Sta C H0 pt d o L H s1 s2 m q) (g : But [d] H H') (hd : DoorAt C H' d s') (hl : s'.deeds.length ≤ q') : Sta C H0 pt d o L H' s' s2 m q' :=
  ⟨S.fr.into g fun x hx => by rw [List.mem_singleton.mp hx]; exact .inl S.d0, hd, let ⟨k, O⟩ := S.own; ⟨k, O.but g (fun x hx => by rw [List.mem_singleton.mp hx]; exact S.dL) (S.door.tk g)⟩, S.pot.but g (by simpa using S.ptd), S.p0, S.d0, S.L0, hl⟩
theorem Sta.stepO (S : Sta C H0 pt d o L H s1 s2 m q) (g : But L H H') {k : Int} (ho : OwnAt H' o L s' k) : Sta C H0 pt d o L H' s1 s' m q :=
  ⟨S.fr.into g fun x hx => .inl (S.L0 x hx), let ⟨k, O⟩ := S.own; S.door.but g O.kind, ⟨k, ho⟩, S.pot.but g S.ptL, S.p0, S.d0, S.L0, S.dl⟩
end
theorem deeds_step {s : DS} {p : Nat} : (s.step p).deeds.length = s.deeds.length + 1 := by
  unfold DS.step
  split <;> (try split) <;> simp
theorem deeds_come {s : DS} {p : Nat} {v : V} : (s.come p v).deeds.length = s.deeds.length + 1 := by simp [DS.come]
theorem DoorAt.ob {C : Addr} {H : Hp} {d : Addr} {s : DS} (h : DoorAt C H d s) : ∃ dx fs, H d = some (.ins C dx fs) ∧ fs.lookup ("step" : Str) = none ∧ fs.lookup ("come" : Str) = none ∧ fs.lookup ("next" : Str) = none ∧ fs.lookup ("copy" : Str) = none := by
  obtain ⟨dx, a, b, c, e, f, cv, hv, sv, dv, D⟩ := h
  exact ⟨_, _, D.obj, no_step, no_come, no_next, no_copy⟩
theorem DS.lv_other {s : DS} {p q : Nat} (W : s.WF) (hc : s.cm p ≠ none) (h : p ≠ q) : (s.step p).lv q = s.lv q := by
  have hp := DS.lt_of_cm W hc
  have h4 := DS.stg_lt s p
  rcases (show s.stg p = 0 ∨ s.stg p = 1 ∨ s.stg p = 2 ∨ s.stg p = 3 by omega) with e | e | e | e
  · rw [DS.lv_step0 e hp, if_neg h]
  · rw [DS.lv_step1 e]
  · rw [DS.lv_step2 e hp, if_neg h]
  · rw [DS.lv_step3 e]
theorem natV_rep (n : Nat) (l : List Nat) : (List.replicate n (natV l)).flatten = natV (List.replicate n l).flatten := by
  unfold natV
  rw [List.map_flatten, List.map_replicate]
theorem count_rep (n p : Nat) (l : List Nat) (h : p ∈ l) : n ≤ (List.replicate n l).flatten.count p := by
  induction n with
  | zero => omega
  | succ n ih =>
    rw [List.replicate_succ, List.flatten_cons, List.count_append]
    have := List.count_pos_iff.mpr h
    omega
theorem mem_rep {n p : Nat} {l : List Nat} (h : p ∈ (List.replicate n l).flatten) : p ∈ l := by
  obtain ⟨x, hx, hp⟩ := List.mem_flatten.mp h
  rw [(List.mem_replicate.mp hx).2] at hp
  exact hp
theorem natV_get {l : List Nat} {i : Nat} {x : V} (h : (natV l)[i]? = some x) : ∃ p, l[i]? = some p ∧ x = .int (p : Int) := by
  unfold natV at h
  rw [List.getElem?_map] at h
  cases e : l[i]? with
  | none => rw [e] at h; cases h
  | some p => rw [e] at h; cases h; exact ⟨p, rfl, rfl⟩
theorem take_snoc {l : List Nat} {i p : Nat} (h : l[i]? = some p) : l.take (i + 1) = l.take i ++ [p] := by
  rw [List.take_add_one, h]; rfl
theorem rep_len (n : Nat) (l : List Nat) : (List.replicate n l).flatten.length = n * l.length := by simp
theorem two_str {a b : Str} (h : a = b) : (!decide (V.str a = V.str b)) = false := by rw [h]; simp
theorem Fst {H : Hp} {t : Addr} {x : Told} (h : ToldAt H t x) : ∃ ys, H t = some (.tup (.str (match x with | .level _ => "level" | .look _ => "look" | .wait => "wait" | .word _ => "word") :: ys)) := by
  cases x with
  | level i => exact ⟨_, h⟩
  | look l => obtain ⟨q, h, _⟩ := h; exact ⟨_, h⟩
  | wait => exact ⟨_, h⟩
  | word v => exact ⟨_, h⟩
theorem stg_ge {s : DS} {p q : Nat} {l : List Nat} (W : s.WF) (hc : s.cm p ≠ none) (h : min 3 (l.count q) ≤ s.stg q) : min 3 ((l ++ [p]).count q) ≤ (s.step p).stg q := by
  rw [DS.stg_step W hc, List.count_append, List.count_singleton]
  by_cases e : p = q
  · subst e; simp; omega
  · rw [if_neg e]; simp [e]; omega
/-- a door and an own door are made -/
theorem Sta.make {C : Addr} {H H1 H2 H3 : Hp} {pt d dx o : Addr} {L : List Addr} {N m : Nat} (hP : PotAt H pt 0) (g1 : But [pt] H H1) (hP1 : PotAt H1 pt m) (hd : H1 d = none) (hdx : H1 dx = none) (hne : dx ≠ d)
    (b : But [d] (upd (upd H1 dx (.own d)) d (.ins C dx [])) H2) (D : DoorAt C H2 d (DS.new N)) (g3 : Same H2 H3) (hL : ∀ x ∈ L, H2 x = none) (O : OwnAt H3 o L (DS.new N) 0) : Sta C H pt d o L H3 (DS.new N) (DS.new N) m 0 := by
  have g2 : Same H1 (upd (upd H1 dx (.own d)) d (.ins C dx [])) := (same_new hdx _).trans (same_new (by rw [upd_ne (Ne.symm hne)]; exact hd) _)
  have pd : pt ≠ d := fun z => hP1.ne0 (by rw [z]; exact hd)
  have fr2 : But [pt] H H2 := (g1.trans (.of g2)).into b fun x hx => by rw [List.mem_singleton.mp hx]; exact .inl (g1.free hP1.ne0 hd)
  have hP2 : PotAt H2 pt m := (hP1.but (.of (S := []) g2) (by simp)).but b (by simpa using pd)
  exact ⟨fr2.trans (.of g3), D.same g3, ⟨_, O⟩, hP2.but (.of (S := []) g3) (by simp), hP.ne0, g1.free hP1.ne0 hd, fun x hx => fr2.free hP2.ne0 (hL x hx), Nat.le_refl _⟩
theorem filter_one : ∀ N, N ≤ 5 → ∀ st, st < N → (List.range N).filter (fun p => decide (p = st)) = [st] := by decide
theorem eqv_self_nat (l : List Nat) : PyData.eqv (.tuple (l.map fun (p : Nat) => PyData.int (p : Int))) (.tuple (l.map fun (p : Nat) => PyData.int (p : Int))) = true := by
  have h : ∀ l : List Nat, PyData.eqvAll (l.map fun (p : Nat) => PyData.int (p : Int)) (l.map fun (p : Nat) => PyData.int (p : Int)) = true := fun l => by
    induction l with
    | nil => simp [PyData.eqvAll]
    | cons a r ih => simp [PyData.eqvAll, PyData.eqv, ih]
  simp only [PyData.eqv]
  exact h l
theorem held_none {s : DS} (h : ∀ p, p < s.lev.length → s.lv p ≠ some 1) : s.held = [] := by
  unfold DS.held
  rw [List.filter_eq_nil_iff]
  intro p hp
  simpa using h p (List.mem_range.mp hp)
theorem held_only {s : DS} (W : s.WF) {st : Nat} (hst : st < s.lev.length) (h1 : s.lv st = some 1) (h : ∀ p, p < s.lev.length → p ≠ st → s.lv p ≠ some 1) : s.held = [st] := by
  unfold DS.held
  rw [← filter_one _ W.n5 st hst]
  refine List.filter_congr fun p hp => ?_
  rw [decide_eq_decide]
  constructor
  · intro z
    by_cases e : p = st
    · exact e
    · exact absurd z (h p (List.mem_range.mp hp) e)
  · intro z; rw [z]; exact h1
theorem lv_of3 {s : DS} {p : Nat} (h : s.stg p = 3) : s.lv p ≠ some 1 := by
  obtain ⟨x, hx, h1⟩ := DS.stg3.mp h
  rw [hx]; intro z; injection z with z; exact h1 z
theorem Sta.put {C : Addr} {H0 H : Hp} {pt d o D : Addr} {L : List Addr} {s1 s2 : DS} {m q : Nat} {xs ys : List V} (S : Sta C H0 pt d o L H s1 s2 m q) (h : H D = some (.lst xs)) (n0 : H0 D = none) (nL : D ∉ L) : Sta C H0 pt d o L (upd H D (.lst ys)) s1 s2 m q := by
  have g : But [D] H (upd H D (.lst ys)) := (But.refl _ _).put (by simp)
  have np : pt ≠ D := fun z => S.p0 (by rw [z]; exact n0)
  have tk : TK H (upd H D (.lst ys)) := .put h fun z => z
  exact ⟨S.fr.into g fun x hx => by rw [List.mem_singleton.mp hx]; exact .inl n0, S.door.but g fun x hx => by rw [List.mem_singleton.mp hx]; exact .inl ⟨_, h⟩,
    let ⟨k, O⟩ := S.own; ⟨k, O.but g (fun x hx => by rw [List.mem_singleton.mp hx]; exact nL) tk⟩, S.pot.but g (by simpa using np), S.p0, S.d0, S.L0, S.dl⟩
/-- an address that is new is none of the state's -/
theorem Sta.new {C : Addr} {H0 H : Hp} {pt d o D : Addr} {L : List Addr} {s1 s2 : DS} {m q : Nat} (S : Sta C H0 pt d o L H s1 s2 m q) (h : H D = none) : H0 D = none ∧ D ∉ L ∧ D ≠ d ∧ D ≠ pt := by
  obtain ⟨k, O⟩ := S.own
  refine ⟨S.fr.free S.pot.ne0 h, fun z => ?_, fun z => ?_, fun z => S.pot.ne0 (by rw [← z]; exact h)⟩
  · rcases O.kind D z with ⟨ys, e⟩ | ⟨ys, e⟩ <;> rw [e] at h <;> cases h
  · obtain ⟨dx', fs, e⟩ := S.door.ins; rw [z, e] at h; cases h
theorem Sta.up {C : Addr} {H0 H : Hp} {pt d o : Addr} {L : List Addr} {s1 s2 : DS} {m q m' q' : Nat} (S : Sta C H0 pt d o L H s1 s2 m q) (hm : m ≤ m') (hq : q ≤ q') : Sta C H0 pt d o L H s1 s2 m' q' :=
  ⟨S.fr, S.door, S.own, S.pot.mono hm, S.p0, S.d0, S.L0, Nat.le_trans S.dl hq⟩
/-! ### one word -/
def DS.hd (s : DS) (p : Nat) : Option V := s.heard.getD p none
def DS.Closed (s : DS) : Prop := (∃ q, s.lv q = some 2) ∧ ∀ p, s.stg p = 2 → s.saw p = true
section
variable {s : DS} {p : Nat} {v : V}
theorem DS.hd_new (n p : Nat) : (DS.new n).hd p = none := DS.rep_none n p
theorem DS.hd_come (q : Nat) : (s.come p v).hd q = s.hd q := rfl
theorem DS.hd_step (W : s.WF) (hc : s.cm p ≠ none) (q : Nat) : (s.step p).hd q = if p = q ∧ s.stg p = 3 ∧ some 1 ∉ s.lev then s.cm s.two else s.hd q := by
  have hp := DS.lt_of_cm W hc
  have h4 := DS.stg_lt s p
  rcases (show s.stg p = 0 ∨ s.stg p = 1 ∨ s.stg p = 2 ∨ s.stg p = 3 by omega) with e | e | e | e
  · rw [if_neg (by omega)]; unfold DS.hd; rw [DS.step0 e]
  · rw [if_neg (by omega)]; unfold DS.hd; rw [DS.step1 e]
  · rw [if_neg (by omega)]; unfold DS.hd; rw [DS.step2 e]
  · unfold DS.hd
    rw [DS.step3 e]
    by_cases z : some 1 ∈ s.lev
    · rw [if_pos z, if_neg (by intro h; exact h.2.2 z)]
    · rw [if_neg z]
      show (s.heard.set p (s.cm s.two)).getD q none = _
      rw [getD_set]
      by_cases h : p = q
      · rw [if_pos ⟨h, by rw [W.lh]; exact hp⟩, if_pos ⟨h, e, z⟩]
      · rw [if_neg (fun h' => h h'.1), if_neg (fun h' => h h'.1)]
theorem closed_of (h : ∃ q, s.lv q = some 2) (n : some 1 ∉ s.lev) : s.Closed := ⟨h, fun p hp => absurd (mem_getD.mpr ⟨p, (DS.stg2.mp hp).1⟩) n⟩
theorem DS.Closed.step (c : s.Closed) (W : s.WF) (hc : s.cm p ≠ none) : (s.step p).Closed ∧ (s.step p).two = s.two := by
  have hp := DS.lt_of_cm W hc
  have hps : p < s.seen.length := by rw [W.ls]; exact hp
  have h4 := DS.stg_lt s p
  have k2 := DS.has2_step W hc c.1
  rcases (show s.stg p = 0 ∨ s.stg p = 1 ∨ s.stg p = 2 ∨ s.stg p = 3 by omega) with e | e | e | e
  · refine ⟨⟨k2, fun q hq => ?_⟩, DS.two_same DS.len_step fun q => ?_⟩
    · rw [DS.stg_step W hc] at hq
      have hne : p ≠ q := by intro z; rw [if_pos z, e] at hq; cases hq
      rw [if_neg hne] at hq
      unfold DS.saw; rw [DS.sn_stepN (by omega)]; exact c.2 q hq
    · rw [DS.lv_step0 e hp]; split
      · rename_i z; subst z; rw [DS.stg0.mp e]; simp
      · rfl
  · refine ⟨⟨k2, fun q hq => ?_⟩, DS.two_same DS.len_step fun q => by rw [DS.lv_step1 e]⟩
    rw [DS.stg_step W hc] at hq
    unfold DS.saw; rw [DS.sn_step1 e hps]
    by_cases z : p = q
    · rw [if_pos z]; exact decide_eq_true (mem_getD.mpr c.1)
    · rw [if_neg z] at hq ⊢; exact c.2 q hq
  · have sw := c.2 p e
    have ew : s.wr p = 0 := by unfold DS.wr; rw [if_pos sw]
    refine ⟨⟨k2, fun q hq => ?_⟩, DS.two_same DS.len_step fun q => ?_⟩
    · rw [DS.stg_step W hc] at hq
      have hne : p ≠ q := by intro z; rw [if_pos z, e] at hq; cases hq
      rw [if_neg hne] at hq
      unfold DS.saw; rw [DS.sn_stepN (by omega)]; exact c.2 q hq
    · rw [DS.lv_step2 e hp]; split
      · rename_i z; subst z; rw [ew, (DS.stg2.mp e).1]; simp
      · rfl
  · refine ⟨⟨k2, fun q hq => ?_⟩, DS.two_same DS.len_step fun q => by rw [DS.lv_step3 e]⟩
    rw [DS.stg_step W hc] at hq
    have hne : p ≠ q := by intro z; rw [if_pos z, e] at hq; cases hq
    rw [if_neg hne] at hq
    unfold DS.saw; rw [DS.sn_stepN (by omega)]; exact c.2 q hq
theorem DS.Closed.come (c : s.Closed) : (s.come p v).Closed ∧ (s.come p v).two = s.two := ⟨c, rfl⟩
theorem stg_out (W : s.WF) (h : s.cm p = none) : s.stg p = 0 := by
  refine DS.stg0.mpr ?_
  cases e : s.lv p with
  | none => rfl
  | some x => exact absurd h (W.cmv p (by rw [e]; simp))
end
/-! ### lists of players -/
def unV : V → Nat
  | .int i => i.toNat
  | _ => 0
theorem natV_perm {ys : List V} {R : List Nat} (h : ys.Perm (natV R)) : ∃ Y : List Nat, ys = natV Y ∧ Y.Perm R := by
  refine ⟨ys.map unV, ?_, ?_⟩
  · unfold natV
    rw [List.map_map]
    conv => lhs; rw [← List.map_id ys]
    refine List.map_congr_left fun x hx => ?_
    have := h.mem_iff.mp hx
    unfold natV at this
    obtain ⟨p, _, rfl⟩ := List.mem_map.mp this
    show V.int p = V.int ((unV (V.int p) : Nat) : Int)
    unfold unV
    simp
  · have := h.map unV
    refine this.trans ?_
    have e : (natV R).map unV = R := by
      unfold natV
      rw [List.map_map]
      conv => rhs; rw [← List.map_id R]
      refine List.map_congr_left fun x _ => ?_
      show unV (V.int x) = x
      unfold unV
      simp
    rw [e]
/-! ### a door and a pot -/
structure Dn (C : Addr) (H : Hp) (pt d : Addr) (s : DS) (m q : Nat) : Prop where
  door : DoorAt C H d s
  pot : PotAt H pt m
  dl : s.deeds.length ≤ q
section
variable {C : Addr} {H H' : Hp} {pt d D : Addr} {s s' : DS} {m m' q q' : Nat}
theorem Dn.ptd (S : Dn C H pt d s m q) : pt ≠ d := fun z => by
  obtain ⟨dx, fs, e⟩ := S.door.ins
  obtain ⟨xs, e2⟩ := S.pot.there
  rw [z, e] at e2; cases e2
theorem Dn.same (S : Dn C H pt d s m q) (g : Same H H') : Dn C H' pt d s m q := ⟨S.door.same g, S.pot.but (.of (S := []) g) (by simp), S.dl⟩
theorem Dn.take (S : Dn C H pt d s m q) (g : But [pt] H H') (hp : PotAt H' pt m') : Dn C H' pt d s m' q := ⟨S.door.but g fun x hx => by rw [List.mem_singleton.mp hx]; exact .inl S.pot.there, hp, S.dl⟩
theorem Dn.stepD (S : Dn C H pt d s m q) (g : But [d] H H') (hd : DoorAt C H' d s') (hl : s'.deeds.length ≤ q') : Dn C H' pt d s' m q' := ⟨hd, S.pot.but g (by simpa using S.ptd), hl⟩
theorem Dn.put {xs ys : List V} (S : Dn C H pt d s m q) (h : H D = some (.lst xs)) (n : D ≠ pt) : Dn C (upd H D (.lst ys)) pt d s m q := by
  have g : But [D] H (upd H D (.lst ys)) := (But.refl _ _).put (by simp)
  exact ⟨S.door.but g fun x hx => by rw [List.mem_singleton.mp hx]; exact .inl ⟨_, h⟩, S.pot.but g (by simpa using n.symm), S.dl⟩
theorem Dn.new (S : Dn C H pt d s m q) (h : H D = none) : D ≠ d ∧ D ≠ pt := ⟨fun z => (by obtain ⟨dx', fs, e⟩ := S.door.ins; rw [z, e] at h; cases h), fun z => S.pot.ne0 (by rw [← z]; exact h)⟩
theorem Dn.up (S : Dn C H pt d s m q) (hm : m ≤ m') (hq : q ≤ q') : Dn C H pt d s m' q' := ⟨S.door, S.pot.mono hm, Nat.le_trans S.dl hq⟩
end
/-- how often a place was asked from lap 8 on -/
def laps (e j i : Nat) : Nat := ((List.range i).filter fun l => decide (8 ≤ l ∧ l % e = j)).length
theorem laps_succ (e j i : Nat) : laps e j (i + 1) = laps e j i + if 8 ≤ i ∧ i % e = j then 1 else 0 := by
  unfold laps
  rw [List.range_succ, List.filter_append, List.length_append]
  congr 1
  by_cases h : 8 ≤ i ∧ i % e = j <;> simp [h]
theorem laps_20 : ∀ e, e ≤ 4 → ∀ j, j < e → 3 ≤ laps e j 20 := by decide
theorem word_data {dv : PyData} (ho : VOk 3 dv) : Sm 5 60 (.tuple [dv]) := (Sms.tup (.cons ho.sm (Sms.nil (n := 0)))).mono (by decide) (by decide)
theorem word_dp {K : PySem.W.Frag} {H0 H : Hp} {v : V} {dv : PyData} {t : Addr} (hv : VAt H0 v dv) (g : TK H0 H) (ht : H t = some (.tup [v])) : Dp K H (.ref t) (.tuple [dv]) := .tup (.of ht) (.cons (hv.mono g).dp .nil)
theorem sm_level {i : Int} (h0 : 0 ≤ i) (h2 : i ≤ 2) : Sm 6 100 (.tuple [.str "level", .int i]) := (Sms.tup (.cons (sm_word _ (by decide +kernel)) (.cons ((Sm.int (i := i) (by omega) (by omega)).mono (Nat.le_refl 1) (Nat.le_refl 0)) (Sms.nil (n := 0))))).mono (by decide) (by decide)
theorem sm_wait : Sm 6 100 (.tuple [.str "wait"]) := (Sms.tup (.cons (sm_word "wait" (by decide +kernel)) (Sms.nil (n := 0)))).mono (by decide) (by decide)
theorem sm_wordD {dv : PyData} (ho : VOk 3 dv) : Sm 6 100 (.tuple [.str "word", dv]) := (Sms.tup (.cons ((sm_word "word" (by decide +kernel)).mono (by decide : 1 ≤ 4) (Nat.le_refl 10)) (.cons ho.sm (Sms.nil (n := 0))))).mono (by decide) (by decide)
theorem DS.Closed.win {s : DS} (c : s.Closed) {w : Nat} (h : w = s.two ∨ (s.lv w = some 1 ∧ s.won w = true)) : w = s.two := by
  rcases h with h | ⟨h1, h2⟩
  · exact h
  · exfalso
    unfold DS.won at h2
    cases e : s.sn w with
    | none => rw [e] at h2; cases h2
    | some l =>
      rw [e] at h2
      have h2 : (!decide (some 2 ∈ l)) = true := h2
      have := c.2 w (DS.stg2.mpr ⟨h1, by rw [e]; simp⟩)
      unfold DS.saw at this
      rw [e] at this
      simp only [Option.getD_some] at this
      rw [this] at h2; cases h2
theorem DoorAt.heard {C : Addr} {H : Hp} {d : Addr} {s : DS} {K : PySem.W.Frag} (h : DoorAt C H d s) (hC : DC K C) : ∃ dx fs hv c, H d = some (.ins C dx fs) ∧ fs.lookup ("heard" : Str) = some (.ref c) ∧ TF H c hv ∧ Paired (One H) hv s.heard := by
  obtain ⟨dx, a, b, c, e, f, cv, hv, sv, dv, D⟩ := h
  exact ⟨dx, _, hv, c, D.obj, d_heard, D.heard, D.heardP⟩
theorem stg_keep {s : DS} {p q : Nat} (W : s.WF) (hc : s.cm p ≠ none) (h : p ≠ q) : (s.step p).stg q = s.stg q := by rw [DS.stg_step W hc, if_neg h]
theorem stg_self {s : DS} {p : Nat} (W : s.WF) (hc : s.cm p ≠ none) : (s.step p).stg p = min 3 (s.stg p + 1) := by rw [DS.stg_step W hc, if_pos rfl]
theorem hd_keep {s : DS} {p q : Nat} (W : s.WF) (hc : s.cm p ≠ none) (h : s.stg p ≠ 3 ∨ some 1 ∈ s.lev) : (s.step p).hd q = s.hd q := by
  rw [DS.hd_step W hc, if_neg]
  rintro ⟨_, a, b⟩
  rcases h with h | h
  · exact h a
  · exact b h
theorem hd_self {s : DS} {p : Nat} (W : s.WF) (hc : s.cm p ≠ none) (h : s.stg p = 3) (h1 : some 1 ∉ s.lev) : (s.step p).hd p = s.cm s.two := by rw [DS.hd_step W hc, if_pos ⟨rfl, h, h1⟩]
theorem lv_none_of {s : DS} {q : Nat} (h : s.stg q = 0 ∨ s.stg q = 3) : s.lv q ≠ some 1 := by
  rcases h with h | h
  · rw [DS.stg0.mp h]; simp
  · exact lv_of3 h
theorem told_lvl {H : Hp} {t : Addr} {i : Int} (h : ToldAt H t (.level i)) : H t = some (.tup [.str "level", .int i]) := h
theorem told_word {s : DS} {p : Nat} {v : V} (h : s.told p = .word v) : s.stg p = 3 ∧ some 1 ∉ s.lev ∧ v = (s.cm s.two).getD .non := by
  have h4 := DS.stg_lt s p
  rcases (show s.stg p = 0 ∨ s.stg p = 1 ∨ s.stg p = 2 ∨ s.stg p = 3 by omega) with z | z | z | z
  · rw [DS.told0 z] at h; cases h
  · rw [DS.told1 z] at h; cases h
  · rw [DS.told2 z] at h; cases h
  · rw [DS.told3 z] at h
    split at h
    · cases h
    · rename_i h1; injection h with h; exact ⟨z, h1, h.symm⟩
theorem cut_word (v : V) : cutV [V.str "word", v] (some 1) none = [v] := rfl
end Fp
/-! len(set(xs)), xs a list of texts that are all the same one -/
namespace Fp
open PySem PySem.Spec PyProof.Rows L2
/-- the set of the text z once something was put in -/
def onlyZ (z : Str) (i : Nat) (k : Str) : Bool := decide (0 < i ∧ k = z)
section
variable {prog : Program} {w : World} {A : Around} {R : Result → Shared → Prop} {I : Addr} {fp wr : List Addr} {G : Array GenState → Array GenState → Prop} {n : Nat} {P : Nat → Value → Prop} {St : Nat → Shared → Prop}
theorem SetOf_move {h h' : Heap} {a : Addr} {S : Str → Bool} {m : Nat} (e : ∀ o, h.get? a = some o → h'.get? a = some o) (hS : h.SetOf (PySem.strKind prog w) a S m) : h'.SetOf (PySem.strKind prog w) a S m := by
  obtain ⟨o, es, ep, t, ho, rest⟩ := hS
  exact ⟨o, es, ep, t, e _ ho, rest⟩
theorem onlyZ_add {h : Heap} {a : Addr} {z : Str} {i : Nat} (hS : h.SetOf (PySem.strKind prog w) a (fun k' => onlyZ z i k' || decide (k' = z)) (if onlyZ z i z = true then min i 1 else min i 1 + 1)) : h.SetOf (PySem.strKind prog w) a (onlyZ z (i + 1)) (min (i + 1) 1) := by
  refine SetOf_congr hS (fun k' => ?_) ?_
  · unfold onlyZ
    by_cases e : k' = z <;> by_cases c : 0 < i <;> simp [e, c]
  · unfold onlyZ
    by_cases c : 0 < i
    · rw [if_pos (by simp [c])]; omega
    · rw [if_neg (by simp [c])]; omega
/-- the putting in, from the i-th on -/
theorem fill_same (W : WalksS prog w A.in1 I fp wr G n P St) (D : Addr) (hD : D ∉ fp) (z : Str) (hv : ∀ i v, P i v → ∃ t, v = .str z t) (j : Nat) :
    ∀ (i : Nat) (s : Shared), i + j = n → St i s → s.heap.SetOf (PySem.strKind prog w) D (onlyZ z i) (min i 1) →
      (∀ s', Moved (D :: wr) G s s' → s'.heap.SetOf (PySem.strKind prog w) D (onlyZ z n) (min n 1) → R (.ok (.ret .none)) s') →
      codeAny (model prog w) A (.builtin "set.update.loop" ⟨[.ref D, .ref I], []⟩) R s := by
  have nw : D ∉ wr := fun h => hD (W.sub _ h)
  have more : ∀ b ∈ wr, b ∈ D :: wr := fun b hb => List.mem_cons_of_mem _ hb
  induction j with
  | zero =>
    intro i s hi st hS q
    obtain rfl : i = n := hi
    refine codeAny_builtin PyProof.Rows.F.entry_set_update_loop ?_
    rw [Around.under_plainId PyProof.Rows.F.plain_set_update_loop _]
    show wpAny _ A.in1 (pyNext (.ref I) >>= _) _ _ s
    refine wpAny_bind (W.done s _ _ st fun s' m => ?_)
    exact wpAny_pure (q s' (m.mono more) (SetOf_move (fun o e => m.heap D o nw e) hS))
  | succ j ih =>
    intro i s hi st hS q
    refine codeAny_builtin PyProof.Rows.F.entry_set_update_loop ?_
    rw [Around.under_plainId PyProof.Rows.F.plain_set_update_loop _]
    show wpAny _ A.in1 (pyNext (.ref I) >>= _) _ _ s
    refine wpAny_bind (W.item i s _ _ (by omega) st fun v s' pv st' m => ?_)
    obtain ⟨t, rfl⟩ := hv i v pv
    have hS' := SetOf_move (fun o e => m.heap D o nw e) hS
    refine wpAny_bind (wpAny_holding ?_)
    unfold setAdd
    refine wpAny_holding (wpAny_bind ((PySem.strKind prog w).pyHash (k := z) (strKind_is _ _ _ _) ?_))
    refine wpAny_setAddHashed_of (knd := PySem.strKind prog w) (s := { s' with toks := s'.toks + 1 }) (strKind_is _ _ _ _) rfl hS' (by unfold scanBound; omega) fun h' sb hS2 => ?_
    refine wpAny_pure ⟨plainId_quiet PyProof.Rows.F.plain_set_update_loop _, ih (i + 1) _ (by omega) (W.frame _ s' _ _ st' (Nat.le_succ _) fun b hb o e => ?_) (onlyZ_add hS2) fun s2 m2 hS3 => q s2 (Moved.trans W.gtrans ((m.mono more).then_heap (Nat.le_succ _) fun b o hb e => ?_) m2) hS3⟩
    · exact (sb.2 b fun (z : b = D) => hD (z ▸ hb)).trans e
    · exact (sb.2 b fun (z : b = D) => hb (by rw [z]; exact List.mem_cons_self)).trans e
end
section
variable {prog : Program} {w : World} {A : Around} {E : Value → Shared → Prop} {s : Shared}
/-- the set's object as it is made, empty -/
def setO (led : Bool) : Obj := { cls := .type "set", dict := none, data := .set #[] 0 (.fresh 0 0 led) }
set_option maxHeartbeats 3200000 in
theorem init_same {l : Addr} {its : Array Value} {z : Str} {led : Bool} (hh : A.handled = none) (hl : s.heap.IsList l its) (hz : ∀ v ∈ its.toList, ∃ t, v = .str z t) :
    codeAny (model prog w) A (.call (.builtin "set.__init__") ⟨[.ref s.heap.objs.size, .ref l], []⟩) (wants (fun r s₂ => r = .none ∧ ∃ h' tk, s₂ = { s with heap := h', toks := tk } ∧
      h'.SetOf (PySem.strKind prog w) s.heap.objs.size (onlyZ z its.size) (min its.size 1) ∧ (∀ b o, b < s.heap.objs.size → s.heap.get? b = some o → h'.get? b = some o)) E) { s with heap := s.heap.push (setO led) } := by
  have top : (s.heap.push (setO led)).get? s.heap.objs.size = some (setO led) := Heap.get?_push_size _ rfl
  have hT : Shared.TypeIs { s with heap := s.heap.push (setO led) } (.ref s.heap.objs.size) "set" := ⟨_, top, rfl⟩
  refine codeAny_call_builtin PySem.F.called_set.init.plain PySem.F.entry_set_init (check_set_init_1 hT ?_)
  obtain ⟨⟨cls, odict, odata, oslots⟩, hol, hcl, nl, hdl⟩ := hl
  simp only at hcl hdl
  subst hcl; subst hdl
  have hol' : (s.heap.push (setO led)).get? l = some { cls := .type "list", dict := odict, data := .seq its nl, slots := oslots } := Heap.get?_push_of_some _ hol
  have f1 := PySem.F.sub_list_set
  have f2 := PySem.F.sub_list_frozenset
  have f3 : (Value.type "list" == Value.type "dict") = false := by decide
  have hl1 : (s.heap.push (setO led)).IsList l its := ⟨_, hol', rfl, nl, rfl⟩
  have lt := Heap.lt_size hol
  unfold Builtin.«set.__init__» noKeywords Builtin.Frozenset.updateFrom
  generalize hPI : pyIter = PI
  wp_walk
  subst hPI
  refine wpAny_pyIter_list hl1 (wpAny_bind (wpAny_runValue ?_))
  have nI : l ≠ (s.heap.push (setO led)).objs.size := by rw [Heap.size_push]; exact Nat.ne_of_lt (Nat.lt_succ_of_lt lt)
  refine fill_same ((Walks.list (by simp [hh]) _ l nI its).toS) s.heap.objs.size ?_ z (fun i v e => hz v (Array.mem_toList_iff.mpr (Array.mem_of_getElem? e))) its.size 0 _ (Nat.zero_add _) ⟨⟨_, Heap.get?_push_size _ rfl, rfl, rfl⟩, (hl1.push _)⟩ ?_ ?_
  · rw [Heap.size_push]; simp only [List.mem_cons, List.mem_singleton, List.not_mem_nil, or_false, not_or]; exact ⟨Nat.ne_of_lt (Nat.lt_succ_self _), Nat.ne_of_gt lt⟩
  · exact SetOf_congr (n := 0) ((setObjOf_fresh (knd := PySem.strKind prog w) led).setOf (Heap.get?_push_of_some _ top) (by decide)) (fun k => by simp [onlyZ]) rfl
  · rintro ⟨h', g', d', tk', os'⟩ m hS
    obtain rfl : g' = s.gens := m.gens
    obtain rfl : d' = s.drawn := m.drawn
    obtain rfl : os' = s.os := m.os
    show wpAny _ _ _ _ _ _
    refine wpAny_pure ?_
    show wpAny _ _ (ret Value.none) _ _ _
    refine wpAny_pure ⟨rfl, h', tk', rfl, hS, fun b o hb e => m.heap b o ?_ (Heap.get?_push_of_some _ (Heap.get?_push_of_some _ e))⟩
    have b1 : b ≠ s.heap.objs.size := Nat.ne_of_lt hb
    have b2 : b ≠ (s.heap.push (setO led)).objs.size := by rw [Heap.size_push]; omega
    simp only [List.mem_cons, List.mem_singleton, List.not_mem_nil, or_false, not_or]
    exact ⟨b1, b2⟩
set_option maxHeartbeats 3200000 in
theorem call_set_same {l : Addr} {its : Array Value} {z : Str} {Q : Value → Shared → Prop} (hh : A.handled = none) (hl : s.heap.IsList l its) (hz : ∀ v ∈ its.toList, ∃ t, v = .str z t)
    (h : ∀ (h' : Heap) (tk : Nat), h'.SetOf (PySem.strKind prog w) s.heap.objs.size (onlyZ z its.size) (min its.size 1) → (∀ b o, b < s.heap.objs.size → s.heap.get? b = some o → h'.get? b = some o) → Q (.ref s.heap.objs.size) { s with heap := h', toks := tk }) :
    wpAny (model prog w) A (call (.type "set") [.ref l]) Q E s := by
  obtain ⟨c, tl, e1⟩ := PySem.F.called_set.mro
  have e2 := PySem.F.called_set.made
  have e3 := PySem.F.called_set.sub
  have e4 := PySem.F.called_set.notType
  have e5 := PySem.F.called_set.canCreate
  have e6 := PySem.F.typeCall_set_1 (.ref l)
  have e7 := PySem.F.called_set.init.lookup
  refine wpAny_call (codeAny_of_tree ?_)
  show wpAny _ _ (callAny (.type "set") _) _ _ _
  refine wpAny_pure ⟨Code.quiet_builtin _ (by decide +kernel), codeAny_builtin PySem.F.entry_type_call ?_⟩
  rw [Around.under_plain (weight_type_call_type "set" [.ref l] []) rfl]
  repeat (any_goals (first | assumption | wp_step))
  refine codeAny_mono (code_set_new_1 (.ref l) (E := E) (Q₁ := fun x s₁ => ∃ led : Bool, x = .ref s.heap.objs.size ∧ s₁ = { s with heap := s.heap.push (setO led) }) fun led => ⟨led, rfl, rfl⟩) fun r s₁ hr => ?_
  cases r with
  | error e => exact hr
  | ok fl =>
    cases fl with
    | ret x =>
      obtain ⟨led, rfl, rfl⟩ := hr
      have top : (s.heap.push (setO led)).get? s.heap.objs.size = some (setO led) := Heap.get?_push_size _ rfl
      have hT : Shared.TypeIs { s with heap := s.heap.push (setO led) } (.ref s.heap.objs.size) "set" := ⟨_, top, rfl⟩
      have e8 := PySem.F.called_set.init.bind (.ref s.heap.objs.size)
      repeat (any_goals (first | assumption | wp_step))
      refine codeAny_mono (init_same (A := A.in1) (E := E) (by simp [hh]) hl hz) fun r₂ s₂ hr₂ => ?_
      cases r₂ with
      | error e => exact hr₂
      | ok fl₂ =>
        cases fl₂ with
        | ret r =>
          obtain ⟨rfl, h', tk, rfl, hS, hk⟩ := hr₂
          repeat (any_goals (first | assumption | wp_step))
          exact h _ _ hS hk
        | _ => exact hr₂.elim
    | _ => exact hr.elim
end
section
variable {X : Cx}
theorem same_vals {z : Str} : ∀ {xs : List V} {us : List Value}, Vals xs us → (∀ x ∈ xs, x = .str z) → ∀ v ∈ us, ∃ t, v = .str z t
  | _, _, .nil, _ => fun v hv => absurd hv (by simp)
  | x :: xs, _, .cons r t, h => by
    have e := h x List.mem_cons_self
    subst e
    obtain ⟨k, rfl⟩ := r
    intro v hv
    rcases List.mem_cons.mp hv with e | hv
    · exact ⟨k, e⟩
    · exact same_vals t (fun y hy => h y (List.mem_cons_of_mem _ hy)) v hv
def tLenSame (K : PySem.W.Frag) (ta : TE) : TE := fun σ H Q => ta σ H fun x H1 => ∃ (l : Addr) (xs : List V) (z : Str), x = .ref l ∧ SqL K H1 l xs ∧ (∀ x ∈ xs, x = .str z) ∧ xs ≠ [] ∧ Q (.int 1) H1
theorem pe_lenSame {a : Expr} {ta : TE} {p p2 q pos : Pos} (hc : X.calm = true) (hg : Gl X "len") (hm : X.mg "len" = none) (hg2 : Gl X "set") (hm2 : X.mg "set" = none) (ha : PE X a ta)
    (na : starEach [a] X.env = (false, eval a X.env) :: starEach [] X.env := by rfl) : PE X (.Call (.Name "len" p) [.Call (.Name "set" p2) [a] [] q] [] pos) (tLenSame X.K ta) := by
  refine ⟨fun pins s σ H Q I h => Call_ (ld_blt I hg hm boot_len (callWith_builtin1 (args_cons (Call_ (ld_blt I hg2 hm2 boot_set (callWith_type1 (args_cons (thn (ha.run pins s σ H _ I h) fun v s1 ⟨x, H1, I1, r1, q1⟩ => args_nil ?_) na) na rfl))) rfl) rfl rfl))⟩
  obtain ⟨l, xs, z, rfl, hs, hx, hne, q1⟩ := q1
  cases r1
  obtain ⟨its, r, pl, hz⟩ := I1.list hs
  have one : min its.toArray.size 1 = 1 := by
    have : 0 < xs.length := List.length_pos_iff.mpr hne
    have := r.length
    rw [List.size_toArray]; omega
  refine call_set_same (I1.ok.hd hc) pl.isList (by simpa using same_vals r hx) fun h' tk hS hk => args_nil ?_
  rw [one] at hS
  obtain ⟨o, es, ep, t, ho, hex, hd, _, _, _, hf, hn⟩ := hS
  have I2 : Inv X pins σ H1 { s1 with heap := h', toks := tk } := I1.kept fun b o e => hk b o (Heap.lt_size e) e
  exact call_len_set ho hex hd hf (by rw [hn] <;> omega) ⟨.int 1, H1, I2.tok _, ⟨_, by rw [hn] <;> rfl⟩, q1⟩
end
end Fp
/-! set(xs), xs a list of integers; tuple(sorted(set(xs))) -/
namespace Fp
open PySem PySem.Spec PyProof.Rows L2
section
variable {prog : Program} {w : World} {A : Around} {E : Value → Shared → Prop} {s : Shared}
set_option maxHeartbeats 3200000 in
theorem init_ints {l : Addr} {its : Array Value} {ns : List Int} (hh : A.handled = none) (hl : s.heap.IsList l its) (hi : IntsAre its.toList ns) (hb : ns.length + 1 < scanBound) :
    codeAny (model prog w) A (.call (.builtin "set.__init__") ⟨[.ref s.heap.objs.size, .ref l], []⟩) (wants (fun r s₂ => r = .none ∧ ∃ h' tk c, s₂ = { s with heap := h', toks := tk } ∧
      SetR w h' s.heap.objs.size (fun j => decide (j ∈ ns)) c ∧ c ≤ ns.length ∧ (∀ b o, b < s.heap.objs.size → s.heap.get? b = some o → h'.get? b = some o)) E) { s with heap := s.heap.push (setO (!w.params.followText "set-order")) } := by
  generalize hled : (!w.params.followText "set-order") = led
  have top : (s.heap.push (setO led)).get? s.heap.objs.size = some (setO led) := Heap.get?_push_size _ rfl
  have hT : Shared.TypeIs { s with heap := s.heap.push (setO led) } (.ref s.heap.objs.size) "set" := ⟨_, top, rfl⟩
  have hsz : its.size = ns.length := by
    have q := hi.length
    rwa [Array.length_toList] at q
  refine codeAny_call_builtin PySem.F.called_set.init.plain PySem.F.entry_set_init (check_set_init_1 hT ?_)
  obtain ⟨⟨cls, odict, odata, oslots⟩, hol, hcl, nl, hdl⟩ := hl
  simp only at hcl hdl
  subst hcl; subst hdl
  have hol' : (s.heap.push (setO led)).get? l = some { cls := .type "list", dict := odict, data := .seq its nl, slots := oslots } := Heap.get?_push_of_some _ hol
  have f1 := PySem.F.sub_list_set
  have f2 := PySem.F.sub_list_frozenset
  have f3 : (Value.type "list" == Value.type "dict") = false := by decide
  have hl1 : (s.heap.push (setO led)).IsList l its := ⟨_, hol', rfl, nl, rfl⟩
  have lt := Heap.lt_size hol
  unfold Builtin.«set.__init__» noKeywords Builtin.Frozenset.updateFrom
  generalize hPI : pyIter = PI
  wp_walk
  subst hPI
  refine wpAny_pyIter_list hl1 (wpAny_bind (wpAny_runValue ?_))
  have nI : l ≠ (s.heap.push (setO led)).objs.size := by rw [Heap.size_push]; exact Nat.ne_of_lt (Nat.lt_succ_of_lt lt)
  refine set_update_ints ((Walks.list (by simp [hh]) _ l nI its).toS) s.heap.objs.size ?_ ns hsz hb (fun i v e => ?_) its.size 0 _ (Nat.sub_zero _) (Nat.zero_le _) ⟨⟨_, Heap.get?_push_size _ rfl, rfl, rfl⟩, (hl1.push _)⟩ ⟨0, Nat.le_refl 0, setR_new_at (w := w) ?_⟩ ?_
  · rw [Heap.size_push]; simp only [List.mem_cons, List.mem_singleton, List.not_mem_nil, or_false, not_or]; exact ⟨Nat.ne_of_lt (Nat.lt_succ_self _), Nat.ne_of_gt lt⟩
  · have hin : i < ns.length := by rw [← hsz]; exact (Array.getElem?_eq_some_iff.mp e).1
    obtain ⟨t, et⟩ := IntsAre.int_at hi i v (by rw [Array.getElem?_toList]; exact e)
    refine ⟨ns[i], t, List.getElem?_eq_getElem hin, ?_⟩
    rw [et, List.getD_eq_getElem?_getD, List.getElem?_eq_getElem hin] <;> rfl
  · rw [hled]
    exact Heap.get?_push_of_some _ top
  · rintro ⟨h', g', d', tk', os'⟩ c m hc hS
    obtain rfl : g' = s.gens := m.gens
    obtain rfl : d' = s.drawn := m.drawn
    obtain rfl : os' = s.os := m.os
    show wpAny _ _ _ _ _ _
    refine wpAny_pure ?_
    show wpAny _ _ (ret Value.none) _ _ _
    refine wpAny_pure ⟨rfl, h', tk', c, rfl, hS, by omega, fun b o hb e => m.heap b o ?_ (Heap.get?_push_of_some _ (Heap.get?_push_of_some _ e))⟩
    have b1 : b ≠ s.heap.objs.size := Nat.ne_of_lt hb
    have b2 : b ≠ (s.heap.push (setO led)).objs.size := by rw [Heap.size_push]; omega
    simp only [List.mem_cons, List.mem_singleton, List.not_mem_nil, or_false, not_or]
    exact ⟨b1, b2⟩
set_option maxHeartbeats 3200000 in
theorem call_set_ints {l : Addr} {its : Array Value} {ns : List Int} {Q : Value → Shared → Prop} (hh : A.handled = none) (hl : s.heap.IsList l its) (hi : IntsAre its.toList ns) (hb : ns.length + 1 < scanBound)
    (h : ∀ (h' : Heap) (tk c : Nat), SetR w h' s.heap.objs.size (fun j => decide (j ∈ ns)) c → c ≤ ns.length → (∀ b o, b < s.heap.objs.size → s.heap.get? b = some o → h'.get? b = some o) → Q (.ref s.heap.objs.size) { s with heap := h', toks := tk }) :
    wpAny (model prog w) A (call (.type "set") [.ref l]) Q E s := by
  obtain ⟨c, tl, e1⟩ := PySem.F.called_set.mro
  have e2 := PySem.F.called_set.made
  have e3 := PySem.F.called_set.sub
  have e4 := PySem.F.called_set.notType
  have e5 := PySem.F.called_set.canCreate
  have e6 := PySem.F.typeCall_set_1 (.ref l)
  have e7 := PySem.F.called_set.init.lookup
  refine wpAny_call (codeAny_of_tree ?_)
  show wpAny _ _ (callAny (.type "set") _) _ _ _
  refine wpAny_pure ⟨Code.quiet_builtin _ (by decide +kernel), codeAny_builtin PySem.F.entry_type_call ?_⟩
  rw [Around.under_plain (weight_type_call_type "set" [.ref l] []) rfl]
  repeat (any_goals (first | assumption | wp_step))
  refine codeAny_mono (code_set_led1 (.ref l) (E := E) (Q₁ := fun x s₁ => x = .ref s.heap.objs.size ∧ s₁ = { s with heap := s.heap.push (setO (!w.params.followText "set-order")) }) ⟨rfl, rfl⟩) fun r s₁ hr => ?_
  cases r with
  | error e => exact hr
  | ok fl =>
    cases fl with
    | ret x =>
      obtain ⟨rfl, rfl⟩ := hr
      have top : (s.heap.push (setO (!w.params.followText "set-order"))).get? s.heap.objs.size = some (setO (!w.params.followText "set-order")) := Heap.get?_push_size _ rfl
      have hT : Shared.TypeIs { s with heap := s.heap.push (setO (!w.params.followText "set-order")) } (.ref s.heap.objs.size) "set" := ⟨_, top, rfl⟩
      have e8 := PySem.F.called_set.init.bind (.ref s.heap.objs.size)
      repeat (any_goals (first | assumption | wp_step))
      refine codeAny_mono (init_ints (A := A.in1) (E := E) (by simp [hh]) hl hi hb) fun r₂ s₂ hr₂ => ?_
      cases r₂ with
      | error e => exact hr₂
      | ok fl₂ =>
        cases fl₂ with
        | ret r =>
          obtain ⟨rfl, h', tk, c, rfl, hS, hc, hk⟩ := hr₂
          repeat (any_goals (first | assumption | wp_step))
          exact h _ _ _ hS hc hk
        | _ => exact hr₂.elim
    | _ => exact hr.elim
end
theorem ints_vals : ∀ {ns : List Int} {us : List Value}, Vals (ns.map V.int) us → IntsAre us ns
  | [], _, .nil => .nil
  | n :: ns, _, .cons r t => by
    obtain ⟨k, rfl⟩ := r
    exact .cons n k (ints_vals t)
/-- set(xs) of a list of integers -/
def rSetI (K : PySem.W.Frag) (w : World) : List V → Hp → VK → Prop := fun xs H Q => ∃ (l : Addr) (ns : List Int), xs = [.ref l] ∧ SqL K H l (ns.map V.int) ∧ ns.length ≤ 1000 ∧ ∀ a c, c ≤ ns.length → H a = none → Q (.ref a) (upd H a (SetO w a (fun j => decide (j ∈ ns)) c))
section
variable {X : Cx}
theorem cr_setI (hc : X.calm = true) : CallR X (.type "set") (rSetI X.K X.w) := by
  intro pins s σ H xs us Q I r h
  obtain ⟨l, ns, rfl, hs, hl, q⟩ := h
  rw [Vals.ref1 r]
  obtain ⟨its, rv, pl, hz⟩ := I.list hs
  refine call_set_ints (ns := ns) (I.ok.hd hc) pl.isList (by simpa using ints_vals rv) (by unfold scanBound; omega) fun h' tk c hS hcl hk => ?_
  exact ⟨.ref s.heap.objs.size, _, I.laid (t' := tk) (fun b u e => hk b u (Heap.lt_size e) e) (Nat.le_refl _) (setO_new hS), rfl, q _ c hcl (I.hok.fresh (Nat.le_refl _))⟩
end
end Fp
/-! A stair of levels, as a plain thing -/
namespace Fp
open PySem PySem.Spec PyProof.Rows L2
theorem countP_same {α : Type} {f g : α → Bool} : ∀ {l : List α}, (∀ x ∈ l, f x = true → g x = true) → l.countP g ≤ l.countP f → ∀ x ∈ l, g x = true → f x = true
  | [], _, _, x, hx, _ => absurd hx (by simp)
  | a :: l, h, e, x, hx, hg => by
    have hm := List.countP_mono_left (l := l) fun y hy => h y (List.mem_cons_of_mem _ hy)
    have ha := h a List.mem_cons_self
    rw [List.countP_cons, List.countP_cons] at e
    by_cases fa : f a = true
    · have ga := ha fa
      rw [if_pos fa, if_pos ga] at e
      rcases List.mem_cons.mp hx with z | z
      · rw [z]; exact fa
      · exact countP_same (fun y hy => h y (List.mem_cons_of_mem _ hy)) (by omega) x z hg
    · rw [if_neg fa] at e
      by_cases ga : g a = true
      · rw [if_pos ga] at e; omega
      · rw [if_neg ga] at e
        rcases List.mem_cons.mp hx with z | z
        · rw [z] at hg; exact absurd hg ga
        · exact countP_same (fun y hy => h y (List.mem_cons_of_mem _ hy)) (by omega) x z hg
theorem countP_more {α : Type} [DecidableEq α] {f g : α → Bool} : ∀ {l : List α}, (∀ x ∈ l, f x = true → g x = true) → ∀ x ∈ l, f x = false → g x = true → l.countP f < l.countP g := fun {l} h x hx hf hg => by
  rcases Nat.lt_or_ge (l.countP f) (l.countP g) with z | z
  · exact z
  · have := countP_same h z x hx hg
    rw [hf] at this; cases this
theorem countP_range (n : Nat) (f : Nat → Bool) : (List.range n).countP f ≤ n := by
  have := List.countP_le_length (p := f) (l := List.range n)
  rwa [List.length_range] at this
inductive Due where
  | wr (l : Int) | look
structure LS where
  lev : List Lv
  vw : List (Option (List Nat))
  lk : List Bool
  run : List PyData
namespace LS
def new (n : Nat) : LS := ⟨List.replicate n none, List.replicate n none, List.replicate n false, []⟩
def n (s : LS) : Nat := s.lev.length
def lv (s : LS) (p : Nat) : Lv := s.lev.getD p none
def vi (s : LS) (p : Nat) : Option (List Nat) := s.vw.getD p none
def lo (s : LS) (p : Nat) : Bool := s.lk.getD p false
def le (a : Lv) (l : Int) : Bool := match a with
  | none => false
  | some x => decide (x ≤ l)
def below (s : LS) (l : Int) : List Nat := (List.range s.n).filter fun p => le (s.lv p) l
def next (s : LS) (p : Nat) : Option Due := if (s.vi p).isSome then none else if s.lo p then some .look else some (.wr (match s.lv p with
  | none => (s.n : Nat)
  | some l => l - 1))
def own (s : LS) (p : Nat) : Int := (s.lv p).getD 0
def seen (s : LS) (p : Nat) : Option (List Nat) := if s.own p ≤ (s.below (s.own p)).length then some (s.below (s.own p)) else none
def wrote (s : LS) (p : Nat) (l : Int) : LS := { s with lev := s.lev.set p (some l), lk := s.lk.set p true, run := s.run ++ [.tuple [.int (p : Nat), .str "write", .int l]] }
def looked (s : LS) (p : Nat) : LS := { s with vw := s.vw.set p (s.seen p), lk := s.lk.set p false, run := s.run ++ [.tuple [.int (p : Nat), .str "look", .tuple (s.lev.map lvD)]] }
def step (s : LS) (p : Nat) : LS := match s.next p with
  | none => s
  | some (.wr l) => s.wrote p l
  | some .look => s.looked p
/-- at l or below, or coming there -/
def inS (s : LS) (l : Nat) (p : Nat) : Bool := le (s.lv p) l
def inD (s : LS) (l : Nat) (p : Nat) : Bool := decide (s.lv p = some ((l : Int) + 1)) && !s.lo p && (s.vi p).isNone
structure WF (s : LS) : Prop where
  n1 : 1 ≤ s.n
  n5 : s.n ≤ 5
  lw : s.vw.length = s.n
  ll : s.lk.length = s.n
  rng : ∀ p l, s.lv p = some l → 1 ≤ l ∧ l ≤ s.n
  lkl : ∀ p, s.lo p = true → s.lv p ≠ none
  vil : ∀ p v, s.vi p = some v → ∃ l : Nat, s.lv p = some (l : Int) ∧ v = s.below l ∧ (s.below l).length = l
  vlk : ∀ p, s.vi p ≠ none → s.lo p = false
  few : ∀ l : Nat, l < s.n → (List.range s.n).countP (fun p => s.inS l p || s.inD l p) ≤ l
section
variable {s : LS} {p q : Nat} {l : Int}
theorem lv_new (n p : Nat) : (new n).lv p = none := DS.rep_none n p
theorem vi_new (n p : Nat) : (new n).vi p = none := DS.rep_none n p
theorem getB_set (l : List Bool) (p q : Nat) (x : Bool) : (l.set p x).getD q false = if p = q ∧ p < l.length then x else l.getD q false := by
  simp only [List.getD_eq_getElem?_getD, List.getElem?_set]
  by_cases h : p = q
  · subst h
    by_cases h2 : p < l.length
    · simp [h2]
    · have e : l[p]? = none := List.getElem?_eq_none (by omega)
      simp [h2, e]
  · simp [h]
theorem lo_new (n p : Nat) : (new n).lo p = false := by
  show (List.replicate n false).getD p false = false
  rw [List.getD_eq_getElem?_getD, List.getElem?_replicate]; split <;> rfl
theorem WF.new {n : Nat} (h1 : 1 ≤ n) (h5 : n ≤ 5) : (LS.new n).WF := by
  have hn : (LS.new n).n = n := by simp [LS.new, LS.n]
  refine ⟨by omega, by omega, by simp [LS.new, LS.n], by simp [LS.new, LS.n], ?_, ?_, ?_, ?_, fun l hl => ?_⟩
  · intro p l h; rw [lv_new] at h; cases h
  · intro p h; rw [lo_new] at h; cases h
  · intro p v h; rw [vi_new] at h; cases h
  · intro p h; rw [vi_new] at h; exact absurd rfl h
  · have : (List.range (LS.new n).n).countP (fun p => (LS.new n).inS l p || (LS.new n).inD l p) = 0 := by
      rw [List.countP_eq_zero]
      intro p _
      unfold inS inD
      rw [lv_new]
      simp [le]
    omega
theorem mem_below : q ∈ s.below l ↔ q < s.n ∧ le (s.lv q) l = true := by
  unfold below
  rw [List.mem_filter, List.mem_range]
theorem below_len : (s.below l).length = (List.range s.n).countP fun p => le (s.lv p) l := by
  unfold below
  rw [List.countP_eq_length_filter]
theorem le_some {x : Int} (h : s.lv q = some x) : le (s.lv q) l = decide (x ≤ l) := by rw [h]; rfl
theorem lt_of_lv {x : Int} (h : s.lv q = some x) : q < s.n := (getD_none_of h).1
theorem WF.below_le (W : s.WF) (l : Nat) (h : l ≤ s.n) : (s.below l).length ≤ l := by
  rw [below_len]
  by_cases e : l < s.n
  · refine Nat.le_trans (List.countP_mono_left fun x _ hx => ?_) (W.few l e)
    show (s.inS l x || s.inD l x) = true
    rw [show s.inS l x = true from hx]; rfl
  · have : l = s.n := by omega
    rw [this]; exact countP_range _ _
theorem n_wrote : (s.wrote p l).n = s.n := by simp [wrote, n]
theorem n_looked : (s.looked p).n = s.n := rfl
theorem n_step : (s.step p).n = s.n := by
  unfold step
  split
  · rfl
  · exact n_wrote
  · rfl
theorem lv_wrote (hp : p < s.n) : (s.wrote p l).lv q = if p = q then some l else s.lv q := by
  show (s.lev.set p (some l)).getD q none = _
  rw [getD_set]
  by_cases e : p = q
  · rw [if_pos ⟨e, hp⟩, if_pos e]
  · rw [if_neg (fun z => e z.1), if_neg e]; rfl
theorem vi_wrote : (s.wrote p l).vi q = s.vi q := rfl
theorem lo_wrote (W : s.WF) (hp : p < s.n) : (s.wrote p l).lo q = if p = q then true else s.lo q := by
  show (s.lk.set p true).getD q false = _
  rw [getB_set]
  by_cases e : p = q
  · rw [if_pos ⟨e, by rw [W.ll]; exact hp⟩, if_pos e]
  · rw [if_neg (fun z => e z.1), if_neg e]; rfl
theorem lv_looked : (s.looked p).lv q = s.lv q := rfl
theorem vi_looked (W : s.WF) (hp : p < s.n) : (s.looked p).vi q = if p = q then s.seen p else s.vi q := by
  show (s.vw.set p (s.seen p)).getD q none = _
  rw [getD_set]
  by_cases e : p = q
  · rw [if_pos ⟨e, by rw [W.lw]; exact hp⟩, if_pos e]
  · rw [if_neg (fun z => e z.1), if_neg e]; rfl
theorem lo_looked (W : s.WF) (hp : p < s.n) : (s.looked p).lo q = if p = q then false else s.lo q := by
  show (s.lk.set p false).getD q false = _
  rw [getB_set]
  by_cases e : p = q
  · rw [if_pos ⟨e, by rw [W.ll]; exact hp⟩, if_pos e]
  · rw [if_neg (fun z => e z.1), if_neg e]; rfl
theorem below_looked : (s.looked p).below l = s.below l := rfl
/-- nobody comes to a level where as many stand as can -/
theorem WF.full (W : s.WF) {l : Nat} (hl : (s.below l).length = l) (hr : l ≤ s.n) : ∀ q, q < s.n → s.inD l q = false := fun q hq => by
  cases z : s.inD l q with
  | false => rfl
  | true =>
    exfalso
    have hlv : s.lv q = some ((l : Int) + 1) := by
      unfold inD at z
      rw [Bool.and_eq_true, Bool.and_eq_true] at z
      exact of_decide_eq_true z.1.1
    have hle : le (s.lv q) l = false := by rw [le_some hlv]; exact decide_eq_false (by omega)
    have r := (W.rng q _ hlv).2
    have hf := W.few l (by omega)
    have := countP_more (l := List.range s.n) (f := fun p => le (s.lv p) l) (g := fun p => s.inS l p || s.inD l p) (fun x _ hx => by show (s.inS l x || _) = true; rw [show s.inS l x = true from hx]; rfl) q (List.mem_range.mpr hq) hle (by show (s.inS l q || s.inD l q) = true; rw [z]; simp)
    rw [← below_len, hl] at this
    omega
theorem WF.wrote (W : s.WF) (hp : p < s.n) (hv : s.vi p = none) (hk : s.lo p = false) (hl : match s.lv p with | none => l = (s.n : Nat) | some x => l = x - 1) : (s.wrote p l).WF := by
  have L := fun q => lv_wrote (s := s) (l := l) (q := q) hp
  have K := fun q => lo_wrote (l := l) (q := q) W hp
  have low : ∀ x, s.lv p = some x → 2 ≤ x := fun x hx => by
    have h1 := (W.rng p x hx).1
    rcases (show x = 1 ∨ 2 ≤ x by omega) with z | z
    · exfalso
      have hf := W.few 0 (by have := W.n1; omega)
      have hz : (List.range s.n).countP (fun p => s.inS 0 p || s.inD 0 p) = 0 := by omega
      rw [List.countP_eq_zero] at hz
      have := hz p (List.mem_range.mpr hp)
      refine this ?_
      unfold inD
      rw [hx, z, hk, hv]
      simp
    · exact z
  have lr : 1 ≤ l ∧ l ≤ s.n := by
    cases e : s.lv p with
    | none => rw [e] at hl; have := W.n1; simp only at hl; omega
    | some x => rw [e] at hl; have := low x e; have := (W.rng p x e).2; simp only at hl; omega
  -- p is counted only where it was counted
  have key : ∀ k : Nat, k < s.n → l ≤ k → s.inS k p = true ∨ s.inD k p = true := fun k hk' hlk => by
    cases e : s.lv p with
    | none => rw [e] at hl; simp only at hl; omega
    | some x =>
      rw [e] at hl
      simp only at hl
      by_cases z : x ≤ k
      · left; show le (s.lv p) k = true; rw [le_some e]; exact decide_eq_true z
      · right
        unfold inD
        rw [e, hk, hv, show x = (k : Int) + 1 by omega]
        simp
  refine ⟨by rw [n_wrote]; exact W.n1, by rw [n_wrote]; exact W.n5, by rw [n_wrote]; exact W.lw, by rw [n_wrote]; simp [LS.wrote, W.ll], fun q x hq => ?_, fun q hq => ?_, fun q v hq => ?_, fun q hq => ?_, fun k hk' => ?_⟩
  · rw [n_wrote]; rw [L] at hq
    split at hq
    · cases hq; exact lr
    · exact W.rng q x hq
  · rw [K] at hq; rw [L]
    split
    · simp
    · rename_i z; rw [if_neg z] at hq; exact W.lkl q hq
  · rw [vi_wrote] at hq
    obtain ⟨k, h1, h2, h3⟩ := W.vil q v hq
    have pq : p ≠ q := fun z => by rw [← z, hv] at hq; cases hq
    have hkn := (W.rng q _ h1).2
    have e : (s.wrote p l).below k = s.below k := by
      unfold below
      rw [n_wrote]
      refine List.filter_congr fun x hx => ?_
      rw [L]
      split
      · rename_i z
        subst z
        cases hb : le (s.lv p) k with
        | true =>
          cases e : s.lv p with
          | none => rw [e] at hb; cases hb
          | some y =>
            rw [le_some e] at hb
            have := of_decide_eq_true hb
            rw [e] at hl
            simp only at hl
            exact decide_eq_true (by omega)
        | false =>
          refine decide_eq_false fun hlk => ?_
          rcases Nat.lt_or_ge k s.n with c | c
          · have := W.full h3 (by omega) p hp
            rcases key k c (by omega) with w | w
            · have w : le (s.lv p) k = true := w
              rw [hb] at w; cases w
            · rw [this] at w; cases w
          · have kn : k = s.n := by omega
            rw [below_len] at h3
            have := countP_same (l := List.range s.n) (f := fun p => le (s.lv p) k) (g := fun _ => true) (fun _ _ _ => rfl) (by rw [h3, kn]; exact countP_range _ _) p (List.mem_range.mpr hp) rfl
            rw [hb] at this; cases this
      · rfl
    exact ⟨k, by rw [L, if_neg pq]; exact h1, by rw [e]; exact h2, by rw [e]; exact h3⟩
  · rw [vi_wrote] at hq
    rw [K, if_neg]
    · exact W.vlk q hq
    · intro z; rw [← z] at hq; exact hq hv
  · rw [n_wrote] at hk' ⊢
    refine Nat.le_trans (List.countP_mono_left fun x hx h => ?_) (W.few k hk')
    by_cases z : p = x
    · subst z
      have h1 : (s.wrote p l).inD k p = false := by unfold inD; rw [K, if_pos rfl]; simp
      rw [h1, Bool.or_false] at h
      have h : le ((s.wrote p l).lv p) k = true := h
      rw [L, if_pos rfl] at h
      have := of_decide_eq_true (show decide (l ≤ (k : Int)) = true from h)
      rcases key k hk' this with w | w <;> rw [w] <;> simp
    · have h1 : (s.wrote p l).inS k x = s.inS k x := by unfold inS; rw [L, if_neg z]
      have h2 : (s.wrote p l).inD k x = s.inD k x := by unfold inD; rw [L, if_neg z, K, if_neg z]; rfl
      rw [h1, h2] at h; exact h
theorem WF.looked (W : s.WF) (hp : p < s.n) (hk : s.lo p = true) : (s.looked p).WF := by
  have V := fun q => vi_looked (q := q) W hp
  have K := fun q => lo_looked (q := q) W hp
  have hv : s.vi p = none := by
    cases e : s.vi p with
    | none => rfl
    | some v => have := W.vlk p (by rw [e]; simp); rw [hk] at this; cases this
  obtain ⟨x, hx⟩ : ∃ x, s.lv p = some x := by
    cases e : s.lv p with
    | none => exact absurd e (W.lkl p hk)
    | some x => exact ⟨x, rfl⟩
  have ho : s.own p = x := by unfold own; rw [hx]; rfl
  obtain ⟨r1, r2⟩ := W.rng p x hx
  obtain ⟨k, rfl⟩ : ∃ k : Nat, x = k := ⟨x.toNat, by omega⟩
  refine ⟨W.n1, W.n5, by show (s.vw.set p _).length = _; rw [List.length_set]; exact W.lw, by show (s.lk.set p _).length = _; rw [List.length_set]; exact W.ll, W.rng, fun q hq => ?_, fun q v hq => ?_, fun q hq => ?_, fun j hj => ?_⟩
  · rw [K] at hq
    split at hq
    · cases hq
    · exact W.lkl q hq
  · rw [V] at hq
    by_cases z : p = q
    · rw [if_pos z] at hq
      subst z
      unfold seen at hq
      rw [ho] at hq
      split at hq
      · rename_i h
        cases hq
        have := W.below_le k (by omega)
        exact ⟨k, hx, rfl, by show (s.below k).length = k; omega⟩
      · cases hq
    · rw [if_neg z] at hq; exact W.vil q v hq
  · rw [K]
    split
    · rfl
    · rename_i z; rw [V, if_neg z] at hq; exact W.vlk q hq
  · have hj : j < s.n := hj
    show (List.range s.n).countP _ ≤ j
    have oth : ∀ q, p ≠ q → (s.looked p).inD j q = s.inD j q := fun q z => by unfold inD; rw [K, if_neg z, V, if_neg z]; rfl
    by_cases c : k = j + 1 ∧ s.seen p = none
    · obtain ⟨c1, c2⟩ := c
      have hb : (s.below (j + 1 : Nat)).length ≤ j := by
        unfold seen at c2
        rw [ho] at c2
        split at c2
        · cases c2
        · rename_i h; rw [← c1]; omega
      rw [below_len] at hb
      refine Nat.le_trans (List.countP_mono_left fun y hy h => ?_) hb
      rcases Bool.or_eq_true_iff.mp h with w | w
      · have w : le (s.lv y) j = true := w
        cases e : s.lv y with
        | none => rw [e] at w; cases w
        | some z => rw [e] at w; have := of_decide_eq_true (show decide (z ≤ (j : Int)) = true from w); exact decide_eq_true (by omega)
      · unfold inD at w
        rw [Bool.and_eq_true, Bool.and_eq_true] at w
        have := of_decide_eq_true w.1.1
        have this : s.lv y = some ((j : Int) + 1) := this
        rw [this]; exact decide_eq_true (by omega)
    · refine Nat.le_trans (List.countP_mono_left fun y hy h => ?_) (W.few j hj)
      rcases Bool.or_eq_true_iff.mp h with w | w
      · have w : s.inS j y = true := w
        rw [w]; rfl
      · by_cases z : p = y
        · subst z
          exfalso
          unfold inD at w
          rw [Bool.and_eq_true, Bool.and_eq_true] at w
          have h1 := of_decide_eq_true w.1.1
          have h1 : s.lv p = some ((j : Int) + 1) := h1
          rw [hx] at h1
          have h1 := Option.some.inj h1
          have h2 := w.2
          rw [V, if_pos rfl] at h2
          refine c ⟨by omega, ?_⟩
          cases e : s.seen p with
          | none => rfl
          | some v => rw [e] at h2; cases h2
        · rw [oth y z] at w; rw [w]; simp
theorem next_none : s.next p = none ↔ s.vi p ≠ none := by
  unfold next
  cases s.vi p with
  | none => simp; split <;> simp
  | some v => simp
theorem WF.step (W : s.WF) (hp : p < s.n) : (s.step p).WF := by
  unfold LS.step
  cases e : s.next p with
  | none => exact W
  | some du =>
    have hv : s.vi p = none := Classical.byContradiction fun z => by rw [next_none.mpr z] at e; cases e
    unfold LS.next at e
    rw [hv] at e
    simp only [Option.isSome_none, Bool.false_eq_true, if_false] at e
    cases hk : s.lo p with
    | true => rw [hk] at e; cases e; exact W.looked hp hk
    | false =>
      rw [hk] at e
      cases e
      refine W.wrote hp hv hk ?_
      cases s.lv p <;> rfl
/-- views stay -/
theorem vi_keep {v : List Nat} (W : s.WF) (hp : p < s.n) (h : s.vi q = some v) : (s.step p).vi q = some v := by
  unfold LS.step
  cases e : s.next p with
  | none => exact h
  | some du =>
    have hv : s.vi p = none := Classical.byContradiction fun z => by rw [next_none.mpr z] at e; cases e
    have pq : p ≠ q := fun z => by rw [z, h] at hv; cases hv
    cases du with
    | wr l => exact h
    | look => show (s.looked p).vi q = _; rw [vi_looked W hp, if_neg pq]; exact h
/-- how many steps one that goes on alone has still to do, at most -/
def left (s : LS) (p : Nat) : Int := if (s.vi p).isSome then 0 else match s.lv p with
  | none => 2 * (s.n : Nat)
  | some l => if s.lo p then 2 * l - 1 else 2 * l - 2
theorem left_step (W : s.WF) (hp : p < s.n) (h : s.vi p = none) : (s.step p).left p < s.left p ∧ 0 < s.left p := by
  have n1 := W.n1
  have e0 : s.left p = match s.lv p with
    | none => 2 * (s.n : Nat)
    | some l => if s.lo p then 2 * l - 1 else 2 * l - 2 := by unfold left; rw [h]; rfl
  unfold LS.step
  cases hk : s.lo p with
  | true =>
    have en : s.next p = some .look := by unfold next; rw [h, hk]; rfl
    rw [en]
    obtain ⟨x, hx⟩ : ∃ x, s.lv p = some x := by
      cases e : s.lv p with
      | none => exact absurd e (W.lkl p hk)
      | some x => exact ⟨x, rfl⟩
    have r := W.rng p x hx
    rw [hx, hk] at e0
    simp only [if_true] at e0
    rw [e0]
    show (s.looked p).left p < _ ∧ _
    refine ⟨?_, by omega⟩
    unfold left
    rw [vi_looked W hp, if_pos rfl, lo_looked W hp, if_pos rfl, lv_looked, hx]
    split
    · omega
    · simp only [Bool.false_eq_true, if_false]; omega
  | false =>
    cases hl : s.lv p with
    | none =>
      have en : s.next p = some (.wr (s.n : Nat)) := by unfold next; rw [h, hk, hl]; rfl
      rw [en]
      rw [hl] at e0
      simp only at e0
      rw [e0]
      show (s.wrote p (s.n : Nat)).left p < _ ∧ _
      refine ⟨?_, by omega⟩
      unfold left
      rw [vi_wrote, h, lo_wrote W hp, if_pos rfl, lv_wrote hp, if_pos rfl]
      simp only [Option.isSome_none, Bool.false_eq_true, if_false, if_true]
      omega
    | some x =>
      have en : s.next p = some (.wr (x - 1)) := by unfold next; rw [h, hk, hl]; rfl
      rw [en]
      rw [hl, hk] at e0
      simp only [Bool.false_eq_true, if_false] at e0
      rw [e0]
      have r := W.rng p x hl
      have x2 : 2 ≤ x := by
        rcases (show x = 1 ∨ 2 ≤ x by omega) with z | z
        · exfalso
          have hf := W.few 0 (by omega)
          have hz : (List.range s.n).countP (fun p => s.inS 0 p || s.inD 0 p) = 0 := by omega
          rw [List.countP_eq_zero] at hz
          refine hz p (List.mem_range.mpr hp) ?_
          unfold inD
          rw [hl, z, hk, h]
          simp
        · exact z
      show (s.wrote p (x - 1)).left p < _ ∧ _
      refine ⟨?_, by omega⟩
      unfold left
      rw [vi_wrote, h, lo_wrote W hp, if_pos rfl, lv_wrote hp, if_pos rfl]
      simp only [Option.isSome_none, Bool.false_eq_true, if_false, if_true]
      omega
theorem left_top (W : s.WF) : s.left p ≤ 2 * (s.n : Nat) := by
  unfold left
  split
  · omega
  · split
    · omega
    · rename_i l hl
      have := W.rng p l hl
      split <;> omega
/-- a view has its own hand, and all elder views, if the hand was fresh -/
theorem WF.self (W : s.WF) {v : List Nat} (h : s.vi p = some v) : p ∈ v := by
  obtain ⟨l, h1, h2, _⟩ := W.vil p v h
  rw [h2]
  exact mem_below.mpr ⟨lt_of_lv h1, by rw [le_some h1]; exact decide_eq_true (Int.le_refl _)⟩
theorem WF.elder (W : s.WF) {s0 : LS} (W0 : s0.WF) {v w : List Nat} (hf : s0.lv p = none) (h : s.vi p = some v) (hq : s.vi q = some w) (hq0 : s0.vi q = some w) : ∀ x ∈ w, x ∈ v := by
  obtain ⟨l, h1, h2, _⟩ := W.vil p v h
  obtain ⟨k, k1, k2, _⟩ := W.vil q w hq
  obtain ⟨k0, j1, j2, _⟩ := W0.vil q w hq0
  have hpw : p ∉ w := fun z => by
    rw [j2] at z
    have := (mem_below.mp z).2
    rw [hf] at this; cases this
  have hkl : k ≤ l := by
    rcases Nat.lt_or_ge l k with z | z
    · exfalso
      refine hpw ?_
      rw [k2]
      exact mem_below.mpr ⟨lt_of_lv h1, by rw [le_some h1]; exact decide_eq_true (by omega)⟩
    · exact z
  intro x hx
  rw [k2] at hx
  obtain ⟨a, b⟩ := mem_below.mp hx
  rw [h2]
  refine mem_below.mpr ⟨a, ?_⟩
  cases e : s.lv x with
  | none => rw [e] at b; cases b
  | some y => rw [e] at b; have := of_decide_eq_true (show decide (y ≤ (k : Int)) = true from b); exact decide_eq_true (by omega)
end
end LS
end Fp
/-! len of an object with an own __len__; data that stays, whatever lists change; C(k = v) -/
namespace Fp
open PySem PySem.Spec PyProof.Rows L2
structure LenC (P : Program) (w : World) (K : PySem.W.Frag) (mg : Str → Option Value) (base : Heap) (C : Addr) (n : Nat) (ps : List Str) (sp : Sp) : Prop where
  ex : ∃ (f : Addr) (fd : FuncData), PySem.W.findIn K (.ref C) "__len__" = some (some (.ref f)) ∧ PySem.W.isFn K (.ref f) = true ∧ Binds K fd ps [] ∧ FnOk P w K mg base CX0 n f fd ps sp
def rLenO (C : Addr) (sp : Sp) : List V → Hp → VK → Prop := fun xs H Q => ∃ (a dx : Addr) (fs : List (Str × V)), xs = [.ref a] ∧ H a = some (.ins C dx fs) ∧ sp [.ref a] H (fun v H' => ∃ n : Nat, v = .int n ∧ n < 2 ^ 62 ∧ Q (.int n) H') E0
section
variable {X : Cx} {C : Addr} {n : Nat} {ps : List Str} {sp : Sp}
theorem call_lenO (M : LenC X.prog X.w X.K X.mg X.base C n ps sp) (hr : Room (n + 1) X.A) : CallR X (.builtin "len") (rLenO C sp) := by
  intro pins s σ H xs us Q I r h
  obtain ⟨a, dx, fs, rfl, ha, q⟩ := h
  rw [Vals.ref1 r]
  obtain ⟨f, fd, hs, hf, hb, F⟩ := M.ex
  obtain ⟨mA, J, _⟩ := ins_get I.hok ha
  obtain ⟨od, J, _⟩ := J.look
  obtain ⟨m, hF⟩ := I.fr
  refine PySem.W.len_K hF I.ok.mod.kin J hs hf ?_
  have e0 : Env0 X.prog X.w X.K X.mg X.base X.A.in1 X.stack s H := I.env0.in1
  have r2 : Vals ([V.ref a] ++ []) ([Value.ref a] ++ []) := Vals.append (.cons rfl .nil) .nil
  have hsp : sp ([V.ref a] ++ []) H (fun v H' => ∃ n : Nat, v = .int n ∧ n < 2 ^ 62 ∧ Q (.int n) H') E0 := q
  have hl : ([Value.ref a] ++ []).length = ps.length := by rw [← r2.length]; exact F.len _ _ _ _ hsp
  refine wpAny_call (codeAny_mono (F.run X.A.in1 X.stack s H ⟨[.ref a], []⟩ _ _ _ E0 hr.in1 e0 (hb s [.ref a] I.kIn hl) r2 hsp) fun r s' hq => ?_)
  cases r with
  | error e => exact pass0 pins σ H s e s' I hq
  | ok fl =>
    cases fl with
    | ret u =>
      obtain ⟨v, H', I', rv, k, rfl, hk, q'⟩ := I.after hq
      obtain ⟨t, rfl⟩ := rv
      exact ⟨⟨by omega, by omega⟩, .int k, H', I'.tok _, ⟨_, rfl⟩, q'⟩
    | next => exact False.elim hq
    | brk => exact False.elim hq
    | cont => exact False.elim hq
end
/-! ### C(k = v) -/
structure MkK (P : Program) (w : World) (K : PySem.W.Frag) (mg : Str → Option Value) (base : Heap) (x : Str) (C : Addr) (k : Nat) (ps ks : List Str) (sp : Sp) : Prop where
  at_ : mg x = some (.ref C)
  ex : ∃ (f : Addr) (fd : FuncData), Mk K C f ∧ KBn K fd ps 1 ks (fun us ws => us ++ ws) (fun vs zs => vs ++ zs) ∧ FnOk P w K mg base CX0 k f fd ps sp
section
variable {X : Cx} {x : Str} {k : Nat} {ps ks : List Str} {sp : Sp} {C : Addr} {kws : List Keyword} {tk : TA} {p pos : Pos}
theorem pe_mkK (M : MkK X.prog X.w X.K X.mg X.base x C k ps ks sp) (hr : Room (k + 1) X.A) (hg : Gl X x) (hkw : PK X kws tk)
    (hall : (backToKw pos (keywordEach kws X.env)).all (·.1.isSome) = true := by rfl) (hks : (backToKw pos (keywordEach kws X.env)).filterMap (·.1) = ks := by rfl) (hdb : (x == ("__debug__" : Str)) = false := by decide)
    (hpl : ((backTo pos (starEach [] X.env)).any (·.1) || (backToKw pos (keywordEach kws X.env)).any (·.1.isNone)) = false := by rfl) :
    PE X (.Call (.Name x p) [] kws pos) (tMakeK C 0 ks.length sp (fun vs zs => vs ++ zs) E0 tNil tk) := by
  obtain ⟨f, fd, h1, h2, h3⟩ := M.ex
  exact pe_makeK0 h1 h3 hr hg M.at_ h2 pass0 hkw hall hks hdb hpl
end
/-! ### data that stays -/
def SD (K : PySem.W.Frag) (H : Hp) (x : V) (d : PyData) : Prop := ∀ H', TK H H' → Dp K H' x d
section
variable {K : PySem.W.Frag} {H H' : Hp} {x v : V} {d dv : PyData} {t : Addr} {xs : List V} {ds : List PyData}
theorem SD.mono (h : SD K H x d) (g : TK H H') : SD K H' x d := fun _ g2 => h _ (g.trans g2)
theorem SDs.mono (h : Paired (SD K H) xs ds) (g : TK H H') : Paired (SD K H') xs ds := pr_imp (fun _ _ h => SD.mono h g) h
theorem SDs.dp : ∀ {xs : List V} {ds : List PyData}, Paired (SD K H) xs ds → DpAll K H xs ds
  | _, _, .nil => .nil
  | _, _, .cons a b => .cons (a _ (.refl _)) (SDs.dp b)
theorem sd_tup (h : H t = some (.tup xs)) (a : Paired (SD K H) xs ds) : SD K H (.ref t) (.tuple ds) := fun _ g => .tup (.of (g.t h)) (SDs.dp (SDs.mono a g))
theorem sd_int (i : Int) : SD K H (.int i) (.int i) := fun _ _ => .int i
theorem sd_str (z : Str) : SD K H (.str z) (.str z) := fun _ _ => .str z
theorem sd_non : SD K H .non .none := fun _ _ => .non
theorem sd_val (h : VAt H v dv) : SD K H v dv := fun _ g => (h.mono g).dp
/-- what is told, as data, the word's being dv -/
def tdD (dv : PyData) : Told → PyData
  | .level i => .tuple [.str "level", .int i]
  | .look l => .tuple [.str "look", .tuple (l.map lvD)]
  | .wait => .tuple [.str "wait"]
  | .word _ => .tuple [.str "word", dv]
theorem sd_lv : ∀ l : List Lv, Paired (SD K H) (l.map lvV) (l.map lvD)
  | [] => .nil
  | none :: l => .cons sd_non (sd_lv l)
  | some i :: l => .cons (sd_int i) (sd_lv l)
theorem sd_told {x : Told} (h : ToldAt H t x) (hw : ∀ v, x = .word v → VAt H v dv) : SD K H (.ref t) (tdD dv x) := by
  cases x with
  | level i => exact sd_tup h (.cons (sd_str _) (.cons (sd_int _) .nil))
  | look l =>
    obtain ⟨q, a, b⟩ := h
    intro H' g
    exact .tup (.of (g.t a)) (.cons (.str _) (.cons (.tup (g.tt b).sq (SDs.dp (sd_lv l))) .nil))
  | wait => exact sd_tup h (.cons (sd_str _) .nil)
  | word v => exact sd_tup h (.cons (sd_str _) (.cons (sd_val (hw v rfl)) .nil))
end
/-- how many steps were done -/
def DS.stps (s : DS) : Nat := (s.deeds.filter (·.stp)).length
def spDLen (C : Addr) : Sp := fun vs H Q _ => ∃ (d : Addr) (s : DS), vs = [.ref d] ∧ DoorAt C H d s ∧ s.deeds.length < 100000 ∧ ∀ H', Same H H' → Q (.int (s.stps : Nat)) H'
end Fp
namespace Fp
open PySem PySem.Spec PyProof.Rows L2
/-! ### steps one by one -/
section
variable {C : Addr} {H H1 H2 : Hp} {d : Addr} {s : DS} {c h : List (Option V)} {l : List Lv} {sn : List (Option (List Lv))} {ds : List Deed} {p n m : Nat} {x : V}
theorem nx_step (e1 : ds.length = n) (e2 : (ds.filter (·.stp)).length = m) (D : DoorAt C H d (DS.mk c l h sn (ds ++ [⟨true, p, x⟩]))) :
    ∃ ds' : List Deed, ds'.length = n + 1 ∧ (ds'.filter (·.stp)).length = m + 1 ∧ DoorAt C H d ⟨c, l, h, sn, ds'⟩ := ⟨_, by rw [List.length_append, e1]; rfl, by rw [List.filter_append, List.length_append, e2]; rfl, D⟩
theorem nx_come (e1 : ds.length = n) (e2 : (ds.filter (·.stp)).length = m) (D : DoorAt C H d (DS.mk c l h sn (ds ++ [⟨false, p, x⟩]))) :
    ∃ ds' : List Deed, ds'.length = n + 1 ∧ (ds'.filter (·.stp)).length = m ∧ DoorAt C H d ⟨c, l, h, sn, ds'⟩ := ⟨_, by rw [List.length_append, e1]; rfl, by rw [List.filter_append, List.length_append, e2]; rfl, D⟩
theorem Same.into {H0 : Hp} (F : Same H0 H1) (g : But [d] H1 H2) (hd : H0 d = none) : Same H0 H2 := fun b o e => g b o (by
  rw [List.mem_singleton]
  intro z
  rw [z, hd] at e
  cases e) (F b o e)
end
theorem SD.now {K : PySem.W.Frag} {H : Hp} {x : V} {d : PyData} (h : SD K H x d) : Dp K H x d := h H (.refl _)
theorem Same.gone {H H1 : Hp} {a : Addr} (F : Same H H1) (h : H1 a = none) : H a = none := by
  cases e : H a with
  | none => rfl
  | some o => rw [F a o e] at h; cases h
theorem Same.put {H H1 : Hp} {a : Addr} {o : HO} (F : Same H H1) (h : H a = none) : Same H (upd H1 a o) := fun b u e => by
  rw [upd_ne (fun z => by rw [z, h] at e; cases e)]; exact F b u e
theorem pr_append {α β : Type} {F : α → β → Prop} : ∀ {l l' : List α} {m m' : List β}, Paired F l m → Paired F l' m' → Paired F (l ++ l') (m ++ m')
  | _, _, _, _, .nil, h => h
  | _, _, _, _, .cons a r, h => .cons a (pr_append r h)
theorem pr_two {α β : Type} {F : α → β → Prop} {l : List α} {a b : β} (h : Paired F l [a, b]) : ∃ x y, l = [x, y] ∧ F x a ∧ F y b := by
  cases h with
  | cons h1 t => cases t with
    | cons h2 t => cases t; exact ⟨_, _, rfl, h1, h2⟩
/-- one player alone, at 2, step by step -/
def lateS (v : V) : Nat → List Deed → DS
  | 0, ds => ⟨[none, none, some v], [none, none, none], [none, none, none], [none, none, none], ds⟩
  | 1, ds => ⟨[none, none, some v], [none, none, some 1], [none, none, none], [none, none, none], ds⟩
  | 2, ds => ⟨[none, none, some v], [none, none, some 1], [none, none, none], [none, none, some [none, none, some 1]], ds⟩
  | 3, ds => ⟨[none, none, some v], [none, none, some 2], [none, none, none], [none, none, some [none, none, some 1]], ds⟩
  | _, ds => ⟨[none, none, some v], [none, none, some 2], [none, none, some v], [none, none, some [none, none, some 1]], ds⟩
def lateT (v : V) : Nat → Told
  | 0 => .level 1
  | 1 => .look [none, none, some 1]
  | 2 => .level 2
  | _ => .word v
theorem late_step (v : V) (i : Nat) (ds : List Deed) (hi : i < 4) : (lateS v i ds).cm 2 ≠ none ∧ (lateS v i ds).told 2 = lateT v i ∧ (lateS v i ds).deeds = ds ∧ ∃ x, (lateS v i ds).step 2 = lateS v (i + 1) (ds ++ [⟨true, 2, x⟩]) := by
  rcases (show i = 0 ∨ i = 1 ∨ i = 2 ∨ i = 3 by omega) with rfl | rfl | rfl | rfl <;> exact ⟨fun z => (nomatch (show some v = none from z)), rfl, rfl, _, rfl⟩
theorem late_word {v x : V} {i : Nat} (hi : i < 4) (h : lateT v i = .word x) : x = v := by
  rcases (show i = 0 ∨ i = 1 ∨ i = 2 ∨ i = 3 by omega) with rfl | rfl | rfl | rfl <;> first | (cases h; done) | (injection h with h; exact h.symm)
theorem Sms.list {k n m : Nat} {ds : List PyData} (h : ∀ d ∈ ds, Sm k n d) (hm : (n + 1) * ds.length ≤ m) : Sm (k + 1) m (.list ds) := (Sms.all h).lst.mono (Nat.le_refl _) hm
theorem sm_td {dv : PyData} (ho : VOk 3 dv) (x : Told) (h : ∀ i, x = .level i → 0 ≤ i ∧ i ≤ 2) (hl : ∀ l, x = .look l → l.length ≤ 5 ∧ ∀ i, some i ∈ l → 0 ≤ i ∧ i ≤ 2) : Sm 6 100 (tdD dv x) := by
  cases x with
  | level i => exact sm_level (h i rfl).1 (h i rfl).2
  | look l =>
    have := hl l rfl
    exact (Sms.tup (.cons ((sm_word "look" (by decide +kernel)).mono (by decide : 1 ≤ 2) (Nat.le_refl 10)) (.cons (lv_sms this.2 this.1).tup (Sms.nil (n := 0))))).mono (by decide) (by decide)
  | wait => exact sm_wait
  | word v => exact sm_wordD ho
end Fp
/-! k35: the last two turned about; what deeds are as data; shown texts that differ -/
namespace Fp
open PySem PySem.Spec PyProof.Rows L2
theorem pick2 (its : List Value) (n : Nat) (a b : Value) (hn : its.length = n + 2) (ha : its[n + 1]? = some a) (hb : its[n]? = some b) : slicePick its.toArray none (some (-3)) (some (-1)) = #[a, b] := by
  unfold slicePick
  have hs : its.toArray.size = n + 2 := by simpa using hn
  have e : sliceBounds none (some (-3)) (some (-1)) its.toArray.size = ((n : Int) + 1, (n : Int) - 1, -1) := by
    rw [hs]
    unfold sliceBounds
    simp only [Option.getD_some, show ¬ ((-1 : Int) > 0) by decide, if_false, show ((-3 : Int) < 0) by decide, if_true]
    refine Prod.ext ?_ (Prod.ext ?_ rfl)
    · show ((n + 2 : Nat) : Int) - 1 = (n : Int) + 1; omega
    · show max (-1) (min (-3 + ((n + 2 : Nat) : Int)) (((n + 2 : Nat) : Int) - 1)) = (n : Int) - 1; omega
  rw [e]
  have r : sliceRange ((n : Int) + 1) ((n : Int) - 1) (-1) = [n + 1, n] := by
    unfold sliceRange
    have h : (n : Int) + 1 > (n : Int) - 1 := by omega
    have c : ((n : Int) + 1 - ((n : Int) - 1) - -1 - 1) / (- -1) = 2 := by
      rw [show (- -1 : Int) = 1 by decide, Int.ediv_one]; omega
    simp only [show ¬ ((-1 : Int) > 0) by decide, if_false, h, if_true, c]
    show [(((n : Int) + 1 + -1 * ((0 : Nat) : Int))).toNat, (((n : Int) + 1 + -1 * ((1 : Nat) : Int))).toNat] = _
    rw [show ((n : Int) + 1 + -1 * ((0 : Nat) : Int)).toNat = n + 1 by omega, show ((n : Int) + 1 + -1 * ((1 : Nat) : Int)).toNat = n by omega]
  show ((sliceRange ((n : Int) + 1) ((n : Int) - 1) (-1)).filterMap (its.toArray[·]?)).toArray = _
  rw [r]
  simp [ha, hb]
def tLast2 (K : PySem.W.Frag) (te : TE) : TE := fun σ H Q => te σ H fun x H1 => ∃ a xs u v, x = .ref a ∧ SqL K H1 a (xs ++ [u, v]) ∧ ∀ p, H1 p = none → Q (.ref p) (upd H1 p (.lst [v, u]))
section
variable {X : Cx}
theorem pe_last2 {e : Expr} {te : TE} {k k2 : Nat} {p1 p2 p3 p4 p5 pos : Pos} (he : PE X e te) : PE X (.Subscript e (.Slice none (some (.UnaryOp .USub (.Constant (.int 3) k2 p4) p5)) (some (.UnaryOp .USub (.Constant (.int 1) k p1) p2)) p3) pos) (tLast2 X.K te) := by
  refine ⟨fun pins s σ H Q I h => ?_⟩
  refine Subscript_ (thn (he.run pins s σ H _ I h) fun v s1 ⟨x, H1, I1, r1, q1⟩ => ?_)
  obtain ⟨a, xs, u1, v1, ex, hx, q⟩ := q1
  subst ex
  cases r1
  have hst : PO X (some (.UnaryOp .USub (.Constant (.int 1) k p1) p2)) (tPart (tUn (rU fun i => .int (-i)) (tC (.int 1)))) := po_some (pe_un un_neg pe_int)
  have hst3 : PO X (some (.UnaryOp .USub (.Constant (.int 3) k2 p4) p5)) (tPart (tUn (rU fun i => .int (-i)) (tC (.int 3)))) := po_some (pe_un un_neg pe_int)
  refine wpAny_Slice (thn (po_none.run pins s1 σ H1 (fun o H2 => o = none ∧ H2 = H1) I1 ⟨rfl, rfl⟩) fun vl s2 ⟨l, H2, I2, pl, el, e2⟩ => ?_)
  subst el e2
  refine thn (hst3.run pins s2 σ H2 (fun o H3 => o = some (-3) ∧ H3 = H2) I2 ⟨3, rfl, -3, rfl, rfl, rfl⟩) fun vu s3 ⟨u, H3, I3, pu, eu, e3⟩ => ?_
  subst eu e3
  refine thn (hst.run pins s3 σ H3 (fun o H4 => o = some (-1) ∧ H4 = H3) I3 ⟨1, rfl, -1, rfl, rfl, rfl⟩) fun vs s4 ⟨o, H4, I4, ps, eo, e4⟩ => ?_
  subst eo e4
  have I5 : Inv X pins σ H4 { s4 with heap := s4.heap.push { cls := .type "slice", data := .fields #[vl, vu, vs] } } := I4.kept (t' := s4.toks) fun b ob q => Heap.get?_push_of_some _ q
  obtain ⟨its, r, ht, hz⟩ := I5.list hx
  have hlen := r.length
  rw [List.length_append] at hlen
  have hl2 : its.length = xs.length + 2 := hlen.symm
  show wpAny (model X.prog X.w) X.A (subscriptTail e (.Slice none (some (.UnaryOp .USub (.Constant (.int 3) k2 p4) p5)) (some (.UnaryOp .USub (.Constant (.int 1) k p1) p2)) p3) (.ref a) (.ref s4.heap.objs.size)) (EP X pins σ Q) X.xe { s4 with heap := s4.heap.push { cls := .type "slice", data := .fields #[vl, vu, vs] } }
  refine tail_any (ops := [.ref a, .ref s4.heap.objs.size]) ht.isList.typeIs (PySem.slot_list_getitem.lookup) ?_ (by with_unfolding_all rfl)
  refine wpAny_getItem_list_slice ht.isList (Heap.IsSliceOf.new _ vl vu vs) pl pu ps (by decide) ?_ (by rw [List.size_toArray]; rw [List.length_append] at hz; omega)
  obtain ⟨w1, hw1, rw1⟩ := r.get (i := xs.length + 1) (x := v1) (by rw [List.getElem?_append_right (by omega), show xs.length + 1 - xs.length = 1 by omega]; rfl)
  obtain ⟨w2, hw2, rw2⟩ := r.get (i := xs.length) (x := u1) (by rw [List.getElem?_append_right (by omega), Nat.sub_self]; rfl)
  rw [pick2 its xs.length w1 w2 hl2 hw1 hw2]
  refine ⟨.ref _, _, I5.laid (t' := s4.toks) (o := .lst [v1, u1]) (fun b ob q => Heap.get?_push_of_some _ q) (Nat.le_refl _) ?_, rfl, q _ (I5.hok.fresh (Nat.le_refl _))⟩
  exact ⟨by show 2 ≤ sizeLine; decide, _, 0, .cons rw1 (.cons rw2 .nil), Heap.get?_push_size _ rfl⟩
end
/-! ### deeds -/
theorem DS.step_deeds (s : DS) (p : Nat) : (s.step p).deeds = s.deeds ++ [⟨true, p, .str (DS.kindOf (s.stg p))⟩] := by
  have h4 := DS.stg_lt s p
  rcases (show s.stg p = 0 ∨ s.stg p = 1 ∨ s.stg p = 2 ∨ s.stg p = 3 by omega) with e | e | e | e
  · rw [DS.step0 e, e]; rfl
  · rw [DS.step1 e, e]; rfl
  · rw [DS.step2 e, e]; rfl
  · rw [DS.step3 e, e]; split <;> rfl
structure DS.DOk (s : DS) : Prop where
  hok : ∀ q x, s.hd q = some x → ∃ r, s.cm r = some x
  dcm : ∀ d ∈ s.deeds, d.stp = false → s.cm d.p = some d.x
  dst : ∀ d ∈ s.deeds, d.stp = true → ∃ k, k ≤ 3 ∧ d.x = .str (DS.kindOf k)
  dp : ∀ d ∈ s.deeds, d.p < 5
theorem DS.DOk.new (n : Nat) : (DS.new n).DOk := ⟨fun q x h => (by rw [DS.hd_new] at h; cases h), fun d h => absurd h (by simp [DS.new]), fun d h => absurd h (by simp [DS.new]), fun d h => absurd h (by simp [DS.new])⟩
theorem DS.DOk.come {s : DS} {p : Nat} {v : V} (h : s.DOk) (W : s.WF) (hp : p < s.lev.length) (hc : s.cm p = none) : (s.come p v).DOk := by
  have keep : ∀ r x, s.cm r = some x → (s.come p v).cm r = some x := fun r x hr => by
    rw [DS.cm_come, if_neg]
    · exact hr
    · rintro ⟨z, _⟩; rw [← z, hc] at hr; cases hr
  have e : (s.come p v).deeds = s.deeds ++ [⟨false, p, v⟩] := rfl
  have h5 := W.n5
  refine ⟨fun q x hq => ?_, fun d hd hs => ?_, fun d hd hs => ?_, fun d hd => ?_⟩
  · rw [DS.hd_come] at hq
    obtain ⟨r, hr⟩ := h.hok q x hq
    exact ⟨r, keep r x hr⟩
  · rw [e] at hd
    rcases List.mem_append.mp hd with hd | hd
    · exact keep _ _ (h.dcm d hd hs)
    · rw [List.mem_singleton] at hd; subst hd
      rw [DS.cm_come, if_pos ⟨rfl, by rw [W.lc]; exact hp⟩]
  · rw [e] at hd
    rcases List.mem_append.mp hd with hd | hd
    · exact h.dst d hd hs
    · rw [List.mem_singleton] at hd; subst hd; cases hs
  · rw [e] at hd
    rcases List.mem_append.mp hd with hd | hd
    · exact h.dp d hd
    · rw [List.mem_singleton] at hd; subst hd; show p < 5; omega
theorem DS.DOk.step {s : DS} {p : Nat} (h : s.DOk) (W : s.WF) (hc : s.cm p ≠ none) : (s.step p).DOk := by
  have hp := DS.lt_of_cm W hc
  have h5 := W.n5
  refine ⟨fun q x hq => ?_, fun d hd hs => ?_, fun d hd hs => ?_, fun d hd => ?_⟩
  · rw [DS.hd_step W hc] at hq
    split at hq
    · exact ⟨s.two, by rw [DS.cm_step]; exact hq⟩
    · obtain ⟨r, hr⟩ := h.hok q x hq
      exact ⟨r, by rw [DS.cm_step]; exact hr⟩
  · rw [DS.step_deeds] at hd
    rw [DS.cm_step]
    rcases List.mem_append.mp hd with hd | hd
    · exact h.dcm d hd hs
    · rw [List.mem_singleton] at hd; subst hd; cases hs
  · rw [DS.step_deeds] at hd
    rcases List.mem_append.mp hd with hd | hd
    · exact h.dst d hd hs
    · rw [List.mem_singleton] at hd; subst hd; exact ⟨_, DS.stg_lt s p, rfl⟩
  · rw [DS.step_deeds] at hd
    rcases List.mem_append.mp hd with hd | hd
    · exact h.dp d hd
    · rw [List.mem_singleton] at hd; subst hd; show p < 5; omega
theorem kind_cases {k : Nat} (h : k ≤ 3) : DS.kindOf k = "level" ∨ DS.kindOf k = "look" ∨ DS.kindOf k = "ask" := by
  rcases (show k = 0 ∨ k = 1 ∨ k = 2 ∨ k = 3 by omega) with e | e | e | e <;> subst e
  · exact .inl rfl
  · exact .inr (.inl rfl)
  · exact .inl rfl
  · exact .inr (.inr rfl)
theorem sm_kind {k : Nat} (h : k ≤ 3) : Sm 1 10 (.str (DS.kindOf k)) := by
  rcases kind_cases h with e | e | e <;> rw [e] <;> exact sm_word _ (by decide +kernel)
/-- a deed as data -/
def DD (d : Deed) (pd : PyData) : Prop := ∃ w x, pd = .tuple [.str w, .int (d.p : Nat), x]
theorem deeds_data {H : Hp} : ∀ ds : List Deed, (∀ d ∈ ds, (d.stp = false → Good H d.x) ∧ (d.stp = true → ∃ k, k ≤ 3 ∧ d.x = .str (DS.kindOf k)) ∧ d.p < 5) →
    ∃ pds : List PyData, (∀ (K : PySem.W.Frag) (H' : Hp) (dv : List V), TK H H' → Paired (DeedAt H') dv ds → DpAll K H' dv pds) ∧ (∀ d ∈ pds, Sm 5 70 d) ∧ Paired DD ds pds
  | [], _ => ⟨[], fun K H' dv g P => by cases P; exact .nil, fun d h => absurd h (by simp), .nil⟩
  | d :: ds, h => by
    obtain ⟨pds, h1, h2, h3⟩ := deeds_data ds fun e he => h e (List.mem_cons_of_mem _ he)
    obtain ⟨g0, g1, g2⟩ := h d List.mem_cons_self
    have smp : Sm 1 0 (.int (d.p : Nat)) := Sm.int (by omega) (by omega)
    cases hs : d.stp with
    | false =>
      obtain ⟨dx, vx, ox⟩ := g0 hs
      refine ⟨.tuple [.str "come", .int (d.p : Nat), dx] :: pds, fun K H' dv g P => ?_, fun e he => ?_, .cons ⟨_, _, rfl⟩ h3⟩
      · cases P with
        | cons a r =>
          obtain ⟨q, rfl, hq⟩ := a
          rw [hs] at hq
          exact .cons (.tup (.of hq) (.cons (.str _) (.cons (.int _) (.cons (vx.mono g).dp .nil)))) (h1 K H' _ g r)
      · rcases List.mem_cons.mp he with e' | e'
        · rw [e']
          exact (Sms.tup (.cons ((sm_word "come" (by decide +kernel)).mono (by decide : 1 ≤ 4) (Nat.le_refl 10)) (.cons (smp.mono (by decide) (Nat.le_refl 0)) (.cons ox.sm (Sms.nil (n := 0)))))).mono (by decide) (by decide)
        · exact h2 e e'
    | true =>
      obtain ⟨k, hk, ex⟩ := g1 hs
      refine ⟨.tuple [.str "step", .int (d.p : Nat), .str (DS.kindOf k)] :: pds, fun K H' dv g P => ?_, fun e he => ?_, .cons ⟨_, _, rfl⟩ h3⟩
      · cases P with
        | cons a r =>
          obtain ⟨q, rfl, hq⟩ := a
          rw [hs, ex] at hq
          exact .cons (.tup (.of hq) (.cons (.str _) (.cons (.int _) (.cons (.str _) .nil)))) (h1 K H' _ g r)
      · rcases List.mem_cons.mp he with e' | e'
        · rw [e']
          exact (Sms.tup (.cons ((sm_word "step" (by decide +kernel)).mono (by decide : 1 ≤ 4) (Nat.le_refl 10)) (.cons (smp.mono (by decide) (Nat.le_refl 0)) (.cons ((sm_kind hk).mono (by decide) (Nat.le_refl 10)) (Sms.nil (n := 0)))))).mono (by decide) (by decide)
        · exact h2 e e'
theorem eqv_players : ∀ {ds es : List Deed} {pd pe : List PyData}, Paired DD ds pd → Paired DD es pe → PyData.eqvAll pd pe = true → ds.map Deed.p = es.map Deed.p
  | _, _, _, _, .nil, .nil, _ => rfl
  | _, _, _, _, .nil, .cons _ _, h => by simp [PyData.eqvAll] at h
  | _, _, _, _, .cons _ _, .nil, h => by simp [PyData.eqvAll] at h
  | _, _, _, _, .cons a r, .cons b t, h => by
    obtain ⟨w, x, rfl⟩ := a
    obtain ⟨w', x', rfl⟩ := b
    rw [PyData.eqvAll, Bool.and_eq_true] at h
    have h1 := h.1
    simp only [PyData.eqv, PyData.eqvAll, Bool.and_eq_true] at h1
    have h2 := h1.2.1
    rw [List.map_cons, List.map_cons, eqv_players r t h.2]
    congr 1
    simp at h2
    omega
theorem DS.DOk.deeds {C : Addr} {H : Hp} {d : Addr} {s : DS} (h : s.DOk) (D : DoorAt C H d s) : ∀ x ∈ s.deeds, (x.stp = false → Good H x.x) ∧ (x.stp = true → ∃ k, k ≤ 3 ∧ x.x = .str (DS.kindOf k)) ∧ x.p < 5 := by
  intro x hx
  obtain ⟨dx', a, b, c, e, f, cv', hv', sv', dv', DD⟩ := D
  exact ⟨fun z => DD.good _ _ (h.dcm x hx z), h.dst x hx, h.dp x hx⟩
/-! ### (VALUE,) or None, as data -/
theorem opt_data {H : Hp} : ∀ m : List (Option V), (∀ x, some x ∈ m → Good H x) → ∃ ds : List PyData, (∀ (K : PySem.W.Frag) (H' : Hp) (cv : List V), TK H H' → Paired (One H') cv m → DpAll K H' cv ds) ∧ (∀ d ∈ ds, Sm 5 60 d) ∧ ds.length = m.length
  | [], _ => ⟨[], fun K H' cv g P => by cases P; exact .nil, fun d h => absurd h (by simp), rfl⟩
  | o :: m, h => by
    obtain ⟨ds, h1, h2, h3⟩ := opt_data m fun x hx => h x (List.mem_cons_of_mem _ hx)
    cases o with
    | none =>
      refine ⟨.none :: ds, fun K H' cv g P => ?_, fun d hd => ?_, by simp [h3]⟩
      · cases P with
        | cons a r => rw [show _ = V.non from a]; exact .cons .non (h1 K H' _ g r)
      · rcases List.mem_cons.mp hd with e | e
        · rw [e]; exact Sm.non.mono (by decide) (by decide)
        · exact h2 d e
    | some v =>
      obtain ⟨dv, vv, ov⟩ := h v List.mem_cons_self
      refine ⟨.tuple [dv] :: ds, fun K H' cv g P => ?_, fun d hd => ?_, by simp [h3]⟩
      · cases P with
        | cons a r => obtain ⟨q, rfl, hq⟩ := a; exact .cons (word_dp vv g hq) (h1 K H' _ g r)
      · rcases List.mem_cons.mp hd with e | e
        · rw [e]; exact word_data ov
        · exact h2 d e
/-! ### shown texts -/
theorem str_ext {a b : Str} (h : a.cps.toList = b.cps.toList) : a = b := by
  cases a; cases b; congr 1; exact Array.ext' h
theorem cpl (a b : Str) : (a ++ b).cps.toList = a.cps.toList ++ b.cps.toList := by rw [Str.cps_append]; simp
theorem textFrom_app : ∀ (as bs : List Str) (k : Nat) (acc : Str), textFrom k acc (as ++ bs) = textFrom (k + as.length) (textFrom k acc as) bs
  | [], bs, k, acc => rfl
  | a :: as, bs, k, acc => by
    show textFrom (k + 1) _ (as ++ bs) = _
    rw [textFrom_app as bs, List.length_cons, show k + 1 + as.length = k + (as.length + 1) by omega]
    rfl
def digit (p : Nat) : Nat := 48 + p
theorem int_text : ∀ p : Nat, p < 5 → (toString (p : Int) : Str).cps.toList = [digit p] := by decide +kernel
theorem pair_text {p : Nat} (hp : p < 5) (c : PyData) : ∃ r, (PyData.shown (.tuple [.int (p : Nat), c])).cps.toList = 40 :: digit p :: r := by
  refine ⟨?r, ?_⟩
  rotate_left
  · simp only [PyData.shown, PyData.shownAll, tupleText, Str.join, List.length_cons, List.length_nil]
    rw [cpl, cpl, cpl, cpl, int_text p hp]
    show [40] ++ ([digit p] ++ _ ++ _) ++ _ = _
    simp only [List.cons_append, List.nil_append, List.append_assoc]
    rfl
theorem shown_list (xs : List PyData) : PyData.shown (.list xs) = listText (PyData.shownAll xs) := by rw [PyData.shown]
theorem shownAll_app : ∀ xs ys : List PyData, PyData.shownAll (xs ++ ys) = PyData.shownAll xs ++ PyData.shownAll ys
  | [], ys => by simp [PyData.shownAll]
  | x :: xs, ys => by simp [PyData.shownAll, shownAll_app xs ys]
theorem textFrom2 (k : Nat) (acc a b : Str) : ∃ z, (textFrom k acc [a, b]).cps.toList = acc.cps.toList ++ (if k > 0 then [44, 32] else []) ++ a.cps.toList ++ z := by
  refine ⟨?z, ?_⟩
  rotate_left
  · show ((acc ++ _ ++ a) ++ _ ++ b).cps.toList = _
    rw [cpl, cpl, cpl, cpl]
    have : ((if k > 0 then ", " else "" : String) : Str).cps.toList = (if k > 0 then [44, 32] else []) := by split <;> decide +kernel
    rw [this, List.append_assoc]
/-- two lists of pairs that begin alike, and go on by other players -/
theorem shown_other {xs : List PyData} {p q : Nat} {c d : PyData} (hp : p < 5) (hq : q < 5) (h : p ≠ q) :
    PyData.shown (.list (xs ++ [.tuple [.int (p : Nat), c], .tuple [.int (q : Nat), d]])) ≠ PyData.shown (.list (xs ++ [.tuple [.int (q : Nat), d], .tuple [.int (p : Nat), c]])) := by
  intro e
  rw [shown_list, shown_list, shownAll_app, shownAll_app] at e
  unfold listText at e
  rw [textFrom_app, textFrom_app] at e
  have e2 := congrArg (fun z : Str => z.cps.toList) e
  simp only [cpl] at e2
  obtain ⟨z1, h1⟩ := textFrom2 (0 + (PyData.shownAll xs).length) (textFrom 0 "[" (PyData.shownAll xs)) (PyData.shown (.tuple [.int (p : Nat), c])) (PyData.shown (.tuple [.int (q : Nat), d]))
  obtain ⟨z2, h2⟩ := textFrom2 (0 + (PyData.shownAll xs).length) (textFrom 0 "[" (PyData.shownAll xs)) (PyData.shown (.tuple [.int (q : Nat), d])) (PyData.shown (.tuple [.int (p : Nat), c]))
  obtain ⟨r1, g1⟩ := pair_text hp c
  obtain ⟨r2, g2⟩ := pair_text hq d
  have s1 : PyData.shownAll [.tuple [.int (p : Nat), c], .tuple [.int (q : Nat), d]] = [PyData.shown (.tuple [.int (p : Nat), c]), PyData.shown (.tuple [.int (q : Nat), d])] := by simp [PyData.shownAll]
  have s2 : PyData.shownAll [.tuple [.int (q : Nat), d], .tuple [.int (p : Nat), c]] = [PyData.shown (.tuple [.int (q : Nat), d]), PyData.shown (.tuple [.int (p : Nat), c])] := by simp [PyData.shownAll]
  rw [s1, s2, h1, h2, g1, g2] at e2
  simp only [List.append_assoc] at e2
  have e3 := List.append_cancel_left (List.append_cancel_left e2)
  simp only [List.cons_append, List.cons.injEq, true_and] at e3
  have := e3.1
  unfold digit at this
  omega
theorem pr_imp' {α β : Type} {F G : α → β → Prop} : ∀ {l : List α} {m : List β}, Paired F l m → (∀ n ∈ l, ∀ y, F n y → G n y) → Paired G l m
  | _, _, .nil, _ => .nil
  | _, _, .cons a r, h => .cons (h _ List.mem_cons_self _ a) (pr_imp' r fun n hn => h n (List.mem_cons_of_mem _ hn))
def rListOf (K : PySem.W.Frag) : List V → Hp → VK → Prop := fun xs H Q => ∃ p ys, xs = [.ref p] ∧ (SqL K H p ys ∨ SqT K H p ys) ∧ ∀ l, H l = none → Q (.ref l) (upd H l (.lst ys))
theorem call_list_ofK {X : Cx} {K : PySem.W.Frag} (e : X.K = K := by rfl) : CallR X (.type "list") (rListOf K) := by subst e; exact call_list_of
/-! ### promises -/
def spCopy (C : Addr) : Sp := fun vs H Q _ => ∃ (d : Addr) (s : DS), vs = [.ref d] ∧ DoorAt C H d s ∧ ∀ e H', Same H H' → H e = none → DoorAt C H' e s → Q (.ref e) H'
def spDEq (C : Addr) : Sp := fun vs H Q _ => ∃ (d : Addr) (s : DS) (y : V), vs = [.ref d, y] ∧ DoorAt C H d s ∧ s.DOk ∧
  ((∃ e t, y = .ref e ∧ DoorAt C H e t ∧ t.DOk ∧ t.lev.length = s.lev.length ∧ ∀ b, (t.deeds = s.deeds → b = true) → (s.deeds.map Deed.p ≠ t.deeds.map Deed.p → b = false) → Q (.bl b) H) ∨ (∃ o kvs, y = .ref o ∧ H o = some (.dK kvs) ∧ Q (.bl false) H))
def spONext : Sp := fun vs H Q _ => ∃ (o : Addr) (L : List Addr) (p : Nat) (s : DS) (k : Int), vs = [.ref o, .int p] ∧ OwnAt H o L s k ∧ s.WF ∧ p < s.lev.length ∧ ∀ H', Same H H' → Q (optS (s.next p)) H'
def spOCopy : Sp := fun vs H Q _ => ∃ (o : Addr) (L : List Addr) (s : DS) (k : Int), vs = [.ref o] ∧ OwnAt H o L s k ∧ ∀ o' L' H', Same H H' → (∀ x ∈ L', H x = none) → OwnAt H' o' L' s k → Q (.ref o') H'
def spIsDoor (C : Addr) : Sp := fun vs H Q _ => ∃ (d o : Addr) (L : List Addr) (s : DS), vs = [.ref d, .ref o] ∧ DoorAt C H d s ∧ OwnAt H o L s (s.stps : Nat) ∧ s.DOk ∧ s.deeds.length < 100000 ∧ ∀ H', Same H H' → Q (.bl true) H'
/-! ### what was done -/
abbrev Done := Nat × Option V
def DoneAt (H : Hp) (x : V) (e : Done) : Prop := ∃ t c, x = .ref t ∧ H t = some (.tup [.int (e.1 : Nat), c]) ∧ e.1 < 5 ∧ match e.2 with
  | none => c = .non
  | some v => ∃ q, c = .ref q ∧ H q = some (.tup [v]) ∧ Good H v
theorem DoneAt.mono {H H' : Hp} (g : TK H H') {x : V} {e : Done} (h : DoneAt H x e) : DoneAt H' x e := by
  obtain ⟨p, o⟩ := e
  obtain ⟨t, c, h1, h2, h3, h4⟩ := h
  refine ⟨t, c, h1, g.t h2, h3, ?_⟩
  cases o with
  | none => exact h4
  | some v => obtain ⟨q, a, b, d⟩ := h4; exact ⟨q, a, g.t b, d.mono g⟩
def DS.does (s : DS) (e : Done) : DS := match e.2 with
  | none => s.step e.1
  | some v => s.come e.1 v
def DS.let_ (s : DS) (e : Done) : Prop := match e.2 with
  | none => s.cm e.1 ≠ none
  | some _ => s.cm e.1 = none ∧ e.1 < s.lev.length
def DS.run (s : DS) (l : List Done) : DS := l.foldl DS.does s
inductive Leg : DS → List Done → Prop
  | nil {s} : Leg s []
  | cons {s e l} : s.let_ e → Leg (s.does e) l → Leg s (e :: l)
section
variable {s : DS} {e f : Done} {l m : List Done}
theorem Leg.snoc : ∀ {l : List Done} {s : DS}, Leg s l → (s.run l).let_ e → Leg s (l ++ [e])
  | [], _, _, h => .cons h .nil
  | _ :: _, _, .cons a r, h => .cons a (Leg.snoc r h)
theorem Leg.take : ∀ {l m : List Done} {s : DS}, Leg s (l ++ m) → Leg s l ∧ Leg (s.run l) m
  | [], _, _, h => ⟨.nil, h⟩
  | _ :: _, _, _, .cons a r => ⟨.cons a (Leg.take r).1, (Leg.take r).2⟩
theorem Leg.app : ∀ {l m : List Done} {s : DS}, Leg s l → Leg (s.run l) m → Leg s (l ++ m)
  | [], _, _, _, h => h
  | _ :: _, _, _, .cons a r, h => .cons a (Leg.app r h)
theorem run_app : s.run (l ++ m) = (s.run l).run m := List.foldl_append
theorem len_does : (s.does e).lev.length = s.lev.length := by
  obtain ⟨p, o⟩ := e
  cases o with
  | none => exact DS.len_step
  | some v => rfl
theorem len_run : ∀ {l : List Done} {s : DS}, (s.run l).lev.length = s.lev.length
  | [], _ => rfl
  | e :: l, s => (len_run (l := l) (s := s.does e)).trans len_does
theorem WF_does (W : s.WF) (h : s.let_ e) : (s.does e).WF := by
  obtain ⟨p, o⟩ := e
  cases o with
  | none => exact W.step h
  | some v => exact W.come
theorem DOk_does (D : s.DOk) (W : s.WF) (h : s.let_ e) : (s.does e).DOk := by
  obtain ⟨p, o⟩ := e
  cases o with
  | none => exact D.step W h
  | some v => exact D.come W h.2 h.1
theorem both_run : ∀ {l : List Done} {s : DS}, Leg s l → s.WF → s.DOk → (s.run l).WF ∧ (s.run l).DOk
  | [], _, _, W, D => ⟨W, D⟩
  | _ :: _, _, .cons a r, W, D => by
    have h := both_run r (WF_does W a) (DOk_does D W a)
    exact h
theorem ps_does : (s.does e).deeds.map Deed.p = s.deeds.map Deed.p ++ [e.1] := by
  obtain ⟨p, o⟩ := e
  cases o with
  | none => show (s.step p).deeds.map Deed.p = _; rw [DS.step_deeds, List.map_append]; rfl
  | some v => show (s.come p v).deeds.map Deed.p = _; rw [show (s.come p v).deeds = s.deeds ++ [⟨false, p, v⟩] from rfl, List.map_append]; rfl
theorem ps_run : ∀ {l : List Done} {s : DS}, (s.run l).deeds.map Deed.p = s.deeds.map Deed.p ++ l.map Prod.fst
  | [], s => by simp [DS.run]
  | e :: l, s => by
    show ((s.does e).run l).deeds.map Deed.p = _
    rw [ps_run, ps_does]; simp
theorem cm_does (W : s.WF) (h : s.let_ e) (q : Nat) (hq : q ≠ e.1) : (s.does e).cm q = s.cm q := by
  obtain ⟨p, o⟩ := e
  cases o with
  | none => exact DS.cm_step q
  | some v =>
    show (s.come p v).cm q = _
    rw [DS.cm_come, if_neg]
    rintro ⟨z, _⟩; exact hq z.symm
theorem let_swap (W : s.WF) (he : s.let_ e) (hf : (s.does e).let_ f) (n : f.1 ≠ e.1) : s.let_ f ∧ (s.does f).let_ e := by
  have a : s.let_ f := by
    obtain ⟨q, o⟩ := f
    cases o with
    | none => show s.cm q ≠ none; rw [← cm_does W he q n]; exact hf
    | some v => exact ⟨by rw [← cm_does W he q n]; exact hf.1, by rw [← len_does (s := s) (e := e)]; exact hf.2⟩
  refine ⟨a, ?_⟩
  obtain ⟨p, o⟩ := e
  cases o with
  | none => show (s.does f).cm p ≠ none; rw [cm_does W a p (Ne.symm n)]; exact he
  | some v => exact ⟨by rw [cm_does W a p (Ne.symm n)]; exact he.1, by rw [len_does]; exact he.2⟩
theorem len_deeds_run : (s.run l).deeds.length = s.deeds.length + l.length := by
  have := congrArg List.length (ps_run (l := l) (s := s))
  simpa using this
end
def spAgain (C : Addr) (K : PySem.W.Frag) : Sp := fun vs H Q _ => ∃ (n : Nat) (dl : Addr) (xs : List V) (l : List Done), vs = [.int n, .ref dl] ∧ 1 ≤ n ∧ n ≤ 5 ∧ H dl = some (.lst xs) ∧ Paired (DoneAt H) xs l ∧ Leg (DS.new n) l ∧ l.length < 1000 ∧
  ∀ d H', Same H H' → H d = none → DoorAt C H' d ((DS.new n).run l) → Q (.ref d) H'
def spLDeed (C : Addr) : Sp := fun vs H Q _ => ∃ (pt d o dl : Addr) (L : List Addr) (s : DS) (m : Nat) (xs : List V), vs = [.ref pt, .ref d, .ref o, .ref dl] ∧ PotAt H pt m ∧ m < 800000 ∧ DoorAt C H d s ∧ OwnAt H o L s (s.stps : Nat) ∧ H dl = some (.lst xs) ∧ xs.length < 1000 ∧ s.deeds.length < 1000 ∧
  pt ∉ L ∧ pt ≠ d ∧ pt ≠ dl ∧ dl ∉ L ∧ dl ≠ d ∧ d ∉ L ∧
  ∀ (e : Done) (x : V) H', But (pt :: d :: dl :: L) H H' → PotAt H' pt (m + 100) → s.let_ e → DoorAt C H' d (s.does e) → OwnAt H' o L (s.does e) ((s.does e).stps : Nat) → H' dl = some (.lst (xs ++ [x])) → DoneAt H' x e → Q (.bl true) H'
theorem stps_step {s : DS} {p : Nat} : (s.step p).stps = s.stps + 1 := by
  unfold DS.stps
  rw [DS.step_deeds, List.filter_append, List.length_append]; rfl
theorem stps_come {s : DS} {p : Nat} {v : V} : (s.come p v).stps = s.stps := by
  unfold DS.stps
  rw [show (s.come p v).deeds = s.deeds ++ [⟨false, p, v⟩] from rfl, List.filter_append, List.length_append]; rfl
end Fp
/-! A stair of levels in the heap; promises -/
namespace Fp
open PySem PySem.Spec PyProof.Rows L2
def lfl (n : Int) (a b r e : Addr) : List (Str × V) := [("many", .int n), ("levels", .ref a), ("views", .ref b), ("run", .ref r), ("looking", .ref e)]
structure LC (K : PySem.W.Frag) (C : Addr) : Prop where
  cl : Cls K C
  nM : NoAttr K C "many"
  nL : NoAttr K C "levels"
  nV : NoAttr K C "views"
  nR : NoAttr K C "run"
  nK : NoAttr K C "looking"
section
variable {n : Int} {a b r e a' b' r' e' : Addr}
theorem l_many : (lfl n a b r e).lookup ("many" : Str) = some (.int n) := by kernel_rfl
theorem l_lev : (lfl n a b r e).lookup ("levels" : Str) = some (.ref a) := by kernel_rfl
theorem l_vw : (lfl n a b r e).lookup ("views" : Str) = some (.ref b) := by kernel_rfl
theorem l_run : (lfl n a b r e).lookup ("run" : Str) = some (.ref r) := by kernel_rfl
theorem l_lk : (lfl n a b r e).lookup ("looking" : Str) = some (.ref e) := by kernel_rfl
theorem lp_lev : putF "levels" (.ref a') (lfl n a b r e) = lfl n a' b r e := by kernel_rfl
theorem lp_vw : putF "views" (.ref b') (lfl n a b r e) = lfl n a b' r e := by kernel_rfl
theorem lp_run : putF "run" (.ref r') (lfl n a b r e) = lfl n a b r' e := by kernel_rfl
theorem lp_lk : putF "looking" (.ref e') (lfl n a b r e) = lfl n a b r e' := by kernel_rfl
theorem l_all : putF "looking" (.ref e) (putF "run" (.ref r) (putF "views" (.ref b) (putF "levels" (.ref a) (putF "many" (.int n) [])))) = lfl n a b r e := by kernel_rfl
theorem l_copy : putF "looking" (.ref e) (putF "run" (.ref r) (putF "views" (.ref b) (putF "levels" (.ref a) (lfl n a' b' r' e')))) = lfl n a b r e := by kernel_rfl
theorem ln_next : (lfl n a b r e).lookup ("next" : Str) = none := by kernel_rfl
theorem ln_step : (lfl n a b r e).lookup ("step" : Str) = none := by kernel_rfl
theorem ln_view : (lfl n a b r e).lookup ("view_from" : Str) = none := by kernel_rfl
theorem ln_copy : (lfl n a b r e).lookup ("copy" : Str) = none := by kernel_rfl
theorem ln_weave : (lfl n a b r e).lookup ("weave" : Str) = none := by kernel_rfl
end
def ViewAt (H : Hp) (x : V) : Option (List Nat) → Prop
  | none => x = .non
  | some l => ∃ p, x = .ref p ∧ TT H p (natV l)
theorem ViewAt.mono {H H' : Hp} (g : TK H H') {x : V} {o : Option (List Nat)} (h : ViewAt H x o) : ViewAt H' x o := by
  cases o with
  | none => exact h
  | some v => obtain ⟨p, e, q⟩ := h; exact ⟨p, e, g.tt q⟩
theorem ViewAt.is {H : Hp} {x : V} {o : Option (List Nat)} (h : ViewAt H x o) : decide (x = .non) = o.isNone := by
  cases o with
  | none => rw [show x = .non from h]; rfl
  | some v => obtain ⟨p, e, _⟩ := h; rw [e]; rfl
structure LvIn (K : PySem.W.Frag) (C : Addr) (H : Hp) (d : Addr) (s : LS) (dx a b r e : Addr) (vv rv : List V) : Prop where
  obj : H d = some (.ins C dx (lfl (s.n : Nat) a b r e))
  own : H dx = some (.own d)
  lev : TF H a (s.lev.map lvV)
  vw : TF H b vv
  vwP : Paired (ViewAt H) vv s.vw
  run : H r = some (.tup rv)
  runP : Paired (SD K H) rv s.run
  lk : TF H e (s.lk.map V.bl)
def LvAt (K : PySem.W.Frag) (C : Addr) (H : Hp) (d : Addr) (s : LS) : Prop := ∃ dx a b r e vv rv, LvIn K C H d s dx a b r e vv rv
section
variable {K : PySem.W.Frag} {C : Addr} {H H' : Hp} {d dx a b r e : Addr} {s : LS} {vv rv : List V} {S : List Addr}
theorem LvIn.mono (h : LvIn K C H d s dx a b r e vv rv) (g : TK H H') (g1 : ∀ o, H d = some o → H' d = some o) (g2 : H' dx = H dx) : LvIn K C H' d s dx a b r e vv rv :=
  ⟨g1 _ h.obj, by rw [g2]; exact h.own, g.f h.lev, g.f h.vw, pr_imp (fun _ _ => ViewAt.mono g) h.vwP, g.t h.run, SDs.mono h.runP g, g.f h.lk⟩
theorem LvIn.same (h : LvIn K C H d s dx a b r e vv rv) (g : Same H H') : LvIn K C H' d s dx a b r e vv rv := h.mono (.of g) (fun o q => g _ _ q) (by rw [g _ _ h.own]; exact h.own.symm)
theorem LvAt.same (h : LvAt K C H d s) (g : Same H H') : LvAt K C H' d s := by
  obtain ⟨dx, a, b, r, e, vv, rv, h⟩ := h
  exact ⟨dx, a, b, r, e, vv, rv, h.same g⟩
theorem LvAt.off (h : LvAt K C H d s) (g : But S H H') (tk : TK H H') (n : ∀ x ∈ S, x ≠ d ∧ H x ≠ some (.own d)) : LvAt K C H' d s := by
  obtain ⟨dx, a, b, r, e, vv, rv, h⟩ := h
  have nd : d ∉ S := fun m => (n d m).1 rfl
  have nx : dx ∉ S := fun m => (n dx m).2 h.own
  exact ⟨dx, a, b, r, e, vv, rv, h.mono tk (fun o q => g _ _ nd q) (by rw [g _ _ nx h.own]; exact h.own.symm)⟩
theorem LvAt.ob (h : LvAt K C H d s) : ∃ dx fs, H d = some (.ins C dx fs) ∧ fs.lookup ("next" : Str) = none ∧ fs.lookup ("step" : Str) = none ∧ fs.lookup ("copy" : Str) = none ∧ fs.lookup ("view_from" : Str) = none ∧ fs.lookup ("weave" : Str) = none := by
  obtain ⟨dx, a, b, r, e, vv, rv, h⟩ := h
  exact ⟨_, _, h.obj, ln_next, ln_step, ln_copy, ln_view, ln_weave⟩
theorem LvAt.tk (h : LvAt K C H d s) (g : But [d] H H') : TK H H' := TK.but g fun a ha z => by
  obtain ⟨dx, fs, e, _⟩ := h.ob
  rw [List.mem_singleton.mp ha, e] at z
  exact z
end
def DueAt (H : Hp) (y : V) : Option Due → Prop
  | none => y = .non
  | some (.wr l) => ∃ t, y = .ref t ∧ H t = some (.tup [.str "write", .int l])
  | some .look => ∃ t, y = .ref t ∧ H t = some (.tup [.str "look"])
def spChkMany : Sp := fun vs H Q _ => ∃ n : Nat, vs = [.int n] ∧ 1 ≤ n ∧ n ≤ 5 ∧ Q .non H
def spLInit (K : PySem.W.Frag) (C : Addr) : Sp := fun vs H Q _ => ∃ (d dx : Addr) (n : Nat), vs = [.ref d, .int n] ∧ 1 ≤ n ∧ n ≤ 5 ∧ H d = some (.ins C dx []) ∧ H dx = some (.own d) ∧ ∀ H', But [d] H H' → LvAt K C H' d (LS.new n) → Q .non H'
def spLNext (K : PySem.W.Frag) (C : Addr) : Sp := fun vs H Q _ => ∃ (d : Addr) (p : Nat) (s : LS), vs = [.ref d, .int p] ∧ LvAt K C H d s ∧ s.WF ∧ p < s.n ∧ ∀ y H', Same H H' → DueAt H' y (s.next p) → Q y H'
def spLView (K : PySem.W.Frag) (C : Addr) : Sp := fun vs H Q _ => ∃ (d : Addr) (p : Nat) (s : LS), vs = [.ref d, .int p] ∧ LvAt K C H d s ∧ s.WF ∧ p < s.n ∧ s.lv p ≠ none ∧ ∀ y H', Same H H' → ViewAt H' y (s.seen p) → Q y H'
def spLStep (K : PySem.W.Frag) (C : Addr) : Sp := fun vs H Q _ => ∃ (d : Addr) (p : Nat) (s : LS), vs = [.ref d, .int p] ∧ LvAt K C H d s ∧ s.WF ∧ p < s.n ∧ s.next p ≠ none ∧ s.run.length < 100000 ∧
  ∀ y dd H', But [d] H H' → LvAt K C H' d (s.step p) → (s.step p).run = s.run ++ [dd] → SD K H' y dd → Q y H'
def spLCopy (K : PySem.W.Frag) (C : Addr) : Sp := fun vs H Q _ => ∃ (d : Addr) (s : LS), vs = [.ref d] ∧ LvAt K C H d s ∧ s.WF ∧ ∀ e H', Same H H' → H e = none → LvAt K C H' e s → Q (.ref e) H'
/-! ### data -/
theorem sm_write {p : Nat} {l : Int} (hp : p < 5) (h1 : 1 ≤ l) (h5 : l ≤ 5) : Sm 4 60 (.tuple [.int (p : Nat), .str "write", .int l]) :=
  (Sms.tup (.cons (Sm.int (i := (p : Nat)) (by omega) (by omega)) (.cons ((sm_word "write" (by decide +kernel)).mono (Nat.le_refl 1) (Nat.le_refl 10)) (.cons (Sm.int (i := l) (by omega) (by omega)) (Sms.nil (n := 0)))))).mono (by decide) (by decide)
theorem sm_look {p : Nat} {l : List Lv} (hp : p < 5) (hl : l.length ≤ 5) (h : ∀ x, some x ∈ l → 1 ≤ x ∧ x ≤ 5) : Sm 4 60 (.tuple [.int (p : Nat), .str "look", .tuple (l.map lvD)]) := by
  have sl : Sms 1 5 (l.map lvD) := by
    refine (Sms.all (k := 1) (n := 0) fun d hd => ?_).mono (Nat.le_refl _) (by rw [List.length_map]; omega)
    obtain ⟨x, hx, rfl⟩ := List.mem_map.mp hd
    cases x with
    | none => exact Sm.non
    | some i => have := h i hx; exact Sm.int (by omega) (by omega)
  exact (Sms.tup (.cons ((Sm.int (i := (p : Nat)) (by omega) (by omega)).mono (by decide : 1 ≤ 2) (Nat.le_refl 0)) (.cons ((sm_word "look" (by decide +kernel)).mono (by decide : 1 ≤ 2) (Nat.le_refl 10)) (.cons sl.tup (Sms.nil (n := 0)))))).mono (by decide) (by decide)
def LS.ROk (s : LS) : Prop := ∀ d ∈ s.run, Sm 4 60 d
theorem LS.ROk.new (n : Nat) : (LS.new n).ROk := fun d h => absurd h (by simp [LS.new])
theorem LS.WF.levs {s : LS} (W : s.WF) : s.lev.length ≤ 5 ∧ ∀ x, some x ∈ s.lev → 1 ≤ x ∧ x ≤ 5 := ⟨W.n5, fun x hx => by
  obtain ⟨q, hq⟩ := mem_getD.mp hx
  have := W.rng q x hq
  have := W.n5
  omega⟩
theorem LS.step_run {s : LS} {p : Nat} (W : s.WF) (hp : p < s.n) (h : s.next p ≠ none) : ∃ dd, (s.step p).run = s.run ++ [dd] ∧ Sm 4 60 dd := by
  have n5 := W.n5
  have Ws := W.step hp
  unfold LS.step at Ws ⊢
  cases e : s.next p with
  | none => exact absurd e h
  | some du =>
    rw [e] at Ws
    cases du with
    | wr l =>
      have := Ws.rng p l (by show (s.wrote p l).lv p = some l; rw [LS.lv_wrote hp, if_pos rfl])
      rw [show LS.n (match some (Due.wr l) with | none => s | some (.wr l) => s.wrote p l | some .look => s.looked p) = s.n from LS.n_wrote] at this
      exact ⟨_, rfl, sm_write (by omega) this.1 (by omega)⟩
    | look => exact ⟨_, rfl, sm_look (by omega) W.levs.1 W.levs.2⟩
theorem LS.ROk.step {s : LS} {p : Nat} (R : s.ROk) (W : s.WF) (hp : p < s.n) (h : s.next p ≠ none) : (s.step p).ROk := by
  obtain ⟨dd, e, sm⟩ := LS.step_run W hp h
  intro d hd
  rw [e] at hd
  rcases List.mem_append.mp hd with z | z
  · exact R d z
  · rw [List.mem_singleton.mp z]; exact sm
/-- views as data -/
def vwD : Option (List Nat) → PyData
  | none => .none
  | some l => .tuple (l.map fun (p : Nat) => PyData.int (p : Int))
theorem vw_dp {K : PySem.W.Frag} {H : Hp} : ∀ {vv : List V} {m : List (Option (List Nat))}, Paired (ViewAt H) vv m → DpAll K H vv (m.map vwD)
  | _, _, .nil => .nil
  | _, _, .cons (b := o) a r => by
    cases o with
    | none => rw [show _ = V.non from a]; exact .cons .non (vw_dp r)
    | some l => obtain ⟨p, rfl, q⟩ := a; exact .cons (.tup q.sq (natV_dp l)) (vw_dp r)
theorem vw_sm {s : LS} (W : s.WF) : ∀ d ∈ s.vw.map vwD, Sm 2 5 d := by
  intro d hd
  obtain ⟨o, ho, rfl⟩ := List.mem_map.mp hd
  have n5 := W.n5
  cases o with
  | none => exact Sm.non.mono (by decide) (by decide)
  | some v =>
    obtain ⟨q, hq⟩ := mem_getD.mp ho
    obtain ⟨l, h1, h2, h3⟩ := W.vil q v hq
    have := W.rng q _ h1
    rw [h2]
    refine natV_sm (fun p hp => ?_) (by omega)
    have := (LS.mem_below.mp hp).1
    omega
end Fp
/-! o.m(k = v, ..); players by other numbers -/
namespace Fp
open PySem PySem.Spec PyProof.Rows L2
/-! ### methods called by keywords alone -/
def tMethKW (C : Addr) (m : Str) (n : Nat) (sp : Sp) (gV : List V → List V → List V) (E : XK) (ta : TE) (tk : TA) : TE := fun σ H Q => ta σ H fun x H1 => ∃ a dx fs, x = .ref a ∧ H1 a = some (.ins C dx fs) ∧ fs.lookup m = none ∧ tk σ H1 fun zs H2 => zs.length = n ∧ sp (gV [.ref a] zs) H2 Q E
structure MdK (P : Program) (w : World) (K : PySem.W.Frag) (mg : Str → Option Value) (base : Heap) (CX : CXT) (C : Addr) (m : Str) (k : Nat) (ps ks : List Str) (g : List Value → List Value → List Value) (gV : List V → List V → List V) (sp : Sp) : Prop where
  ex : ∃ (f : Addr) (fd : FuncData), Meth K C m f ∧ KBn K fd ps 1 ks g gV ∧ FnOk P w K mg base CX k f fd ps sp
section
variable {X : Cx} {k : Nat} {C : Addr} {ps ks : List Str} {sp : Sp} {m : Str} {pos apos : Pos} {o : Expr} {kws : List Keyword} {ta : TE} {tk : TA} {g : List Value → List Value → List Value} {gV : List V → List V → List V}
theorem pe_mdK {pl : Sem Bool} (he : PE X o ta) (c : Cls X.K C) (M : MdK X.prog X.w X.K X.mg X.base CX0 C m k ps ks g gV sp) (hr : Room k X.A) (hkw : PK X kws tk)
    (hall : (backToKw pos (keywordEach kws X.env)).all (·.1.isSome) = true := by rfl) (hks : (backToKw pos (keywordEach kws X.env)).filterMap (·.1) = ks := by rfl)
    (hpl : ((backTo pos (starEach [] X.env)).any (·.1) || (backToKw pos (keywordEach kws X.env)).any (·.1.isNone)) = false := by rfl)
    (ht : eval (.Call (.Attribute o m apos) [] kws pos) X.env = (do
      let ov ← eval o X.env
      standAt apos.atName
      let (f, first) ← holding [ov] (getMethod ov m pl)
      callWith pos f first (backTo pos (starEach [] X.env)) (backToKw pos (keywordEach kws X.env))) := by rfl) :
    PE X (.Call (.Attribute o m apos) [] kws pos) (tMethKW C m ks.length sp gV E0 ta tk) := by
  obtain ⟨f, fd, hm, hb, F⟩ := M.ex
  refine ⟨fun pins s σ H Q I h => ?_⟩
  refine PySem.W.methodCall_KW (pl := pl) (thn (he.run pins s σ H _ I h) fun u s1 ⟨x, H1, I1, rx, a, dx, fs, ex, ea, l, q⟩ => ?_) ht
  subst ex
  obtain rfl : u = Value.ref a := rx
  refine getmeth_ok I1 ea c hm l ?_
  refine PySem.W.callWith_KW0 (first := [.ref a]) (h₀ := X.base) I.ok.mod.kin hm.kp hall ?_ hpl
  refine thn (hkw.run pos pins s1 σ H1 _ I1 q) fun ws s2 ⟨zs, H2, I2, rz, l2, q2⟩ => ⟨I2.kIn, ?_⟩
  rw [hks]
  have r1 : Vals [V.ref a] [Value.ref a] := .cons rfl .nil
  have r2 := hb.rel r1 rz
  refine wpAny_call (codeAny_mono (F.run X.A X.stack s2 H2 ⟨[.ref a], ks.zip ws⟩ (g [.ref a] ws) (gV [.ref a] zs) Q E0 hr I2.env0 (hb.to s2 [.ref a] ws I2.kIn rfl (rz.length.symm.trans l2)) r2 q2) fun r s' hq => ?_)
  cases r with
  | error e => exact pass0 pins σ H2 s2 e s' I2 hq
  | ok fl =>
    cases fl with
    | ret u => exact I2.after hq
    | next => exact False.elim hq
    | brk => exact False.elim hq
    | cont => exact False.elim hq
end
/-! ### rows by other numbers -/
structure Nu (nu : List Nat) : Prop where
  lt : ∀ q ∈ nu, q < 5
  up : nu.Pairwise (· < ·)
def ledF {β : Type} : List β → List Nat → List β → List β
  | x :: xs, q :: nu, acc => ledF xs nu (acc.set q x)
  | _, _, acc => acc
def ledL {α : Type} (nu : List Nat) (xs : List (Option α)) : List (Option α) := ledF xs nu (List.replicate 5 none)
theorem led_snoc {β : Type} {x : β} {q : Nat} : ∀ {xs : List β} {nu : List Nat} {acc : List β}, nu[xs.length]? = some q → ledF (xs ++ [x]) nu acc = (ledF xs nu acc).set q x
  | [], [], acc, h => by cases h
  | [], r :: nu, acc, h => by cases h; cases nu <;> rfl
  | y :: ys, [], acc, h => by cases h
  | y :: ys, r :: nu, acc, h => by
    show ledF (ys ++ [x]) nu (acc.set r y) = (ledF ys nu (acc.set r y)).set q x
    exact led_snoc (by simpa using h)
theorem led_len {β : Type} : ∀ (xs : List β) (nu : List Nat) (acc : List β), (ledF xs nu acc).length = acc.length
  | [], nu, acc => by cases nu <;> rfl
  | x :: xs, [], acc => rfl
  | x :: xs, q :: nu, acc => by show (ledF xs nu _).length = _; rw [led_len xs nu]; simp
theorem led_map {β γ : Type} (f : β → γ) : ∀ (xs : List β) (nu : List Nat) (acc : List β), (ledF xs nu acc).map f = ledF (xs.map f) nu (acc.map f)
  | [], nu, acc => by cases nu <;> rfl
  | x :: xs, [], acc => rfl
  | x :: xs, q :: nu, acc => by
    show (ledF xs nu _).map f = ledF (xs.map f) nu ((acc.map f).set q (f x))
    rw [led_map f xs nu, List.map_set]
theorem led_pair {β γ : Type} {F : β → γ → Prop} : ∀ {xs : List β} {ys : List γ} {nu : List Nat} {acc : List β} {bcc : List γ}, Paired F xs ys → Paired F acc bcc → Paired F (ledF xs nu acc) (ledF ys nu bcc)
  | _, _, nu, _, _, .nil, h => by cases nu <;> exact h
  | _, _, [], _, _, .cons _ _, h => h
  | _, _, q :: nu, _, _, .cons a r, h => led_pair (nu := nu) r (pr_set a q h)
theorem ledL_len {α : Type} {nu : List Nat} {xs : List (Option α)} : (ledL nu xs).length = 5 := by unfold ledL; rw [led_len]; simp
section
variable {nu : List Nat}
theorem Nu.inj (N : Nu nu) {p p' q : Nat} (h : nu[p]? = some q) (h' : nu[p']? = some q) : p = p' := by
  have a := List.getElem?_eq_some_iff.mp h
  have b := List.getElem?_eq_some_iff.mp h'
  obtain ⟨a1, a2⟩ := a
  obtain ⟨b1, b2⟩ := b
  have up := List.pairwise_iff_getElem.mp N.up
  rcases Nat.lt_trichotomy p p' with h | h | h
  · have := up p p' a1 b1 h; omega
  · exact h
  · have := up p' p b1 a1 h; omega
theorem Nu.mono (N : Nu nu) {p p' q q' : Nat} (h : nu[p]? = some q) (h' : nu[p']? = some q') : p < p' ↔ q < q' := by
  obtain ⟨a1, a2⟩ := List.getElem?_eq_some_iff.mp h
  obtain ⟨b1, b2⟩ := List.getElem?_eq_some_iff.mp h'
  have up := List.pairwise_iff_getElem.mp N.up
  constructor
  · intro z; have := up p p' a1 b1 z; omega
  · intro z
    rcases Nat.lt_trichotomy p p' with h | h | h
    · exact h
    · subst h; omega
    · have := up p' p b1 a1 h; omega
theorem Nu.five (N : Nu nu) {p q : Nat} (h : nu[p]? = some q) : q < 5 := N.lt q (List.mem_of_getElem? h)
theorem led_at {α : Type} (N : Nu nu) {xs : List (Option α)} (hl : xs.length = nu.length) : ∀ i, i ≤ xs.length → (∀ p q, p < i → nu[p]? = some q → (ledL nu (xs.take i)).getD q none = xs.getD p none) ∧ (∀ q, (∀ p, p < i → nu[p]? ≠ some q) → (ledL nu (xs.take i)).getD q none = none)
  | 0, _ => ⟨fun p q h => absurd h (by omega), fun q _ => by
    rw [List.take_zero]
    show (ledF [] nu (List.replicate 5 none)).getD q none = none
    have : ledF ([] : List (Option α)) nu (List.replicate 5 none) = List.replicate 5 none := by cases nu <;> rfl
    rw [this]; exact DS.rep_none 5 q⟩
  | i + 1, hi => by
    obtain ⟨h1, h2⟩ := led_at N hl i (by omega)
    have hx : xs[i]? = some xs[i] := List.getElem?_eq_getElem (by omega)
    obtain ⟨q0, hq0⟩ : ∃ q, nu[i]? = some q := ⟨nu[i], List.getElem?_eq_getElem (by omega)⟩
    have e : ledL nu (xs.take (i + 1)) = (ledL nu (xs.take i)).set q0 xs[i] := by
      rw [List.take_add_one, hx]
      exact led_snoc (by rw [List.length_take, Nat.min_eq_left (by omega)]; exact hq0)
    have q5 := N.five hq0
    rw [e]
    refine ⟨fun p q hp hq => ?_, fun q hq => ?_⟩
    · rw [getD_set, ledL_len]
      by_cases z : q0 = q
      · rw [if_pos ⟨z, q5⟩]
        subst z
        have := N.inj hq hq0
        subst this
        exact (getD_of hx).symm
      · rw [if_neg (fun w => z w.1)]
        refine h1 p q ?_ hq
        by_cases pi : p = i
        · subst pi; rw [hq0] at hq; exact absurd (Option.some.inj hq) z
        · omega
    · rw [getD_set, if_neg]
      · exact h2 q fun p hp => hq p (by omega)
      · rintro ⟨z, _⟩; exact hq i (by omega) (by rw [hq0, z])
theorem ledL_at {α : Type} (N : Nu nu) {xs : List (Option α)} (hl : xs.length = nu.length) {p q : Nat} (h : nu[p]? = some q) : (ledL nu xs).getD q none = xs.getD p none := by
  have := (led_at N hl xs.length (Nat.le_refl _)).1 p q (by rw [hl]; exact get_lt h) h
  rwa [List.take_length] at this
theorem ledL_off {α : Type} (N : Nu nu) {xs : List (Option α)} (hl : xs.length = nu.length) {q : Nat} (h : q ∉ nu) : (ledL nu xs).getD q none = none := by
  have := (led_at N hl xs.length (Nat.le_refl _)).2 q (fun p _ z => h (List.mem_of_getElem? z))
  rwa [List.take_length] at this
theorem mem_led {α : Type} (N : Nu nu) {xs : List (Option α)} (hl : xs.length = nu.length) (x : α) : some x ∈ ledL nu xs ↔ some x ∈ xs := by
  rw [mem_getD, mem_getD]
  constructor
  · rintro ⟨q, hq⟩
    by_cases z : q ∈ nu
    · obtain ⟨p, hp⟩ := List.getElem?_of_mem z
      exact ⟨p, by rw [← ledL_at N hl hp]; exact hq⟩
    · rw [ledL_off N hl z] at hq; cases hq
  · rintro ⟨p, hp⟩
    have hlt := (getD_none_of hp).1
    have : nu[p]? = some nu[p] := List.getElem?_eq_getElem (by omega)
    exact ⟨nu[p], by rw [ledL_at N hl this]; exact hp⟩
end
theorem ext_getD {α : Type} {l m : List (Option α)} (h : l.length = m.length) (e : ∀ q, l.getD q none = m.getD q none) : l = m := by
  refine List.ext_getElem? fun q => ?_
  by_cases hq : q < l.length
  · have := e q
    rw [getD_at hq, getD_at (by omega), this]
  · rw [List.getElem?_eq_none (by omega), List.getElem?_eq_none (by omega)]
theorem sorted_ext : ∀ {l m : List Nat}, l.Pairwise (· < ·) → m.Pairwise (· < ·) → (∀ x, x ∈ l ↔ x ∈ m) → l = m
  | [], [], _, _, _ => rfl
  | [], b :: m, _, _, h => absurd ((h b).mpr List.mem_cons_self) (by simp)
  | a :: l, [], _, _, h => absurd ((h a).mp List.mem_cons_self) (by simp)
  | a :: l, b :: m, hl, hm, h => by
    obtain ⟨a1, a2⟩ := List.pairwise_cons.mp hl
    obtain ⟨b1, b2⟩ := List.pairwise_cons.mp hm
    have eab : a = b := by
      rcases List.mem_cons.mp ((h a).mp List.mem_cons_self) with e | e
      · exact e
      · rcases List.mem_cons.mp ((h b).mpr List.mem_cons_self) with e' | e'
        · exact e'.symm
        · have := b1 a e; have := a1 b e'; omega
    subst eab
    congr 1
    refine sorted_ext a2 b2 fun x => ?_
    constructor
    · intro hx
      rcases List.mem_cons.mp ((h x).mp (List.mem_cons_of_mem _ hx)) with e | e
      · have := a1 x hx; omega
      · exact e
    · intro hx
      rcases List.mem_cons.mp ((h x).mpr (List.mem_cons_of_mem _ hx)) with e | e
      · have := b1 x hx; omega
      · exact e
/-! ### who can be told next -/
namespace DS
def cameL (s : DS) : List Nat := (List.range s.lev.length).filter fun p => (s.cm p).isSome
def readyL (s : DS) : List Nat := s.held.filter fun p => s.won p
def minN (a : Nat) (l : List Nat) : Nat := l.foldl min a
def wins (s : DS) : List Nat := if some 2 ∈ s.lev then [minN s.two s.readyL] else match s.readyL with
  | [] => s.cameL
  | r :: _ => (s.cameL.filter fun p => decide (p < r) && (s.sn p).isNone) ++ [r]
end DS
theorem minN_spec : ∀ (l : List Nat) (a : Nat), DS.minN a l ∈ a :: l ∧ ∀ x ∈ a :: l, DS.minN a l ≤ x
  | [], a => ⟨by simp [DS.minN], fun x hx => by rw [List.mem_singleton.mp hx]; exact Nat.le_refl _⟩
  | b :: l, a => by
    obtain ⟨h1, h2⟩ := minN_spec l (min a b)
    have e : DS.minN a (b :: l) = DS.minN (min a b) l := rfl
    rw [e]
    refine ⟨?_, fun x hx => ?_⟩
    · rcases List.mem_cons.mp h1 with z | z
      · rw [z]
        rcases Nat.le_total a b with w | w
        · rw [Nat.min_eq_left w]; simp
        · rw [Nat.min_eq_right w]; simp
      · simp [z]
    · have hm := h2 (min a b) List.mem_cons_self
      rcases List.mem_cons.mp hx with z | z
      · rw [z]; exact Nat.le_trans hm (Nat.min_le_left _ _)
      · rcases List.mem_cons.mp z with z | z
        · rw [z]; exact Nat.le_trans hm (Nat.min_le_right _ _)
        · exact h2 x (List.mem_cons_of_mem _ z)
theorem minN_of {a m : Nat} {l : List Nat} (h1 : m ∈ a :: l) (h2 : ∀ x ∈ a :: l, m ≤ x) : DS.minN a l = m := by
  obtain ⟨a1, a2⟩ := minN_spec l a
  exact Nat.le_antisymm (a2 m h1) (h2 _ a1)
def dedup (l : List Nat) : List Nat := l.foldl (fun acc x => if x ∈ acc then acc else acc ++ [x]) []
theorem dedup_snoc (l : List Nat) (x : Nat) : dedup (l ++ [x]) = if x ∈ dedup l then dedup l else dedup l ++ [x] := by
  unfold dedup; rw [List.foldl_append]; rfl
theorem take_last {l : List Nat} {n : Nat} (h : l.length = n + 1) : l = l.take n ++ [l[n]] := by
  conv => lhs; rw [← List.take_append_drop n l]
  congr 1
  rw [List.drop_eq_getElem_cons (by omega)]
  congr 1
  exact List.drop_eq_nil_of_le (by omega)
theorem dedup_len : ∀ (n : Nat) (l : List Nat), l.length = n → (dedup l).length ≤ n
  | 0, l, h => by rw [List.length_eq_zero_iff.mp h]; decide
  | n + 1, l, h => by
    have e := take_last h
    rw [e, dedup_snoc]
    have ih := dedup_len n (l.take n) (by rw [List.length_take]; omega)
    split
    · omega
    · rw [List.length_append]; show _ + 1 ≤ _; omega
theorem dedup_mem : ∀ (n : Nat) (l : List Nat), l.length = n → ∀ x ∈ dedup l, x ∈ l
  | 0, l, h => by rw [List.length_eq_zero_iff.mp h]; simp [dedup]
  | n + 1, l, h => by
    have e := take_last h
    rw [e, dedup_snoc]
    have ih := dedup_mem n (l.take n) (by rw [List.length_take]; omega)
    intro x hx
    split at hx
    · exact List.mem_append_left _ (ih x hx)
    · rcases List.mem_append.mp hx with z | z
      · exact List.mem_append_left _ (ih x z)
      · exact List.mem_append_right _ z
def spWinG (C : Addr) : Sp := fun vs H Q _ => ∃ (d : Addr) (s : DS), vs = [.ref d] ∧ DoorAt C H d s ∧ ∀ (l : Addr) H', Same H H' → H l = none → H' l = some (.lst (natV s.wins)) → Q (.ref l) H'
def spMayG (C : Addr) : Sp := fun vs H Q _ => ∃ (d : Addr) (s : DS) (cod : Nat → V) (dat : Nat → PyData) (cs : Nat → Nat), vs = [.ref d] ∧ DoorAt C H d s ∧ (∀ p v, s.cm p = some v → v = cod (cs p)) ∧ (∀ p, VAt H (cod (cs p)) (dat (cs p)) ∧ VOk 3 (dat (cs p))) ∧
  (∀ p q, PyData.eqv (dat (cs p)) (dat (cs q)) = decide (cs p = cs q)) ∧ ∀ t H', Same H H' → H' t = some (.tup ((dedup (s.wins.map cs)).map cod)) → Q (.ref t) H'
theorem wins_mem {s : DS} (W : s.WF) {p : Nat} (h : p ∈ s.wins) : p < s.lev.length ∧ s.cm p ≠ none := by
  have hheld : ∀ p ∈ s.held, p < s.lev.length ∧ s.lv p = some 1 := fun p hp => by
    have := List.mem_filter.mp hp
    exact ⟨List.mem_range.mp this.1, of_decide_eq_true this.2⟩
  have hr : ∀ p ∈ s.readyL, p < s.lev.length ∧ s.cm p ≠ none := fun p hp => by
    have := hheld p (List.mem_filter.mp hp).1
    exact ⟨this.1, W.cmv p (by rw [this.2]; simp)⟩
  have hc : ∀ p ∈ s.cameL, p < s.lev.length ∧ s.cm p ≠ none := fun p hp => by
    have := List.mem_filter.mp hp
    refine ⟨List.mem_range.mp this.1, fun z => ?_⟩
    rw [z] at this; exact absurd this.2 (by simp)
  unfold DS.wins at h
  split at h
  · rename_i h2
    rw [List.mem_singleton.mp h]
    obtain ⟨h1, _⟩ := minN_spec s.readyL s.two
    rcases List.mem_cons.mp h1 with z | z
    · rw [z]
      obtain ⟨m1, m2, _⟩ := DS.two_lev (mem_getD.mp h2)
      exact ⟨m1, W.cmv _ (by rw [m2]; simp)⟩
    · exact hr _ z
  · split at h
    · exact hc p h
    · rename_i r rs e
      rcases List.mem_append.mp h with z | z
      · exact hc p (List.mem_filter.mp z).1
      · rw [List.mem_singleton.mp z]; exact hr r (by rw [e]; exact List.mem_cons_self)
theorem wins_len {s : DS} (W : s.WF) : s.wins.length ≤ 6 := by
  have h5 := W.n5
  have hc : s.cameL.length ≤ 5 := by
    have := List.length_filter_le (fun p => (s.cm p).isSome) (List.range s.lev.length)
    rw [List.length_range] at this
    unfold DS.cameL; omega
  unfold DS.wins
  split
  · show 1 ≤ 6; decide
  · split
    · omega
    · rename_i r _ _
      rw [List.length_append]
      have := List.length_filter_le (fun p => decide (p < r) && (s.sn p).isNone) s.cameL
      show _ + 1 ≤ 6
      omega
/-! ### two doors, the one by other numbers -/
structure RelD (nm : V → V) (nu : List Nat) (s t : DS) : Prop where
  N : Nu nu
  ls : s.lev.length = nu.length
  lt : t.lev.length = 5
  Ws : s.WF
  Wt : t.WF
  lv : ∀ p q, nu[p]? = some q → t.lv q = s.lv p
  cm : ∀ p q, nu[p]? = some q → t.cm q = (s.cm p).map nm
  sn : ∀ p q, nu[p]? = some q → t.sn q = (s.sn p).map (ledL nu)
  hd : ∀ p q, nu[p]? = some q → t.hd q = (s.hd p).map nm
  offC : ∀ q, q ∉ nu → t.cm q = none
  offH : ∀ q, q ∉ nu → t.hd q = none
  snl : ∀ p l, s.sn p = some l → l.length = nu.length
  st : t.stps = s.stps
def mapT (nm : V → V) (nu : List Nat) : Told → Told
  | .level i => .level i
  | .look l => .look (ledL nu l)
  | .wait => .wait
  | .word v => .word (nm v)
section
variable {nm : V → V} {nu : List Nat} {s t : DS} {p q : Nat} {v : V}
theorem RelD.new {n : Nat} (N : Nu nu) (h1 : 1 ≤ n) (h5 : n ≤ 5) (hl : nu.length = n) : RelD nm nu (DS.new n) (DS.new 5) := by
  refine ⟨N, by simp [DS.new, hl], by simp [DS.new], .new h1 h5, .new (by decide) (by decide), ?_, ?_, ?_, ?_, ?_, ?_, ?_, rfl⟩
  · intro p q _; rw [DS.lv_new, DS.lv_new]
  · intro p q _; rw [DS.cm_new, DS.cm_new]; rfl
  · intro p q _; rw [DS.sn_new, DS.sn_new]; rfl
  · intro p q _; rw [DS.hd_new, DS.hd_new]; rfl
  · intro q _; exact DS.cm_new _ _
  · intro q _; exact DS.hd_new _ _
  · intro p l h; rw [DS.sn_new] at h; cases h
theorem RelD.offL (R : RelD nm nu s t) (h : q ∉ nu) : t.lv q = none := by
  cases e : t.lv q with
  | none => rfl
  | some x => exact absurd (R.offC q h) (R.Wt.cmv q (by rw [e]; simp))
theorem RelD.offS (R : RelD nm nu s t) (h : q ∉ nu) : t.sn q = none := by
  cases e : t.sn q with
  | none => rfl
  | some x => exact absurd (R.offL h) (R.Wt.snv q (by rw [e]; simp))
theorem RelD.lev (R : RelD nm nu s t) : t.lev = ledL nu s.lev := by
  refine ext_getD (by rw [R.lt, ledL_len]) fun q => ?_
  by_cases h : q ∈ nu
  · obtain ⟨p, hp⟩ := List.getElem?_of_mem h
    rw [ledL_at R.N R.ls hp]; exact R.lv p q hp
  · rw [ledL_off R.N R.ls h]; exact R.offL h
theorem RelD.heard (R : RelD nm nu s t) : t.heard = ledL nu (s.heard.map (Option.map nm)) := by
  have hl : (s.heard.map (Option.map nm)).length = nu.length := by rw [List.length_map, R.Ws.lh, R.ls]
  refine ext_getD (by rw [R.Wt.lh, R.lt, ledL_len]) fun q => ?_
  by_cases h : q ∈ nu
  · obtain ⟨p, hp⟩ := List.getElem?_of_mem h
    rw [ledL_at R.N hl hp]
    have e : (s.heard.map (Option.map nm)).getD p none = (s.hd p).map nm := by
      rw [List.getD_eq_getElem?_getD, List.getElem?_map]
      unfold DS.hd
      rw [List.getD_eq_getElem?_getD]
      cases s.heard[p]? <;> rfl
    rw [e]; exact R.hd p q hp
  · rw [ledL_off R.N hl h]; exact R.offH q h
theorem RelD.stg (R : RelD nm nu s t) (h : nu[p]? = some q) : t.stg q = s.stg p := by
  unfold DS.stg
  rw [R.lv p q h, R.sn p q h]
  unfold DS.stgOf
  cases s.sn p <;> rfl
theorem RelD.mem (R : RelD nm nu s t) (x : Int) : some x ∈ t.lev ↔ some x ∈ s.lev := by rw [R.lev]; exact mem_led R.N R.ls x
theorem RelD.saw (R : RelD nm nu s t) (h : nu[p]? = some q) : t.saw q = s.saw p := by
  unfold DS.saw
  rw [R.sn p q h]
  cases e : s.sn p with
  | none => rfl
  | some l => exact decide_eq_decide.mpr (mem_led R.N (R.snl p l e) 2)
theorem RelD.won (R : RelD nm nu s t) (h : nu[p]? = some q) : t.won q = s.won p := by
  unfold DS.won
  rw [R.sn p q h]
  cases e : s.sn p with
  | none => rfl
  | some l => show (!decide _) = (!decide _); rw [decide_eq_decide.mpr (mem_led R.N (R.snl p l e) 2)]
theorem RelD.wr (R : RelD nm nu s t) (h : nu[p]? = some q) : t.wr q = s.wr p := by unfold DS.wr; rw [R.saw h]
theorem RelD.at (R : RelD nm nu s t) (h : p < s.lev.length) : nu[p]? = some (nu.getD p 0) := by
  rw [R.ls] at h
  rw [List.getD_eq_getElem?_getD, List.getElem?_eq_getElem h]; rfl
theorem RelD.two (R : RelD nm nu s t) (h2 : ∃ p, s.lv p = some 2) : nu[s.two]? = some t.two := by
  obtain ⟨a1, a2, a3⟩ := DS.two_lev h2
  have hq := R.at a1
  have t2 : t.lv (nu.getD s.two 0) = some 2 := by rw [R.lv _ _ hq]; exact a2
  obtain ⟨b1, b2, b3⟩ := DS.two_lev ⟨_, t2⟩
  by_cases hm : t.two ∈ nu
  · obtain ⟨p', hp'⟩ := List.getElem?_of_mem hm
    have e2 : s.lv p' = some 2 := by rw [← R.lv p' _ hp']; exact b2
    have h3 : ¬ p' < s.two := fun z => a3 p' z e2
    have h4 : ¬ nu.getD s.two 0 < t.two := fun z => b3 _ z t2
    have h5 := R.N.mono hq hp'
    have : p' = s.two := by
      have : ¬ s.two < p' := fun z => h4 (h5.mp z)
      omega
    rw [← this]; exact hp'
  · rw [R.offL hm] at b2; cases b2
theorem RelD.told (R : RelD nm nu s t) (h : nu[p]? = some q) : t.told q = mapT nm nu (s.told p) := by
  have h4 := DS.stg_lt s p
  have e := R.stg h
  rcases (show s.stg p = 0 ∨ s.stg p = 1 ∨ s.stg p = 2 ∨ s.stg p = 3 by omega) with z | z | z | z <;> rw [z] at e
  · rw [DS.told0 z, DS.told0 e]; rfl
  · rw [DS.told1 z, DS.told1 e, R.lev]; rfl
  · rw [DS.told2 z, DS.told2 e, R.wr h]; rfl
  · rw [DS.told3 z, DS.told3 e]
    by_cases y : some 1 ∈ s.lev
    · rw [if_pos y, if_pos ((R.mem 1).mpr y)]; rfl
    · rw [if_neg y, if_neg (fun w => y ((R.mem 1).mp w))]
      have h2 := DS.ask_two R.Ws z
      obtain ⟨v, hv⟩ := DS.two_came R.Ws h2
      rw [R.cm _ _ (R.two h2), hv]; rfl
theorem RelD.ne (R : RelD nm nu s t) {p' q' : Nat} (h : nu[p]? = some q) (h' : nu[p']? = some q') : p = p' ↔ q = q' := by
  constructor
  · rintro rfl; rw [h] at h'; exact Option.some.inj h'
  · rintro rfl; exact R.N.inj h h'
theorem RelD.come (R : RelD nm nu s t) (h : nu[p]? = some q) : RelD nm nu (s.come p v) (t.come q (nm v)) := by
  have hp : p < s.came.length := by rw [R.Ws.lc, R.ls]; exact get_lt h
  have hq : q < t.came.length := by rw [R.Wt.lc, R.lt]; exact R.N.five h
  refine ⟨R.N, R.ls, R.lt, R.Ws.come, R.Wt.come, R.lv, fun p' q' h' => ?_, R.sn, R.hd, fun q' h' => ?_, R.offH, R.snl, by rw [stps_come, stps_come]; exact R.st⟩
  · rw [DS.cm_come, DS.cm_come]
    by_cases z : p = p'
    · rw [if_pos ⟨(R.ne h h').mp z, hq⟩, if_pos ⟨z, hp⟩]; rfl
    · rw [if_neg (fun w => z ((R.ne h h').mpr w.1)), if_neg (fun w => z w.1)]; exact R.cm p' q' h'
  · rw [DS.cm_come, if_neg]
    · exact R.offC q' h'
    · rintro ⟨z, _⟩; exact h' (z ▸ List.mem_of_getElem? h)
theorem RelD.step (R : RelD nm nu s t) (h : nu[p]? = some q) (hc : s.cm p ≠ none) : RelD nm nu (s.step p) (t.step q) := by
  have hc' : t.cm q ≠ none := by
    rw [R.cm p q h]
    cases e : s.cm p with
    | none => exact absurd e hc
    | some v => simp
  have hp := DS.lt_of_cm R.Ws hc
  have hq := DS.lt_of_cm R.Wt hc'
  have hps : p < s.seen.length := by rw [R.Ws.ls]; exact hp
  have hqs : q < t.seen.length := by rw [R.Wt.ls]; exact hq
  have e := R.stg h
  have h4 := DS.stg_lt s p
  have ne := fun p' q' (h' : nu[p']? = some q') => R.ne h h'
  have hdR : ∀ p' q', nu[p']? = some q' → (t.step q).hd q' = ((s.step p).hd p').map nm := fun p' q' h' => by
    rw [DS.hd_step R.Ws hc, DS.hd_step R.Wt hc']
    by_cases z : p = p' ∧ s.stg p = 3 ∧ some 1 ∉ s.lev
    · rw [if_pos z, if_pos ⟨(ne p' q' h').mp z.1, by rw [e]; exact z.2.1, fun w => z.2.2 ((R.mem 1).mp w)⟩]
      exact R.cm _ _ (R.two (DS.ask_two R.Ws z.2.1))
    · rw [if_neg z, if_neg (fun w => z ⟨(ne p' q' h').mpr w.1, by rw [← e]; exact w.2.1, fun y => w.2.2 ((R.mem 1).mpr y)⟩)]
      exact R.hd p' q' h'
  have offHR : ∀ q', q' ∉ nu → (t.step q).hd q' = none := fun q' h' => by
    rw [DS.hd_step R.Wt hc', if_neg]
    · exact R.offH q' h'
    · rintro ⟨z, _⟩; exact h' (z ▸ List.mem_of_getElem? h)
  have stR : (t.step q).stps = (s.step p).stps := by rw [stps_step, stps_step, R.st]
  refine ⟨R.N, by rw [DS.len_step]; exact R.ls, by rw [DS.len_step]; exact R.lt, R.Ws.step hc, R.Wt.step hc', fun p' q' h' => ?_, fun p' q' h' => by rw [DS.cm_step, DS.cm_step]; exact R.cm p' q' h', fun p' q' h' => ?_, hdR, fun q' h' => by rw [DS.cm_step]; exact R.offC q' h', offHR, fun p' l h' => ?_, stR⟩
  · rcases (show s.stg p = 0 ∨ s.stg p = 1 ∨ s.stg p = 2 ∨ s.stg p = 3 by omega) with z | z | z | z <;> rw [z] at e
    · rw [DS.lv_step0 z hp, DS.lv_step0 e hq]
      by_cases y : p = p'
      · rw [if_pos y, if_pos ((ne p' q' h').mp y)]
      · rw [if_neg y, if_neg (fun w => y ((ne p' q' h').mpr w))]; exact R.lv p' q' h'
    · rw [DS.lv_step1 z, DS.lv_step1 e]; exact R.lv p' q' h'
    · rw [DS.lv_step2 z hp, DS.lv_step2 e hq, R.wr h]
      by_cases y : p = p'
      · rw [if_pos y, if_pos ((ne p' q' h').mp y)]
      · rw [if_neg y, if_neg (fun w => y ((ne p' q' h').mpr w))]; exact R.lv p' q' h'
    · rw [DS.lv_step3 z, DS.lv_step3 e]; exact R.lv p' q' h'
  · by_cases z : s.stg p = 1
    · rw [DS.sn_step1 z hps, DS.sn_step1 (by rw [e]; exact z) hqs]
      by_cases y : p = p'
      · rw [if_pos y, if_pos ((ne p' q' h').mp y), R.lev]; rfl
      · rw [if_neg y, if_neg (fun w => y ((ne p' q' h').mpr w))]; exact R.sn p' q' h'
    · rw [DS.sn_stepN z, DS.sn_stepN (by rw [e]; exact z)]; exact R.sn p' q' h'
  · by_cases z : s.stg p = 1
    · rw [DS.sn_step1 z hps] at h'
      split at h'
      · cases h'; exact R.ls
      · exact R.snl p' l h'
    · rw [DS.sn_stepN z] at h'; exact R.snl p' l h'
/-- lots of players, by other numbers -/
theorem RelD.lots (R : RelD nm nu s t) {f g : Nat → Bool} (hg : ∀ q, q ∉ nu → g q = false) (h : ∀ p q, nu[p]? = some q → g q = f p) : (List.range t.lev.length).filter g = ((List.range s.lev.length).filter f).map fun p => nu.getD p 0 := by
  have rs : ∀ n, (List.range n).Pairwise (· < ·) := fun n => List.pairwise_lt_range
  refine sorted_ext ((rs _).filter _) ?_ fun x => ?_
  · rw [List.pairwise_map]
    refine List.Pairwise.imp_of_mem ?_ ((rs s.lev.length).filter f)
    intro a b ha hb hab
    have ha := List.mem_range.mp (List.mem_filter.mp ha).1
    have hb := List.mem_range.mp (List.mem_filter.mp hb).1
    exact (R.N.mono (R.at ha) (R.at hb)).mp hab
  · rw [List.mem_filter, List.mem_range, List.mem_map]
    constructor
    · rintro ⟨h1, h2⟩
      by_cases z : x ∈ nu
      · obtain ⟨p, hp⟩ := List.getElem?_of_mem z
        have hpl : p < s.lev.length := by rw [R.ls]; exact get_lt hp
        refine ⟨p, List.mem_filter.mpr ⟨List.mem_range.mpr hpl, by rw [← h p x hp]; exact h2⟩, ?_⟩
        have := R.at hpl
        rw [hp] at this; exact (Option.some.inj this).symm
      · rw [hg x z] at h2; cases h2
    · rintro ⟨p, hp, rfl⟩
      have hp' := List.mem_filter.mp hp
      have hpl := List.mem_range.mp hp'.1
      have ha := R.at hpl
      exact ⟨by rw [R.lt]; exact R.N.five ha, by rw [h p _ ha]; exact hp'.2⟩
theorem RelD.held (R : RelD nm nu s t) : t.held = s.held.map fun p => nu.getD p 0 :=
  R.lots (fun q h => by rw [R.offL h]; decide) fun p q h => by rw [R.lv p q h]
theorem RelD.cameL (R : RelD nm nu s t) : t.cameL = s.cameL.map fun p => nu.getD p 0 :=
  R.lots (fun q h => by rw [R.offC q h]; rfl) fun p q h => by rw [R.cm p q h]; cases s.cm p <;> rfl
theorem held_lt {s : DS} : ∀ p ∈ s.held, p < s.lev.length := fun p hp => List.mem_range.mp (List.mem_filter.mp hp).1
theorem RelD.readyL (R : RelD nm nu s t) : t.readyL = s.readyL.map fun p => nu.getD p 0 := by
  unfold DS.readyL
  rw [R.held, List.filter_map]
  congr 1
  refine List.filter_congr fun p hp => ?_
  exact R.won (R.at (held_lt p hp))
theorem RelD.wins (R : RelD nm nu s t) : t.wins = s.wins.map fun p => nu.getD p 0 := by
  have er := R.readyL
  have rl : ∀ p ∈ s.readyL, p < s.lev.length := fun p hp => held_lt p (List.mem_filter.mp hp).1
  unfold DS.wins
  by_cases h2 : some 2 ∈ s.lev
  · rw [if_pos h2, if_pos ((R.mem 2).mpr h2)]
    obtain ⟨m1, m2, _⟩ := DS.two_lev (mem_getD.mp h2)
    have ht : nu.getD s.two 0 = t.two := by
      have a := R.two (mem_getD.mp h2)
      have b := R.at m1
      rw [b] at a; exact Option.some.inj a
    show [_] = [nu.getD (DS.minN s.two s.readyL) 0]
    congr 1
    obtain ⟨a1, a2⟩ := minN_spec s.readyL s.two
    have lt : ∀ p ∈ s.two :: s.readyL, p < s.lev.length := fun p hp => by
      rcases List.mem_cons.mp hp with z | z
      · rw [z]; exact m1
      · exact rl p z
    refine minN_of ?_ fun x hx => ?_
    · rw [er]
      rcases List.mem_cons.mp a1 with z | z
      · rw [z, ht]; exact List.mem_cons_self
      · exact List.mem_cons_of_mem _ (List.mem_map.mpr ⟨_, z, rfl⟩)
    · have hx' : ∃ p ∈ s.two :: s.readyL, nu.getD p 0 = x := by
        rcases List.mem_cons.mp hx with z | z
        · exact ⟨s.two, List.mem_cons_self, by rw [z, ht]⟩
        · rw [er] at z
          obtain ⟨p, hp, e⟩ := List.mem_map.mp z
          exact ⟨p, List.mem_cons_of_mem _ hp, e⟩
      obtain ⟨p, hp, rfl⟩ := hx'
      have h1 := R.at (lt _ a1)
      have h3 := R.at (lt p hp)
      rcases Nat.lt_or_ge (nu.getD p 0) (nu.getD (DS.minN s.two s.readyL) 0) with z | z
      · have := (R.N.mono h3 h1).mpr z
        have := a2 p hp
        omega
      · exact z
  · rw [if_neg h2, if_neg (fun w => h2 ((R.mem 2).mp w)), er]
    cases e : s.readyL with
    | nil => exact R.cameL
    | cons r rs =>
      show (t.cameL.filter fun p => decide (p < nu.getD r 0) && (t.sn p).isNone) ++ [nu.getD r 0] = List.map _ (_ ++ [r])
      have hr := R.at (rl r (by rw [e]; exact List.mem_cons_self))
      rw [List.map_append, R.cameL, List.filter_map]
      congr 2
      refine List.filter_congr fun p hp => ?_
      have hpl := List.mem_range.mp (List.mem_filter.mp hp).1
      have ha := R.at hpl
      show (decide (nu.getD p 0 < nu.getD r 0) && (t.sn (nu.getD p 0)).isNone) = _
      rw [R.sn p _ ha, decide_eq_decide.mpr (R.N.mono ha hr).symm]
      cases s.sn p <;> rfl
end
end Fp
/-! views of a stair are a row; weavings; walks over two tuples -/
namespace Fp
open PySem PySem.Spec PyProof.Rows L2
theorem walk_zipT {K : PySem.W.Frag} {a b : Addr} {xs ys : List V} {n : Nat} (hn : n = min xs.length ys.length) : Walk (RZ.ItzT K a b) n (fun H => SqT K H a xs ∧ SqT K H b ys) (YPair (fun i => xs[i]?) (fun i => ys[i]?)) := by
  subst hn
  refine ⟨fun i _ hi q => ?_, fun _ q => ⟨xs, ys, q.1, q.2, by omega⟩, fun i H v H' _ q y => ?_⟩
  · have h1 : i < xs.length := by omega
    have h2 : i < ys.length := by omega
    exact ⟨xs, ys, xs[i], ys[i], q.1, q.2, by simp [h1], by simp [h2]⟩
  · obtain ⟨T, x, z, h1, h2, h3, h4, h5⟩ := y
    exact ⟨T, x, z, h1, h2, h3, h4 xs q.1, h5 ys q.2⟩
def Sub (l m : List Nat) : Prop := ∀ x ∈ l, x ∈ m
instance (l m : List Nat) : Decidable (Sub l m) := inferInstanceAs (Decidable (∀ x ∈ l, x ∈ m))
namespace LS
section
variable {s : LS} {p q : Nat} {l m : List Nat}
theorem below_up (s : LS) (l : Int) : (s.below l).Pairwise (· < ·) := List.Pairwise.filter _ List.pairwise_lt_range
theorem below_mono {a b : Int} (h : a ≤ b) : Sub (s.below a) (s.below b) := fun x hx => by
  obtain ⟨h1, h2⟩ := mem_below.mp hx
  refine mem_below.mpr ⟨h1, ?_⟩
  cases e : s.lv x with
  | none => rw [e] at h2; cases h2
  | some y => rw [e] at h2; have := of_decide_eq_true (show decide (y ≤ a) = true from h2); exact decide_eq_true (by omega)
/-- what is known of a view -/
structure ViewOk (s : LS) (p : Nat) (l : List Nat) : Prop where
  up : l.Pairwise (· < ·)
  self : p ∈ l
  lt : ∀ x ∈ l, x < s.n
  len : l.length ≤ 5
theorem WF.view (W : s.WF) (h : s.vi p = some l) : ViewOk s p l := by
  obtain ⟨k, h1, h2, h3⟩ := W.vil p l h
  have := W.rng p _ h1
  have := W.n5
  refine ⟨by rw [h2]; exact below_up _ _, W.self h, fun x hx => ?_, by rw [h2, h3]; omega⟩
  rw [h2] at hx
  exact (mem_below.mp hx).1
theorem WF.vlt (W : s.WF) (h : s.vi p = some l) : p < s.n := (W.view h).lt p (W.view h).self
theorem WF.fits (W : s.WF) (h : s.vi p = some l) (h' : s.vi q = some m) : (q ∈ l → Sub m l) ∧ (q ∉ l → Sub l m) := by
  obtain ⟨k, h1, h2, _⟩ := W.vil p l h
  obtain ⟨j, j1, j2, _⟩ := W.vil q m h'
  have hq : q ∈ l ↔ j ≤ k := by
    rw [h2, mem_below]
    rw [le_some j1, decide_eq_true_iff]
    exact ⟨fun z => by have := z.2; omega, fun z => ⟨W.vlt h', by omega⟩⟩
  rw [hq, h2, j2]
  exact ⟨fun z => below_mono (by omega), fun z => below_mono (by omega)⟩
def woven (s : LS) (ws : List Nat) : LS := ws.foldl (fun s p => s.step p) s
theorem woven_snoc (ws : List Nat) (p : Nat) : s.woven (ws ++ [p]) = (s.woven ws).step p := List.foldl_append
theorem n_woven : ∀ {ws : List Nat} {s : LS}, (s.woven ws).n = s.n
  | [], _ => rfl
  | p :: ws, s => (n_woven (ws := ws) (s := s.step p)).trans n_step
theorem step_none (h : s.next p = none) : s.step p = s := by unfold LS.step; rw [h]
theorem ok_woven : ∀ {ws : List Nat} {s : LS}, s.WF → s.ROk → (∀ p ∈ ws, p < s.n) → (s.woven ws).WF ∧ (s.woven ws).ROk
  | [], _, W, R, _ => ⟨W, R⟩
  | p :: ws, s, W, R, h => by
    have hp := h p List.mem_cons_self
    have R' : (s.step p).ROk := by
      by_cases z : s.next p = none
      · rw [step_none z]; exact R
      · exact R.step W hp z
    have r := ok_woven (ws := ws) (s := s.step p) (W.step hp) R' fun q hq => by rw [n_step]; exact h q (List.mem_cons_of_mem _ hq)
    exact r
theorem step_run' (W : s.WF) (hp : p < s.n) : ∃ ds, (s.step p).run = s.run ++ ds ∧ ds.length ≤ 1 := by
  by_cases z : s.next p = none
  · exact ⟨[], by rw [step_none z]; simp, by decide⟩
  · obtain ⟨dd, e, _⟩ := step_run W hp z
    exact ⟨[dd], e, Nat.le_refl _⟩
theorem set_same (W : s.WF) (hp : p < s.n) (h : s.vi p = none) : s.vw.set p none = s.vw := by
  have hl : p < s.vw.length := by rw [W.lw]; exact hp
  have e : s.vw[p] = none := by
    have := getD_at hl
    rw [List.getElem?_eq_getElem hl] at this
    have h' : s.vw.getD p none = none := h
    rw [h'] at this
    exact Option.some.inj this
  refine List.ext_getElem? fun i => ?_
  rw [List.getElem?_set]
  by_cases z : p = i
  · subst z; rw [if_pos rfl, if_pos hl, List.getElem?_eq_getElem hl, e]
  · rw [if_neg z]
end
end LS
/-! ### the law's own stair -/
def sdict (n : Int) (l1 l2 l3 : Addr) : List (Key × V) := [(.inr "many", .int n), (.inr "shown", .ref l1), (.inr "looks", .ref l2), (.inr "views", .ref l3)]
section
variable {n : Int} {l1 l2 l3 o : Addr} {H : Hp}
theorem st_merge : mergeK [] (sdict n l1 l2 l3) = sdict n l1 l2 l3 := by kernel_rfl
theorem sg_many (h : H o = some (.dK (sdict n l1 l2 l3))) : DGet H o (.str "many") (some (.int n)) := by
  have := DGet.k (k := .inr "many") h; rw [show valV (sdict n l1 l2 l3) (.inr "many") = some (.int n) by kernel_rfl] at this; exact this
theorem sg_shown (h : H o = some (.dK (sdict n l1 l2 l3))) : DGet H o (.str "shown") (some (.ref l1)) := by
  have := DGet.k (k := .inr "shown") h; rw [show valV (sdict n l1 l2 l3) (.inr "shown") = some (.ref l1) by kernel_rfl] at this; exact this
theorem sg_looks (h : H o = some (.dK (sdict n l1 l2 l3))) : DGet H o (.str "looks") (some (.ref l2)) := by
  have := DGet.k (k := .inr "looks") h; rw [show valV (sdict n l1 l2 l3) (.inr "looks") = some (.ref l2) by kernel_rfl] at this; exact this
theorem sg_views (h : H o = some (.dK (sdict n l1 l2 l3))) : DGet H o (.str "views") (some (.ref l3)) := by
  have := DGet.k (k := .inr "views") h; rw [show valV (sdict n l1 l2 l3) (.inr "views") = some (.ref l3) by kernel_rfl] at this; exact this
end
structure StIn (H : Hp) (o l1 l2 l3 : Addr) (s : LS) (vv : List V) : Prop where
  dict : H o = some (.dK (sdict (s.n : Nat) l1 l2 l3))
  shown : H l1 = some (.lst (s.lev.map lvV))
  looks : H l2 = some (.lst (s.lk.map V.bl))
  views : H l3 = some (.lst vv)
  vwP : Paired (ViewAt H) vv s.vw
  nd : [o, l1, l2, l3].Nodup
def StAt (H : Hp) (o : Addr) (L : List Addr) (s : LS) : Prop := ∃ l1 l2 l3 vv, L = [o, l1, l2, l3] ∧ StIn H o l1 l2 l3 s vv
section
variable {H H' : Hp} {o : Addr} {L S : List Addr} {s : LS}
theorem StAt.but (h : StAt H o L s) (g : But S H H') (n : ∀ x ∈ S, x ∉ L) (tk : TK H H') : StAt H' o L s := by
  obtain ⟨l1, l2, l3, vv, rfl, h⟩ := h
  have w : ∀ x ∈ [o, l1, l2, l3], x ∉ S := fun x hx m => n x m hx
  exact ⟨l1, l2, l3, vv, rfl, g _ _ (w o (by simp)) h.dict, g _ _ (w l1 (by simp)) h.shown, g _ _ (w l2 (by simp)) h.looks, g _ _ (w l3 (by simp)) h.views, pr_imp (fun _ _ => ViewAt.mono tk) h.vwP, h.nd⟩
theorem StAt.same (h : StAt H o L s) (g : Same H H') : StAt H' o L s := h.but (S := []) (.of g) (fun _ m => by cases m) (.of g)
theorem StAt.kind (h : StAt H o L s) : ∀ x ∈ L, (∃ xs, H x = some (.lst xs)) ∨ ∃ kvs, H x = some (.dK kvs) := by
  obtain ⟨l1, l2, l3, vv, rfl, h⟩ := h
  intro x hx
  simp only [List.mem_cons, List.not_mem_nil, or_false] at hx
  rcases hx with rfl | rfl | rfl | rfl
  · exact .inr ⟨_, h.dict⟩
  · exact .inl ⟨_, h.shown⟩
  · exact .inl ⟨_, h.looks⟩
  · exact .inl ⟨_, h.views⟩
theorem StAt.tk (h : StAt H o L s) (g : But L H H') : TK H H' := TK.but g fun a ha z => by
  rcases h.kind a ha with ⟨xs, e⟩ | ⟨xs, e⟩ <;> rw [e] at z <;> exact z
end
/-! ### promises -/
def spLot : Sp := fun vs H Q _ => ∃ (a : Addr) (l : List Nat), vs = [.ref a] ∧ TT H a (natV l) ∧ l.Pairwise (· < ·) ∧ l.length ≤ 5 ∧ ∀ H', Same H H' → Q (.bl true) H'
def spLies : Sp := fun vs H Q _ => ∃ (a b : Addr) (l m : List Nat), vs = [.ref a, .ref b] ∧ TT H a (natV l) ∧ TT H b (natV m) ∧ l.length ≤ 5 ∧ Sub l m ∧ ∀ H', Same H H' → Q (.bl true) H'
def spFit : Sp := fun vs H Q _ => ∃ (t u a b : Addr) (p q : Nat) (l m : List Nat), vs = [.ref t, .ref u] ∧ H t = some (.tup [.int (p : Nat), .ref a]) ∧ H u = some (.tup [.int (q : Nat), .ref b]) ∧ TT H a (natV l) ∧ TT H b (natV m) ∧ l.length ≤ 5 ∧ m.length ≤ 5 ∧
  (q ∈ l → Sub m l) ∧ (q ∉ l → Sub l m) ∧ ∀ H', Same H H' → Q (.bl true) H'
def spIsView : Sp := fun vs H Q _ => ∃ (n p : Nat) (a : Addr) (l : List Nat), vs = [.int n, .int p, .ref a] ∧ TT H a (natV l) ∧ l.Pairwise (· < ·) ∧ l.length ≤ 5 ∧ p ∈ l ∧ (∀ x ∈ l, x < n) ∧ ∀ H', Same H H' → Q (.bl true) H'
def LS.any (s : LS) : Bool := s.vw.any (·.isSome)
def spAtOnce : Sp := fun vs H Q _ => ∃ (b : Addr) (vv : List V) (s : LS), vs = [.int (s.n : Nat), .ref b] ∧ TF H b vv ∧ Paired (ViewAt H) vv s.vw ∧ s.WF ∧ ∀ H', Same H H' → Q (.bl s.any) H'
def spWeaving : Sp := fun vs H Q _ => ∃ (a : Addr) (ws : List Nat) (n : Nat), vs = [.ref a, .int n] ∧ TT H a (natV ws) ∧ (∀ p ∈ ws, p < n) ∧ ws.length ≤ 1000 ∧ ∀ H', Same H H' → Q (.bl true) H'
def spWeave (K : PySem.W.Frag) (C : Addr) : Sp := fun vs H Q _ => ∃ (d a : Addr) (ws : List Nat) (s : LS), vs = [.ref d, .ref a] ∧ LvAt K C H d s ∧ s.WF ∧ TT H a (natV ws) ∧ (∀ p ∈ ws, p < s.n) ∧ ws.length ≤ 1000 ∧ s.run.length < 10000 ∧
  ∀ t ys ds H', But [d] H H' → LvAt K C H' d (s.woven ws) → H' t = some (.tup ys) → Paired (SD K H') ys ds → (s.woven ws).run = s.run ++ ds → Q (.ref t) H'
def spLLen (K : PySem.W.Frag) (C : Addr) : Sp := fun vs H Q _ => ∃ (d : Addr) (s : LS), vs = [.ref d] ∧ LvAt K C H d s ∧ Q (.int (s.run.length : Nat)) H
def spSNext : Sp := fun vs H Q _ => ∃ (o : Addr) (L : List Addr) (p : Nat) (s : LS), vs = [.ref o, .int p] ∧ StAt H o L s ∧ s.WF ∧ p < s.n ∧ ∀ y H', Same H H' → DueAt H' y (s.next p) → Q y H'
def spSStep (K : PySem.W.Frag) : Sp := fun vs H Q _ => ∃ (o : Addr) (L : List Addr) (p : Nat) (s : LS), vs = [.ref o, .int p] ∧ StAt H o L s ∧ s.WF ∧ p < s.n ∧ s.next p ≠ none ∧
  ∀ t dd H', But L H H' → StAt H' o L (s.step p) → (s.step p).run = s.run ++ [dd] → SD K H' (.ref t) dd → Q (.ref t) H'
def spSFresh : Sp := fun vs H Q _ => ∃ n : Nat, vs = [.int n] ∧ 1 ≤ n ∧ n ≤ 5 ∧ ∀ o L H', Same H H' → (∀ x ∈ L, H x = none) → StAt H' o L (LS.new n) → Q (.ref o) H'
def spSWoven (K : PySem.W.Frag) : Sp := fun vs H Q _ => ∃ (o a : Addr) (L : List Addr) (ws : List Nat) (s : LS), vs = [.ref o, .ref a] ∧ StAt H o L s ∧ s.WF ∧ TT H a (natV ws) ∧ (∀ p ∈ ws, p < s.n) ∧ ws.length ≤ 1000 ∧
  ∀ t ys ds H', But L H H' → StAt H' o L (s.woven ws) → H' t = some (.tup ys) → Paired (SD K H') ys ds → (s.woven ws).run = s.run ++ ds → Q (.ref t) H'
def spWvg : Sp := fun vs H Q _ => ∃ (pt : Addr) (n k m : Nat), vs = [.ref pt, .int n, .int k] ∧ 1 ≤ n ∧ n ≤ 5 ∧ k ≤ 30 ∧ PotAt H pt m ∧ m < 800000 ∧ ∀ t ws H', But [pt] H H' → PotAt H' pt (m + 100) → H' t = some (.tup (natV ws)) → (∀ p ∈ ws, p < n) → ws.length ≤ 100 → Q (.ref t) H'
def spLInt : Sp := fun vs H Q _ => ∃ x a b : Int, vs = [.int x, .int a, .int b] ∧ a ≤ x ∧ x ≤ b ∧ Q (.bl true) H
def spLotOf : Sp := fun vs H Q _ => ∃ (a : Addr) (l : List Nat) (n : Nat), vs = [.ref a, .int n] ∧ TT H a (natV l) ∧ l.Pairwise (· < ·) ∧ l.length ≤ 5 ∧ (∀ x ∈ l, x < n) ∧ ∀ H', Same H H' → Q (.bl true) H'
end Fp
/-! values of any kind, of which only tuples and integers are looked into; rows of truths -/
namespace Fp
open PySem PySem.Spec PyProof.Rows L2
inductive Dt where
  | non
  | bl (b : Bool)
  | int (i : Int)
  | oth
  | tup (ds : List Dt)
mutual
inductive DV (H : Hp) : V → Dt → Prop where
  | non : DV H .non .non
  | bl (b : Bool) : DV H (.bl b) (.bl b)
  | int (i : Int) : DV H (.int i) (.int i)
  | str (z : Str) : DV H (.str z) .oth
  | lst {a : Addr} {xs : List V} : H a = some (.lst xs) → DV H (.ref a) .oth
  | dct {a : Addr} {kvs : List (Key × V)} : H a = some (.dK kvs) → DV H (.ref a) .oth
  | tup {a : Addr} {xs : List V} {ds : List Dt} : H a = some (.tup xs) → DVs H xs ds → ds.length ≤ 1000 → DV H (.ref a) (.tup ds)
inductive DVs (H : Hp) : List V → List Dt → Prop where
  | nil : DVs H [] []
  | cons {v vs d ds} : DV H v d → DVs H vs ds → DVs H (v :: vs) (d :: ds)
end
/-- tuples stay, lists and dicts stay such -/
structure DKp (H H' : Hp) : Prop where
  t : ∀ {a xs}, H a = some (.tup xs) → H' a = some (.tup xs)
  l : ∀ {a xs}, H a = some (.lst xs) → ∃ ys, H' a = some (.lst ys)
  d : ∀ {a} {xs : List (Key × V)}, H a = some (.dK xs) → ∃ ys : List (Key × V), H' a = some (.dK ys)
theorem DKp.refl (H : Hp) : DKp H H := ⟨fun h => h, fun h => ⟨_, h⟩, fun h => ⟨_, h⟩⟩
theorem DKp.trans {H H1 H2 : Hp} (a : DKp H H1) (b : DKp H1 H2) : DKp H H2 := ⟨fun h => b.t (a.t h), fun h => by
  obtain ⟨_, h⟩ := a.l h
  exact b.l h, fun h => by
  obtain ⟨_, h⟩ := a.d h
  exact b.d h⟩
theorem DKp.of {H H' : Hp} (g : Same H H') : DKp H H' := ⟨fun h => g _ _ h, fun h => ⟨_, g _ _ h⟩, fun h => ⟨_, g _ _ h⟩⟩
theorem DKp.but {S : List Addr} {H H' : Hp} (g : But S H H') (h : ∀ a ∈ S, (∃ xs, H a = some (.lst xs)) ∧ ∃ ys, H' a = some (.lst ys)) : DKp H H' := by
  refine ⟨fun {a xs} e => ?_, fun {a xs} e => ?_, fun {a xs} e => ?_⟩
  · by_cases m : a ∈ S
    · obtain ⟨⟨_, z⟩, _⟩ := h a m
      rw [z] at e; cases e
    · exact g _ _ m e
  · by_cases m : a ∈ S
    · exact (h a m).2
    · exact ⟨_, g _ _ m e⟩
  · by_cases m : a ∈ S
    · obtain ⟨⟨_, z⟩, _⟩ := h a m
      rw [z] at e; cases e
    · exact ⟨_, g _ _ m e⟩
theorem DKp.pot {p : Addr} {n m : Nat} {H H' : Hp} (g : But [p] H H') (h : PotAt H p n) (h' : PotAt H' p m) : DKp H H' := DKp.but g fun a ha => by
  rw [List.mem_singleton.mp ha]
  exact ⟨h.there, h'.there⟩
theorem DKp.put {H : Hp} {a : Addr} {xs ys : List V} (h : H a = some (.lst xs)) : DKp H (upd H a (.lst ys)) := DKp.but (S := [a]) ((But.refl _ _).put (by simp)) fun b hb => by
  rw [List.mem_singleton.mp hb]
  exact ⟨⟨_, h⟩, _, upd_same⟩
mutual
theorem DV.kd {H H' : Hp} (g : DKp H H') : ∀ {v : V} {d : Dt}, DV H v d → DV H' v d
  | _, _, .non => .non
  | _, _, .bl b => .bl b
  | _, _, .int i => .int i
  | _, _, .str z => .str z
  | _, _, .lst h => by
    obtain ⟨_, h⟩ := g.l h
    exact .lst h
  | _, _, .dct h => by
    obtain ⟨_, h⟩ := g.d h
    exact .dct h
  | _, _, .tup h t l => .tup (g.t h) (DVs.kd g t) l
theorem DVs.kd {H H' : Hp} (g : DKp H H') : ∀ {vs : List V} {ds : List Dt}, DVs H vs ds → DVs H' vs ds
  | _, _, .nil => .nil
  | _, _, .cons h t => .cons (DV.kd g h) (DVs.kd g t)
end
theorem DV.same {H H' : Hp} (g : Same H H') {v : V} {d : Dt} (h : DV H v d) : DV H' v d := h.kd (.of g)
theorem DVs.same {H H' : Hp} (g : Same H H') {v : List V} {d : List Dt} (h : DVs H v d) : DVs H' v d := h.kd (.of g)
theorem DVs.len {H : Hp} : ∀ {vs : List V} {ds : List Dt}, DVs H vs ds → vs.length = ds.length
  | _, _, .nil => rfl
  | _, _, .cons _ t => congrArg (· + 1) (DVs.len t)
theorem DVs.at_ {H : Hp} {v : V} : ∀ {i : Nat} {vs : List V} {ds : List Dt}, DVs H vs ds → vs[i]? = some v → ∃ d, ds[i]? = some d ∧ DV H v d
  | 0, _, _, .cons h t, e => by cases e; exact ⟨_, rfl, h⟩
  | i + 1, _, _, .cons h t, e => DVs.at_ (i := i) t e
  | _, _, _, .nil, e => by simp at e
theorem DVs.get {H : Hp} {d : Dt} : ∀ {i : Nat} {vs : List V} {ds : List Dt}, DVs H vs ds → ds[i]? = some d → ∃ v, vs[i]? = some v ∧ DV H v d
  | 0, _, _, .cons h t, e => by cases e; exact ⟨_, rfl, h⟩
  | i + 1, _, _, .cons h t, e => DVs.get (i := i) t e
  | _, _, _, .nil, e => by simp at e
theorem DVs.app {H : Hp} : ∀ {vs ws : List V} {ds es : List Dt}, DVs H vs ds → DVs H ws es → DVs H (vs ++ ws) (ds ++ es)
  | _, _, _, _, .nil, t => t
  | _, _, _, _, .cons h r, t => .cons h (DVs.app r t)
theorem DVs.take {H : Hp} : ∀ {n : Nat} {vs : List V} {ds : List Dt}, DVs H vs ds → DVs H (vs.take n) (ds.take n)
  | 0, _, _, _ => by simp; exact .nil
  | n + 1, _, _, .nil => by simp; exact .nil
  | n + 1, _, _, .cons h t => .cons h (DVs.take t)
theorem DVs.drop {H : Hp} : ∀ {n : Nat} {vs : List V} {ds : List Dt}, DVs H vs ds → DVs H (vs.drop n) (ds.drop n)
  | 0, _, _, h => h
  | n + 1, _, _, .nil => by simp; exact .nil
  | n + 1, _ :: _, _ :: _, .cons h t => by
    rw [List.drop_succ_cons, List.drop_succ_cons]
    exact DVs.drop (n := n) t
theorem DVs.rev {H : Hp} : ∀ {vs : List V} {ds : List Dt}, DVs H vs ds → DVs H vs.reverse ds.reverse
  | _, _, .nil => .nil
  | _, _, .cons h t => by
    rw [List.reverse_cons, List.reverse_cons]
    exact DVs.app (DVs.rev t) (.cons h .nil)
theorem DVs.set {H : Hp} {v : V} {d : Dt} (h : DV H v d) : ∀ {n : Nat} {vs : List V} {ds : List Dt}, DVs H vs ds → DVs H (vs.set n v) (ds.set n d)
  | _, _, _, .nil => by simp; exact .nil
  | 0, _, _, .cons _ t => .cons h t
  | n + 1, _, _, .cons g t => .cons g (DVs.set h t)
/-! ### kinds -/
def Dt.isInt : Dt → Bool
  | .int _ => true
  | _ => false
def Dt.isBl : Dt → Bool
  | .bl _ => true
  | _ => false
def Dt.isTup : Dt → Bool
  | .tup _ => true
  | _ => false
def Dt.isNon : Dt → Bool
  | .non => true
  | _ => false
def Dt.toInt : Dt → Int
  | .int i => i
  | _ => 0
def Dt.wnn : Dt → Bool
  | .int i => decide (0 ≤ i)
  | _ => false
theorem DV.ty {K : PySem.W.Frag} {H : Hp} {v : V} {d : Dt} (h : DV H v d) : ∃ t, TyX K H v t ∧ PySem.W.kitOne K t (.type "int") = some (d.isInt || d.isBl) ∧ PySem.W.kitOne K t (.type "bool") = some d.isBl ∧ PySem.W.kitOne K t (.type "tuple") = some d.isTup := by
  cases h with
  | non => exact ⟨.type "NoneType", .base .non, by first | rfl | decide +kernel | kernel_rfl, by first | rfl | decide +kernel | kernel_rfl, by first | rfl | decide +kernel | kernel_rfl⟩
  | int i => exact ⟨.type "int", .base (.int i), by first | rfl | decide +kernel | kernel_rfl, by first | rfl | decide +kernel | kernel_rfl, by first | rfl | decide +kernel | kernel_rfl⟩
  | bl b => exact ⟨.type "bool", .base (.bl b), by first | rfl | decide +kernel | kernel_rfl, by first | rfl | decide +kernel | kernel_rfl, by first | rfl | decide +kernel | kernel_rfl⟩
  | str z => exact ⟨.type "str", .base (.str z), by first | rfl | decide +kernel | kernel_rfl, by first | rfl | decide +kernel | kernel_rfl, by first | rfl | decide +kernel | kernel_rfl⟩
  | tup h _ _ => exact ⟨.type "tuple", .base (.tup h), by first | rfl | decide +kernel | kernel_rfl, by first | rfl | decide +kernel | kernel_rfl, by first | rfl | decide +kernel | kernel_rfl⟩
  | lst h => exact ⟨.type "list", .base (.lst h), by first | rfl | decide +kernel | kernel_rfl, by first | rfl | decide +kernel | kernel_rfl, by first | rfl | decide +kernel | kernel_rfl⟩
  | dct h => exact ⟨.type "dict", .base (.dK h), by first | rfl | decide +kernel | kernel_rfl, by first | rfl | decide +kernel | kernel_rfl, by first | rfl | decide +kernel | kernel_rfl⟩
theorem DV.non_iff {H : Hp} {v : V} {d : Dt} (h : DV H v d) : decide (v = .non) = d.isNon := by
  cases h <;> simp [Dt.isNon]
theorem not_t {b : Bool} (h : (!b) = true) : b = false := by cases b <;> first | rfl | cases h
theorem not_f {b : Bool} (h : ¬ (!b) = true) : b = true := by cases b <;> first | rfl | exact absurd rfl h
/-! ### rows of truths -/
theorem all_getD {α : Type} {p : α → Bool} {x : α} : ∀ {l : List α}, ((List.range l.length).all fun i => p (l.getD i x)) = l.all p := by
  intro l
  rw [Bool.eq_iff_iff, List.all_eq_true, List.all_eq_true]
  constructor
  · intro h y hy
    obtain ⟨i, hi⟩ := List.mem_iff_getElem?.mp hy
    have hl := (List.getElem?_eq_some_iff.mp hi).1
    have := h i (List.mem_range.mpr hl)
    rw [List.getD_eq_getElem?_getD, hi] at this
    exact this
  · intro h i hi
    have hl := List.mem_range.mp hi
    have : l.getD i x = l[i] := by rw [List.getD_eq_getElem?_getD, List.getElem?_eq_getElem hl] <;> rfl
    rw [this]
    exact h _ (List.getElem_mem hl)
theorem all_id_map {α : Type} (f : α → Bool) (l : List α) : (l.map f).all id = l.all f := by rw [List.all_map]; rfl
section
variable {J : It} {n : Nat} {G : Hp → Prop} {Y : Nat → Hp → V → Hp → Prop}
/-- a comprehension of truths, each known -/
theorem lc_bools (w : Walk J n G Y) (f : Nat → Bool) {g : TG} {tt : L2.TT} {te : TE} {vs : List Nat} {σ : L2.St} {H1 : Hp} {D : Addr} {Qd : Hp → Prop} (hD : H1 D = none) (hn : n < 10000000) (hG : ∀ H, Same H1 H → G H)
    (hs : ∀ i x H H', i < n → Same H1 H → Y i H x H' → ∀ (Q4 : VK) (N : Hp → Prop), (∀ H4, Same H H4 → Q4 (.bl (f i)) H4) → g x (wipe σ vs) H' fun σ2 H2 => wipe σ2 vs = wipe σ vs ∧ tt σ2 H2 fun b H3 => if b = true then te σ2 H3 Q4 else N H3)
    (hd : ∀ H, Same H1 H → H D = some (.lst (((List.range n).map f).map V.bl)) → Qd H) :
    ∃ W : Nat → Nat → Hp → Prop, (∃ m, W 0 m (upd H1 D (.lst []))) ∧ ∀ i m H, W i m H →
      (J.stop i H ∧ Qd H) ∨ (J.go i H ∧ ∃ Nx : Hp → Prop, (∀ H', Nx H' → ∃ m', m' < m ∧ W (i + 1) m' H') ∧ ∀ x H', J.yld i H x H' → g x (wipe σ vs) H' fun σ2 H2 => wipe σ2 vs = wipe σ vs ∧ tt σ2 H2 fun b H3 =>
        if b = true then te σ2 H3 fun y H4 => ∃ acc, H4 D = some (.lst acc) ∧ acc.length < sizeLine ∧ Nx (upd H4 D (.lst (acc ++ [y]))) else Nx H3) := by
  refine lc_it w (fun i H => Same H1 H ∧ H D = some (.lst (((List.range i).map f).map V.bl))) ⟨same_new hD _, upd_same⟩ (fun i H _ z => hG H z.1) (fun i x H H' hi z y => ?_) fun H z => hd H z.1 z.2
  refine hs i x H H' hi z.1 y _ _ fun H4 g4 => ?_
  refine ⟨_, g4 _ _ z.2, szt (by rw [List.length_map, List.length_map, List.length_range]; omega), fun b o q => ?_, ?_⟩
  · rw [upd_ne (ne_of_none q hD)]; exact g4 _ _ (z.1 _ _ q)
  · rw [upd_same, List.range_succ, List.map_append, List.map_append] <;> rfl
end
section
variable {J : It} {n : Nat} {G : Hp → Prop} {Y : Nat → Hp → V → Hp → Prop}
/-- a comprehension of values, each known -/
theorem lc_vals (w : Walk J n G Y) (f : Nat → V) {g : TG} {tt : L2.TT} {te : TE} {vs : List Nat} {σ : L2.St} {H1 : Hp} {D : Addr} {Qd : Hp → Prop} (hD : H1 D = none) (hn : n < 10000000) (hG : ∀ H, Same H1 H → G H)
    (hs : ∀ i x H H', i < n → Same H1 H → Y i H x H' → ∀ (Q4 : VK) (N : Hp → Prop), (∀ H4, Same H H4 → Q4 (f i) H4) → g x (wipe σ vs) H' fun σ2 H2 => wipe σ2 vs = wipe σ vs ∧ tt σ2 H2 fun b H3 => if b = true then te σ2 H3 Q4 else N H3)
    (hd : ∀ H, Same H1 H → H D = some (.lst ((List.range n).map f)) → Qd H) :
    ∃ W : Nat → Nat → Hp → Prop, (∃ m, W 0 m (upd H1 D (.lst []))) ∧ ∀ i m H, W i m H →
      (J.stop i H ∧ Qd H) ∨ (J.go i H ∧ ∃ Nx : Hp → Prop, (∀ H', Nx H' → ∃ m', m' < m ∧ W (i + 1) m' H') ∧ ∀ x H', J.yld i H x H' → g x (wipe σ vs) H' fun σ2 H2 => wipe σ2 vs = wipe σ vs ∧ tt σ2 H2 fun b H3 =>
        if b = true then te σ2 H3 fun y H4 => ∃ acc, H4 D = some (.lst acc) ∧ acc.length < sizeLine ∧ Nx (upd H4 D (.lst (acc ++ [y]))) else Nx H3) := by
  refine lc_it w (fun i H => Same H1 H ∧ H D = some (.lst ((List.range i).map f))) ⟨same_new hD _, upd_same⟩ (fun i H _ z => hG H z.1) (fun i x H H' hi z y => ?_) fun H z => hd H z.1 z.2
  refine hs i x H H' hi z.1 y _ _ fun H4 g4 => ?_
  refine ⟨_, g4 _ _ z.2, szt (by rw [List.length_map, List.length_range]; omega), fun b o q => ?_, ?_⟩
  · rw [upd_ne (ne_of_none q hD)]; exact g4 _ _ (z.1 _ _ q)
  · rw [upd_same, List.range_succ, List.map_append] <;> rfl
end
/-- all pairs of one list and another: truths, each known -/
def rowsB (f : Nat → Nat → Bool) (n m : Nat) : List Bool := (List.range n).flatMap fun i => (List.range m).map (f i)
theorem rowsB_all (f : Nat → Nat → Bool) (n m : Nat) : (rowsB f n m).all id = (List.range n).all fun i => (List.range m).all (f i) := by
  unfold rowsB
  rw [List.all_flatMap]
  congr 1
  funext i
  exact all_id_map _ _
theorem rowsB_succ (f : Nat → Nat → Bool) (n m : Nat) : rowsB f (n + 1) m = rowsB f n m ++ (List.range m).map (f n) := by
  unfold rowsB
  rw [List.range_succ, List.flatMap_append]; simp
theorem rowsB_len (f : Nat → Nat → Bool) : ∀ n m : Nat, (rowsB f n m).length = n * m
  | 0, m => by simp [rowsB]
  | n + 1, m => by rw [rowsB_succ, List.length_append, rowsB_len f n m, List.length_map, List.length_range, Nat.succ_mul]
theorem lc2_bools {K : PySem.W.Frag} {a b D : Addr} {xs ys : List V} {s0 i0 i1 : Nat} {te : TE} {vs vs1 : List Nat} {σ : L2.St} {H1 : Hp} {Qd : Hp → Prop} (f : Nat → Nat → Bool) (hD : H1 D = none) (ha : H1 a = some (.lst xs)) (hb : H1 b = some (.lst ys)) (hn : xs.length * ys.length < 1000000)
    (hv : ∀ x, ((wipe σ vs).set i0 (some x))[s0]? = some (some (.ref b))) (hw : ∀ x, wipe ((wipe σ vs).set i0 (some x)) vs = wipe σ vs) (hw1 : ∀ x y, wipe ((wipe ((wipe σ vs).set i0 (some x)) vs1).set i1 (some y)) vs1 = wipe ((wipe σ vs).set i0 (some x)) vs1)
    (hs : ∀ i j x y H, xs[i]? = some x → ys[j]? = some y → Same H1 H → ∀ Q4 : VK, (∀ H4, Same H H4 → Q4 (.bl (f i j)) H4) → te ((wipe ((wipe σ vs).set i0 (some x)) vs1).set i1 (some y)) H Q4)
    (hd : ∀ H, Same H1 H → H D = some (.lst ((rowsB f xs.length ys.length).map V.bl)) → Qd H) :
    ∃ W : Nat → Nat → Hp → Prop, (∃ m, W 0 m (upd H1 D (.lst []))) ∧ ∀ i m H, W i m H →
      ((Itl K a).stop i H ∧ Qd H) ∨ ((Itl K a).go i H ∧ ∃ Nx : Hp → Prop, (∀ H', Nx H' → ∃ m', m' < m ∧ W (i + 1) m' H') ∧ ∀ x H', (Itl K a).yld i H x H' → gName i0 x (wipe σ vs) H' fun σ2 H2 => wipe σ2 vs = wipe σ vs ∧ tYes σ2 H2 fun b H3 =>
        if b = true then iList K (tVar s0) σ2 H3 fun J1 H4 => ∃ W1 : Nat → Nat → Hp → Prop, (∃ m, W1 0 m H4) ∧ ∀ j k H, W1 j k H →
          (J1.stop j H ∧ Nx H) ∨ (J1.go j H ∧ ∃ Nx1 : Hp → Prop, (∀ H', Nx1 H' → ∃ k', k' < k ∧ W1 (j + 1) k' H') ∧ ∀ x H', J1.yld j H x H' → gName i1 x (wipe σ2 vs1) H' fun σ3 H5 => wipe σ3 vs1 = wipe σ2 vs1 ∧ tYes σ3 H5 fun b H6 =>
            if b = true then te σ3 H6 fun y H7 => ∃ acc, H7 D = some (.lst acc) ∧ acc.length < sizeLine ∧ Nx1 (upd H7 D (.lst (acc ++ [y]))) else Nx1 H6)
        else Nx H3) := by
  have w1 := walk_list (K := K) (a := a) (xs := xs)
  have w2 := walk_list (K := K) (a := b) (xs := ys)
  refine ⟨fun i m H' => m = xs.length - i ∧ i ≤ xs.length ∧ Same H1 H' ∧ H' D = some (.lst ((rowsB f i ys.length).map V.bl)), ⟨_, rfl, Nat.zero_le _, same_new hD _, upd_same⟩, ?_⟩
  rintro i m H3 ⟨rfl, hi, g3, h3⟩
  by_cases hlt : i < xs.length
  rotate_left
  · have e : i = xs.length := by omega
    subst e
    exact .inl ⟨w1.stops H3 (.of (g3 _ _ ha)), hd _ g3 h3⟩
  refine .inr ⟨w1.goes i H3 hlt (.of (g3 _ _ ha)), fun H' => i + 1 ≤ xs.length ∧ Same H1 H' ∧ H' D = some (.lst ((rowsB f (i + 1) ys.length).map V.bl)), fun H' z => ⟨xs.length - (i + 1), by omega, rfl, z.1, z.2⟩, fun x H' hy => ?_⟩
  obtain ⟨rfl, hx⟩ := w1.yields i H3 x H' hlt (.of (g3 _ _ ha)) hy
  refine ⟨hw x, ?_⟩
  unfold tYes
  refine iteT ⟨_, hv x, b, rfl, ⟨_, .of (g3 _ _ hb)⟩, ?_⟩
  refine ⟨fun j m H' => m = ys.length - j ∧ j ≤ ys.length ∧ Same H1 H' ∧ H' D = some (.lst ((rowsB f i ys.length ++ (List.range j).map (f i)).map V.bl)), ⟨_, rfl, Nat.zero_le _, g3, by rw [h3]; simp⟩, ?_⟩
  rintro j m H4 ⟨rfl, hj, g4, h4⟩
  by_cases hjt : j < ys.length
  rotate_left
  · have e : j = ys.length := by omega
    subst e
    exact .inl ⟨w2.stops H4 (.of (g4 _ _ hb)), hlt, g4, by rw [h4, rowsB_succ]⟩
  refine .inr ⟨w2.goes j H4 hjt (.of (g4 _ _ hb)), fun H' => j + 1 ≤ ys.length ∧ Same H1 H' ∧ H' D = some (.lst ((rowsB f i ys.length ++ (List.range (j + 1)).map (f i)).map V.bl)), fun H' z => ⟨ys.length - (j + 1), by omega, rfl, z.1, z.2⟩, fun y H' hy => ?_⟩
  obtain ⟨rfl, hyy⟩ := w2.yields j H4 y H' hjt (.of (g4 _ _ hb)) hy
  refine ⟨hw1 x y, ?_⟩
  refine iteT ?_
  refine hs i j x y _ hx hyy g4 _ fun H5 g5 => ?_
  refine ⟨_, g5 _ _ h4, szt ?_, hjt, fun c o q => ?_, ?_⟩
  · rw [List.length_map, List.length_append, rowsB_len, List.length_map, List.length_range]
    have : i * ys.length ≤ xs.length * ys.length := Nat.mul_le_mul_right _ hi
    have : ys.length ≤ xs.length * ys.length := Nat.le_mul_of_pos_left _ (by omega)
    omega
  · rw [upd_ne (ne_of_none q hD)]; exact g5 _ _ (g4 _ _ q)
  · rw [upd_same, List.range_succ]
    simp
/-! ### slices and sums of tuples, whichever object tells them -/
section
variable {K : PySem.W.Frag} {a b : Addr} {xs ys : List V} {H : Hp} {Q : VK}
theorem slA_any {lo hi : Option Int} (h : H a = some (.tup xs)) (k : ∀ b H', Same H H' → H' b = some (.tup (cutV xs lo hi)) → Q (.ref b) H') : rSlA K (.ref a) lo hi H Q := by
  refine ⟨a, xs, rfl, .of h, fun z => k a H (Same.refl _) ?_, fun z p hp => k p _ (same_new hp _) upd_same⟩
  have e : cutV xs lo hi = xs := by
    unfold cutV
    rw [z.1, z.2, List.drop_zero]
    exact List.take_of_length_le (by omega)
  rw [e]; exact h
theorem noP_in {σ : L2.St} {k : Option Int → Hp → Prop} (h : k none H) : tNoPart σ H k := h
theorem catA_any (ha : H a = some (.tup xs)) (hb : H b = some (.tup ys)) (hl : xs.length + ys.length ≤ 10000000) (k : ∀ c H', Same H H' → H' c = some (.tup (xs ++ ys)) → Q (.ref c) H') : rCatA K (.ref a) (.ref b) H Q := by
  refine ⟨a, b, xs, ys, rfl, rfl, .of ha, .of hb, szl hl, fun z => k b H (Same.refl _) ?_, fun _ z => k a H (Same.refl _) ?_, fun _ _ p hp => k p _ (same_new hp _) upd_same⟩
  · rw [z]; exact hb
  · rw [z, List.append_nil]; exact ha
theorem cutA_from {n : Nat} : cutV xs (some ((n : Nat) : Int)) none = xs.drop n := by
  have h1 : HT.sIx xs.length 0 (some ((n : Nat) : Int)) = min n xs.length := HT.sIx_nat _ _ n
  have h2 : HT.sIx xs.length xs.length none = xs.length := rfl
  unfold cutV
  rw [h1, h2]
  by_cases c : n ≤ xs.length
  · rw [Nat.min_eq_left c]; exact List.take_of_length_le (by rw [List.length_drop]; omega)
  · rw [Nat.min_eq_right (by omega), List.drop_of_length_le (by omega : xs.length ≤ n), List.drop_length, List.take_nil]
theorem cutA_to {n : Nat} : cutV xs none (some ((n : Nat) : Int)) = xs.take n := by
  have h1 : HT.sIx xs.length xs.length (some ((n : Nat) : Int)) = min n xs.length := HT.sIx_nat _ _ n
  have h2 : HT.sIx xs.length 0 none = 0 := rfl
  unfold cutV
  rw [h1, h2, List.drop_zero, Nat.sub_zero]
  by_cases c : n ≤ xs.length
  · rw [Nat.min_eq_left c]
  · rw [Nat.min_eq_right (by omega), List.take_length, List.take_of_length_le (by omega)]
end
/-! ### None in a tuple -/
def rInT (K : PySem.W.Frag) (neg : Bool) : R2 := fun x y H Q => ∃ d ds, Dp K H x d ∧ Dp K H y (.tuple ds) ∧ SeqAt.shaped d = true ∧ SeqAt.shaped (.tuple ds) = true ∧ Q (.bl (if neg then !(ds.any fun z => PyData.eqv z d) else ds.any fun z => PyData.eqv z d)) H
section
variable {X : Cx}
theorem op_inT {K : PySem.W.Frag} (hu : X.A.units + 65 < cLine) (e : X.K = K := by rfl) : OpR X (compareOp .In) (rInT K false) := by
  subst e
  intro pins s σ H x y v u Q I rx ry h
  obtain ⟨d, ds, hd, he, sd, se, q⟩ := h
  obtain ⟨as, r1⟩ := Dp.reads I d x v hd rx
  obtain ⟨bs, r2⟩ := Dp.reads I (.tuple ds) y u he ry
  exact SeqAt.in_tuple_reads r2 r1 (SeqAt.canLay_of_shaped se) (SeqAt.canLay_of_shaped sd) (room_in_shaped sd hu) ⟨.bl _, H, I, rfl, q⟩
theorem op_notInT {K : PySem.W.Frag} (hu : X.A.units + 65 < cLine) (e : X.K = K := by rfl) : OpR X (compareOp .NotIn) (rInT K true) := by
  subst e
  intro pins s σ H x y v u Q I rx ry h
  obtain ⟨d, ds, hd, he, sd, se, q⟩ := h
  obtain ⟨as, r1⟩ := Dp.reads I d x v hd rx
  obtain ⟨bs, r2⟩ := Dp.reads I (.tuple ds) y u he ry
  exact SeqAt.notIn_tuple_reads r2 r1 (SeqAt.canLay_of_shaped se) (SeqAt.canLay_of_shaped sd) (room_in_shaped sd hu) ⟨.bl _, H, I, rfl, q⟩
end
end Fp
/-! rows of views, as data: what the program asks, what the law asks, and that both are one -/
namespace Fp
open PySem PySem.Spec PyProof.Rows L2
def adjLt (l : List Int) : Bool := (List.range (l.length - 1)).all fun i => decide (l.getD i 0 < l.getD (i + 1) 0)
theorem getD_lt {l : List Int} {i : Nat} (h : i < l.length) : l.getD i 0 = l[i] := by rw [List.getD_eq_getElem?_getD, List.getElem?_eq_getElem h] <;> rfl
theorem adjLt_iff : ∀ {l : List Int}, adjLt l = true ↔ l.Pairwise (· < ·)
  | [] => by simp [adjLt]
  | [a] => by simp [adjLt]
  | a :: b :: r => by
    have ih := adjLt_iff (l := b :: r)
    have e : adjLt (a :: b :: r) = (decide (a < b) && adjLt (b :: r)) := by
      unfold adjLt
      rw [show (a :: b :: r).length - 1 = r.length + 1 by simp, List.range_succ_eq_map, List.all_cons, List.all_map]
      simp [Function.comp_def]
    rw [e, Bool.and_eq_true, ih, decide_eq_true_iff]
    constructor
    · rintro ⟨h1, h2⟩
      refine List.pairwise_cons.mpr ⟨fun x hx => ?_, h2⟩
      rcases List.mem_cons.mp hx with rfl | hx
      · exact h1
      · exact Int.lt_trans h1 ((List.pairwise_cons.mp h2).1 x hx)
    · intro h
      exact ⟨(List.pairwise_cons.mp h).1 b (by simp), (List.pairwise_cons.mp h).2⟩
def lotOf : Dt → List Int
  | .tup ds => ds.map Dt.toInt
  | _ => []
def lotB : Dt → Bool
  | .tup ds => ds.all Dt.wnn && adjLt (ds.map Dt.toInt)
  | _ => false
def viewB (n h : Int) (d : Dt) : Bool := lotB d && (decide (h ∈ lotOf d) && decide ((lotOf d).getLastD 0 < n))
def fitB (p q : Int × List Int) : Bool := if q.1 ∈ p.2 then q.2.all (fun x => decide (x ∈ p.2)) else p.2.all (fun x => decide (x ∈ q.2))
/-- where a row has views -/
def thr (ds : List Dt) : List Nat := (List.range ds.length).filter fun i => !(ds.getD i .non).isNon
def vwAt (ds : List Dt) (i : Nat) : List Int := lotOf (ds.getD i .non)
def prs (ds : List Dt) : List (Int × List Int) := (thr ds).map fun i : Nat => (((i : Nat) : Int), vwAt ds i)
def vwsB (n : Int) (ds : List Dt) : Bool := (List.range ds.length).all fun i => (ds.getD i .non).isNon || viewB n i (ds.getD i .non)
def atB (n : Nat) : Dt → Bool
  | .tup ds => decide (ds.length = n) && (vwsB n ds && (decide (0 < (prs ds).length) && (prs ds).all fun p => (prs ds).all fun q => fitB p q))
  | _ => false
def hasNon : Dt → Bool
  | .tup ds => ds.any Dt.isNon
  | _ => false
def wholeB (n : Nat) (d : Dt) : Bool := atB n d && !hasNon d
/-- the law's own look -/
def inB (n : Int) (d : Dt) : Bool := d.isInt && decide (0 ≤ d.toInt ∧ d.toInt ≤ n)
def lotOfB (n : Int) : Dt → Bool
  | .tup ds => ds.all (inB (n - 1)) && adjLt (ds.map Dt.toInt)
  | _ => false
def withinB (l m : List Int) : Bool := l.all fun x => decide (x ∈ m)
def okPair (ds : List Dt) (i j : Nat) : Bool :=
  (withinB (vwAt ds i) (vwAt ds j) || withinB (vwAt ds j) (vwAt ds i)) && !(decide (((i : Nat) : Int) ∈ vwAt ds j) && !withinB (vwAt ds i) (vwAt ds j))
def lawVw (n : Int) (ds : List Dt) (i : Nat) : Bool := lotOfB n (ds.getD i .non) && decide ((i : Int) ∈ vwAt ds i)
def lawRowB (n : Nat) : Dt → Bool
  | .tup ds => (decide (ds.length = n) && !(ds.all Dt.isNon)) && ((thr ds).all (lawVw n ds) && (thr ds).all fun i => (thr ds).all fun j => okPair ds i j)
  | _ => false
theorem mem_thr {ds : List Dt} {i : Nat} : i ∈ thr ds ↔ i < ds.length ∧ (ds.getD i .non).isNon = false := by
  unfold thr
  rw [List.mem_filter, List.mem_range]
  simp
theorem last_lt {l : List Int} (hp : l.Pairwise (· < ·)) (x : Int) (hx : x ∈ l) : x ≤ l.getLastD 0 := by
  rcases List.eq_nil_or_concat l with rfl | ⟨l0, z, e⟩
  · cases hx
  · rw [List.concat_eq_append] at e
    subst e
    rw [List.getLastD_eq_getLast?, List.getLast?_append]
    simp only [List.getLast?_singleton, Option.some_or, Option.getD_some]
    rcases List.mem_append.mp hx with h | h
    · exact Int.le_of_lt ((List.pairwise_append.mp hp).2.2 x h z (by simp))
    · rw [List.mem_singleton.mp h]; exact Int.le_refl _
theorem last_mem {l : List Int} (h : l ≠ []) : l.getLastD 0 ∈ l := by
  rcases List.eq_nil_or_concat l with rfl | ⟨l0, z, e⟩
  · exact absurd rfl h
  · rw [List.concat_eq_append] at e
    subst e
    rw [List.getLastD_eq_getLast?, List.getLast?_append]
    simp
theorem wnn_iff {x : Dt} : x.wnn = true ↔ x.isInt = true ∧ 0 ≤ x.toInt := by
  cases x <;> simp [Dt.wnn, Dt.isInt, Dt.toInt]
theorem inB_iff {n : Int} {x : Dt} : inB n x = true ↔ x.isInt = true ∧ 0 ≤ x.toInt ∧ x.toInt ≤ n := by
  unfold inB
  rw [Bool.and_eq_true, decide_eq_true_iff]
theorem lotB_tup {es : List Dt} : lotB (.tup es) = true ↔ (∀ x ∈ es, x.isInt = true ∧ 0 ≤ x.toInt) ∧ (es.map Dt.toInt).Pairwise (· < ·) := by
  show (es.all Dt.wnn && adjLt (es.map Dt.toInt)) = true ↔ _
  rw [Bool.and_eq_true, List.all_eq_true, adjLt_iff]
  exact and_congr (forall_congr' fun x => forall_congr' fun _ => wnn_iff) Iff.rfl
theorem lotOfB_tup {n : Int} {es : List Dt} : lotOfB n (.tup es) = true ↔ (∀ x ∈ es, x.isInt = true ∧ 0 ≤ x.toInt ∧ x.toInt ≤ n - 1) ∧ (es.map Dt.toInt).Pairwise (· < ·) := by
  show (es.all (inB (n - 1)) && adjLt (es.map Dt.toInt)) = true ↔ _
  rw [Bool.and_eq_true, List.all_eq_true, adjLt_iff]
  exact and_congr (forall_congr' fun x => forall_congr' fun _ => inB_iff) Iff.rfl
theorem viewB_iff {n h : Int} {d : Dt} : viewB n h d = true ↔ lotB d = true ∧ h ∈ lotOf d ∧ (lotOf d).getLastD 0 < n := by
  unfold viewB
  rw [Bool.and_eq_true, Bool.and_eq_true, decide_eq_true_iff, decide_eq_true_iff]
theorem lawVw_iff {n : Int} {ds : List Dt} {i : Nat} : lawVw n ds i = true ↔ lotOfB n (ds.getD i .non) = true ∧ ((i : Nat) : Int) ∈ lotOf (ds.getD i .non) := by
  unfold lawVw vwAt
  rw [Bool.and_eq_true, decide_eq_true_iff]
theorem view_one {n h : Int} {d : Dt} : viewB n h d = true ↔ lotOfB n d = true ∧ h ∈ lotOf d := by
  rw [viewB_iff]
  cases d with
  | tup es =>
    rw [lotB_tup, lotOfB_tup]
    show _ ∧ h ∈ es.map Dt.toInt ∧ (es.map Dt.toInt).getLastD 0 < n ↔ _ ∧ h ∈ es.map Dt.toInt
    constructor
    · rintro ⟨⟨h1, h2⟩, h3, h4⟩
      refine ⟨⟨fun x hx => ?_, h2⟩, h3⟩
      have l := last_lt h2 x.toInt (List.mem_map.mpr ⟨_, hx, rfl⟩)
      obtain ⟨a, b⟩ := h1 x hx
      exact ⟨a, b, by omega⟩
    · rintro ⟨⟨h1, h2⟩, h3⟩
      refine ⟨⟨fun x hx => ⟨(h1 x hx).1, (h1 x hx).2.1⟩, h2⟩, h3, ?_⟩
      have hm := last_mem (l := es.map Dt.toInt) (fun z => by rw [z] at h3; cases h3)
      obtain ⟨x, hx, e⟩ := List.mem_map.mp hm
      have hw := (h1 x hx).2.2
      rw [← e]
      omega
  | non => exact ⟨fun z => (by cases z.1), fun z => (by cases z.1)⟩
  | bl _ => exact ⟨fun z => (by cases z.1), fun z => (by cases z.1)⟩
  | int _ => exact ⟨fun z => (by cases z.1), fun z => (by cases z.1)⟩
  | oth => exact ⟨fun z => (by cases z.1), fun z => (by cases z.1)⟩
theorem view_law {n : Int} {ds : List Dt} {i : Nat} : viewB n i (ds.getD i .non) = lawVw n ds i := by
  rw [Bool.eq_iff_iff, lawVw_iff, view_one]
theorem vws_thr {n : Int} {ds : List Dt} : vwsB n ds = (thr ds).all (lawVw n ds) := by
  unfold vwsB
  rw [Bool.eq_iff_iff, List.all_eq_true, List.all_eq_true]
  constructor
  · intro h i hi
    obtain ⟨h1, h2⟩ := mem_thr.mp hi
    have := h i (List.mem_range.mpr h1)
    rw [h2, Bool.false_or, view_law] at this
    exact this
  · intro h i hi
    cases e : (ds.getD i .non).isNon with
    | true => rfl
    | false =>
      rw [Bool.false_or, view_law]
      exact h i (mem_thr.mpr ⟨List.mem_range.mp hi, e⟩)
theorem within_iff {l m : List Int} : withinB l m = true ↔ ∀ x ∈ l, x ∈ m := by
  unfold withinB
  simp
theorem fit_iff {a b : Int} {l m : List Int} : fitB (a, l) (b, m) = true ↔ (b ∈ l → ∀ x ∈ m, x ∈ l) ∧ (b ∉ l → ∀ x ∈ l, x ∈ m) := by
  unfold fitB
  dsimp only
  by_cases h : b ∈ l
  · rw [if_pos h]; simp [h]
  · rw [if_neg h]; simp [h]
theorem pair_iff {ds : List Dt} {i j : Nat} : okPair ds i j = true ↔ ((∀ x ∈ vwAt ds i, x ∈ vwAt ds j) ∨ ∀ x ∈ vwAt ds j, x ∈ vwAt ds i) ∧ ((i : Int) ∈ vwAt ds j → ∀ x ∈ vwAt ds i, x ∈ vwAt ds j) := by
  unfold okPair
  rw [Bool.and_eq_true, Bool.or_eq_true, within_iff, within_iff]
  refine and_congr Iff.rfl ?_
  rw [Bool.not_eq_true', Bool.and_eq_false_iff, decide_eq_false_iff_not, Bool.not_eq_false', within_iff]
  by_cases h : (i : Int) ∈ vwAt ds j <;> simp [h]
/-- both looks are one -/
theorem fits_pairs {n : Int} {ds : List Dt} (hv : (thr ds).all (lawVw n ds) = true) : ((prs ds).all fun p => (prs ds).all fun q => fitB p q) = (thr ds).all fun i => (thr ds).all fun j => okPair ds i j := by
  have own : ∀ i ∈ thr ds, (i : Int) ∈ vwAt ds i := fun i hi => by
    have := List.all_eq_true.mp hv i hi
    unfold lawVw at this
    rw [Bool.and_eq_true, decide_eq_true_eq] at this
    exact this.2
  unfold prs
  rw [List.all_map, Bool.eq_iff_iff]
  simp only [List.all_eq_true, Function.comp_apply, List.all_map]
  constructor
  · intro h i hi j hj
    have a := fit_iff.mp (h i hi j hj)
    have b := fit_iff.mp (h j hj i hi)
    refine pair_iff.mpr ⟨?_, b.1⟩
    by_cases c : (j : Int) ∈ vwAt ds i
    · exact .inr (a.1 c)
    · exact .inl (a.2 c)
  · intro h i hi j hj
    have a := pair_iff.mp (h i hi j hj)
    have b := pair_iff.mp (h j hj i hi)
    refine fit_iff.mpr ⟨b.2, fun c => ?_⟩
    rcases a.1 with z | z
    · exact z
    · exact absurd (z _ (own j hj)) c
theorem law_row {n : Nat} (hn : 0 < n) : ∀ d, lawRowB n d = atB n d
  | .tup ds => by
    unfold lawRowB atB
    dsimp only
    by_cases hl : ds.length = n
    · rw [decide_eq_true hl, Bool.true_and, Bool.true_and, vws_thr]
      cases hv : (thr ds).all (lawVw n ds) with
      | false => rw [Bool.false_and, Bool.false_and, Bool.and_false]
      | true =>
        rw [Bool.true_and, Bool.true_and, fits_pairs hv]
        congr 1
        rw [Bool.eq_iff_iff, decide_eq_true_eq, Bool.not_eq_true', List.all_eq_false]
        unfold prs
        rw [List.length_map, List.length_pos_iff_exists_mem]
        constructor
        · rintro ⟨d, hd, h⟩
          obtain ⟨i, hi⟩ := List.mem_iff_getElem?.mp hd
          refine ⟨i, mem_thr.mpr ⟨(List.getElem?_eq_some_iff.mp hi).1, ?_⟩⟩
          rw [List.getD_eq_getElem?_getD, hi]
          simpa using h
        · rintro ⟨i, hi⟩
          obtain ⟨h1, h2⟩ := mem_thr.mp hi
          refine ⟨ds[i], List.getElem_mem h1, ?_⟩
          rw [List.getD_eq_getElem?_getD, List.getElem?_eq_getElem h1] at h2
          simp only [Option.getD_some] at h2
          rw [h2]; simp
    · rw [decide_eq_false hl]
      rfl
  | .non => rfl
  | .bl _ => rfl
  | .int _ => rfl
  | .oth => rfl
end Fp
namespace Fp
open PySem PySem.Spec PyProof.Rows L2
def top (i : Nat) : Stmt := PySem.Challenge.pw_fewplaymany_k28_whole_a_weaving_to_each.main.body.getD i (.Pass ⟨0, 0, 0, 0⟩)
structure RTx (mg : Str → Option Value) : Prop where
  isinstance : mg "isinstance" = none
  int : mg "int" = none
  bool : mg "bool" = none
  tuple : mg "tuple" = none
  list : mg "list" = none
  all : mg "all" = none
  any : mg "any" = none
  len : mg "len" = none
  sum : mg "sum" = none
  abs : mg "abs" = none
  max : mg "max" = none
  min : mg "min" = none
  range : mg "range" = none
  repr : mg "repr" = none
  set : mg "set" = none
  sorted : mg "sorted" = none
  zip : mg "zip" = none
  enumerate : mg "enumerate" = none
  c_MOST_HANDS : ∃ t, mg "MOST_HANDS" = some (.int 5 t)
  c_MOST_WEAVING : ∃ t, mg "MOST_WEAVING" = some (.int 3000 t)
def spWhD : Sp := fun vs H Q _ => ∃ v d, vs = [v] ∧ DV H v d ∧ Q (.bl d.isInt) H
def spLotD : Sp := fun vs H Q _ => ∃ v d, vs = [v] ∧ DV H v d ∧ ∀ H', Same H H' → Q (.bl (lotB d)) H'
def spViewD : Sp := fun vs H Q _ => ∃ (n h : Int) (v : V) (d : Dt), vs = [.int n, .int h, v] ∧ DV H v d ∧ ∀ H', Same H H' → Q (.bl (viewB n h d)) H'
def spLiesD : Sp := fun vs H Q _ => ∃ (a b : Addr) (l m : List Int), vs = [.ref a, .ref b] ∧ H a = some (.tup (l.map V.int)) ∧ H b = some (.tup (m.map V.int)) ∧ l.length ≤ 1000 ∧ ∀ H', Same H H' → Q (.bl (withinB l m)) H'
def spFitD : Sp := fun vs H Q _ => ∃ (t u a b : Addr) (p q : Int) (l m : List Int), vs = [.ref t, .ref u] ∧ H t = some (.tup [.int p, .ref a]) ∧ H u = some (.tup [.int q, .ref b]) ∧ H a = some (.tup (l.map V.int)) ∧ H b = some (.tup (m.map V.int)) ∧ l.length ≤ 1000 ∧ m.length ≤ 1000 ∧ ∀ H', Same H H' → Q (.bl (fitB (p, l) (q, m))) H'
def spChkD : Sp := fun vs H Q _ => ∃ n : Nat, vs = [.int n] ∧ 1 ≤ n ∧ n ≤ 5 ∧ Q .non H
def spAtD : Sp := fun vs H Q _ => ∃ (n : Nat) (v : V) (d : Dt), vs = [.int n, v] ∧ 1 ≤ n ∧ n ≤ 5 ∧ DV H v d ∧ ∀ H', Same H H' → Q (.bl (atB n d)) H'
def spRowD : Sp := fun vs H Q _ => ∃ (n : Nat) (v : V) (d : Dt), vs = [.int n, v] ∧ 1 ≤ n ∧ n ≤ 5 ∧ DV H v d ∧ ∀ H', Same H H' → Q (.bl (wholeB n d)) H'
theorem int_flat : ∀ l : List Int, (l.map V.int).all flatV = true
  | [] => rfl
  | a :: l => by
    show (flatV (V.int a) && (l.map V.int).all flatV) = true
    rw [int_flat l]; rfl
theorem inV_int (p : Int) (l : List Int) : inV (.int p) (l.map V.int) = decide (p ∈ l) := by
  unfold inV
  rw [List.any_map, Bool.eq_iff_iff, List.any_eq_true, decide_eq_true_iff]
  have e : ∀ a b : Int, eqV (V.int a) (V.int b) = true ↔ a = b := fun a b => by
    show (a == b) = true ↔ a = b
    rw [beq_iff_eq]
  constructor
  · rintro ⟨x, hx, h⟩
    have := (e x p).mp h
    rw [← this]; exact hx
  · intro h
    exact ⟨p, h, (e p p).mpr rfl⟩
theorem inI (p : Int) (l : List Int) : (if false = true then !inV (.int p) (l.map V.int) else inV (.int p) (l.map V.int)) = decide (p ∈ l) := by rw [inV_int]; rfl
theorem op_in_seqK {X : Cx} {K : PySem.W.Frag} (e : X.K = K := by rfl) : OpR X (compareOp .In) (rIn K false) := by subst e; exact op_in_seq
/-- a lot's values -/
theorem DVs.ints {H : Hp} : ∀ {xs : List V} {ds : List Dt}, DVs H xs ds → (∀ x ∈ ds, x.isInt = true) → xs = (ds.map Dt.toInt).map V.int
  | _, _, .nil, _ => rfl
  | _, _, .cons h t, k => by
    have e := DVs.ints t fun x hx => k x (List.mem_cons_of_mem _ hx)
    have i := k _ List.mem_cons_self
    cases h with
    | int i => rw [e]; rfl
    | _ => cases i
theorem DV.lot {H : Hp} {v : V} {d : Dt} (h : DV H v d) (l : lotB d = true) : ∃ a, v = .ref a ∧ H a = some (.tup ((lotOf d).map V.int)) ∧ (lotOf d).length ≤ 1000 := by
  cases h with
  | @tup a xs ds ha t hl =>
    have := DVs.ints t fun x hx => ((lotB_tup.mp l).1 x hx).1
    rw [this] at ha
    exact ⟨a, rfl, ha, by show (ds.map Dt.toInt).length ≤ _; rw [List.length_map]; exact hl⟩
  | _ => cases l
section
variable {P : Program} {w : World} {K : PySem.W.Frag} {mg : Str → Option Value} {base : Heap} {f : Addr} {fd : FuncData} {C : Addr}
abbrev s_is_whole : Stmt := top 10
theorem sc_is_whole : FnScope ["value"] ["value"] (defScope s_is_whole) := ⟨rfl, rfl, rfl, by decide +kernel, rfl, by decide +kernel, by decide +kernel⟩
theorem ok_is_whole (F : Fun K "is_whole" "is_whole" s_is_whole f fd) (T : RTx mg) : FnOk P w K mg base CX0 1 f fd ["value"] spWhD := by
  refine F.ok sc_is_whole (fun vs H Q E h => ?_) (fun cdv A outer s H vs Q E hr h => ?_)
  · obtain ⟨v, d, rfl, _⟩ := h
    rfl
  obtain ⟨v, d, rfl, hd, q⟩ := h
  refine ⟨_, (pss_one (ps_ret (pe_and (pe_callB call_isi rfl T.isinstance (by decide +kernel) (pa_cons (pv 0) (pa_cons (pe_bltn (v := .ty "int") rfl T.int boot_int rfl) pa_nil))) (pe_one (pe_not (pe_callB call_isi rfl T.isinstance (by decide +kernel) (pa_cons (pv 0) (pa_cons (pe_bltn (v := .ty "bool") rfl T.bool boot_bool rfl) pa_nil)))))))), ?_⟩
  obtain ⟨t, ty, k1, k2, _⟩ := hd.ty (K := K)
  refine ⟨_, rfl, _, _, _, _, _, rfl, .ty "int", ty, k1, _, rfl, ite2 (fun c => ?_) (fun c => ?_)⟩
  · refine ⟨_, rfl, _, _, _, _, _, rfl, .ty "bool", ty, k2, _, rfl, ?_⟩
    have e : d.isInt = !d.isBl := by cases d <;> first | rfl | cases c
    rw [e] at q
    exact q
  · have e : d.isInt = false := by cases d <;> first | rfl | exact absurd rfl c
    rw [e] at q
    exact q
abbrev s_check_many : Stmt := top 21
theorem sc_check_many : FnScope ["many"] ["many"] (defScope s_check_many) := ⟨rfl, rfl, rfl, by decide +kernel, rfl, by decide +kernel, by decide +kernel⟩
theorem ok_check_many (F : Fun K "check_many" "check_many" s_check_many f fd) (T : RTx mg) (G_is_whole : Fd P w K mg base CX0 "is_whole" 1 ["value"] spWhD) : FnOk P w K mg base CX0 2 f fd ["many"] spChkD := by
  refine F.ok sc_check_many (fun vs H Q E h => ?_) (fun cdv A outer s H vs Q E hr h => ?_)
  · obtain ⟨n, rfl, _⟩ := h
    rfl
  obtain ⟨n, rfl, h1, h5, k⟩ := h
  refine ⟨_, (pss_one (ps_if (PW.pt (pw_or (pt_not (pt_val (pe_fd G_is_whole (hr.mono (by first | decide | omega)) rfl (pa_cons (pv 0) pa_nil)))) (pw_or1 (pt_not (pt_chain op_le op_le pe_int (pv 0) (pe_cI T.c_MOST_HANDS)))))) (pss_one (ps_no)) pss_nil)), ?_⟩
  have hn : (1 : Int) ≤ n ∧ (n : Int) ≤ 5 := by omega
  refine ⟨_, rfl, _, _, rfl, .int n, _, rfl, iteF ⟨_, rfl, _, _, rfl, rfl, _, rfl, ite_yes (decide_eq_true hn.1) ⟨_, _, rfl, rfl, _, rfl, ?_⟩⟩⟩
  rw [decide_eq_true hn.2]
  exact iteF k
abbrev s_is_lot : Stmt := top 11
theorem sc_is_lot : FnScope ["value", "one", "other", "thing"] ["value"] (defScope s_is_lot) := ⟨rfl, rfl, rfl, by decide +kernel, rfl, by decide +kernel, by decide +kernel⟩
theorem ok_is_lot (F : Fun K "is_lot" "is_lot" s_is_lot f fd) (T : RTx mg) (G_is_whole : Fd P w K mg base CX0 "is_whole" 1 ["value"] spWhD) : FnOk P w K mg base CX0 2 f fd ["value"] spLotD := by
  refine F.ok sc_is_lot (fun vs H Q E h => ?_) (fun cdv A outer s H vs Q E hr h => ?_)
  · obtain ⟨v, d, rfl, _⟩ := h
    rfl
  obtain ⟨v, d, rfl, hd, k⟩ := h
  refine ⟨_, (pss_cons (ps_if (pt_not (pt_val (pe_callB call_isi rfl T.isinstance (by decide +kernel) (pa_cons (pv 0) (pa_cons (pe_bltn (v := .ty "tuple") rfl T.tuple boot_tuple rfl) pa_nil))))) (pss_one (ps_ret pe_bl)) pss_nil)
  (pss_cons (ps_if (pt_not (pt_val (pe_callB (cr_all rfl) rfl T.all (by decide +kernel) (pa_cons (pe_lc (own := [("thing", 3)]) (g := (gName 3)) (tt := tYes) rfl sc_is_lot.nd (pi_tup (pv 0)) (blkOk_by (own := [("thing", 3)]) (N := ["value", "one", "other", "thing"]) (sc := defScope s_is_lot) (by decide +kernel)) (fun _ _ _ _ _ => (pg_name (i := 3) sc_is_lot.nd rfl (Or.inl rfl))) (fun _ _ _ _ _ => pts_nil) (fun _ _ _ _ _ => (pe_and (pe_fd G_is_whole (hr.mono (by first | decide | omega)) rfl (pa_cons (pv 3) pa_nil)) (pe_one (pe_cmpR op_ge (pv 3) pe_int (nomark _)))))) pa_nil)))) (pss_one (ps_ret pe_bl)) pss_nil)
  (pss_one (ps_ret (pe_callB (cr_all rfl) rfl T.all (by decide +kernel) (pa_cons (pe_lc (own := [("one", 1), ("other", 2)]) (g := (gTup K 2 (gCons (gName 1) (gCons (gName 2) gNil)))) (tt := tYes) rfl sc_is_lot.nd (RZ.pi_zipA rfl T.zip (pa_cons (pv 0) (pa_cons (pe_slice sl_tupA (pv 0) (po_some pe_int) po_none) pa_nil))) (blkOk_by (own := [("one", 1), ("other", 2)]) (N := ["value", "one", "other", "thing"]) (sc := defScope s_is_lot) (by decide +kernel)) (fun _ _ _ _ _ => (pg_tup rfl (pgs_cons (pg_name (i := 1) sc_is_lot.nd rfl (Or.inl rfl)) (pgs_cons (pg_name (i := 2) sc_is_lot.nd rfl (Or.inl rfl)) pgs_nil)))) (fun _ _ _ _ _ => pts_nil) (fun _ _ _ _ _ => (pe_cmpR op_lt (pv 1) (pv 2) (nomark _)))) pa_nil)))))), ?_⟩
  obtain ⟨t, ty, _, _, k3⟩ := hd.ty (K := K)
  refine ⟨_, rfl, _, _, _, _, _, rfl, .ty "tuple", ty, k3, _, rfl, ite2 (fun c => ?_) (fun c => ?_)⟩
  · have e : lotB d = false := by cases d <;> first | rfl | cases c
    rw [e] at k
    exact k _ (Same.refl _)
  cases hd with
  | @tup a xs ds ha hds hl =>
    have hxl := hds.len
    refine ⟨_, rfl, a, rfl, ⟨_, .of ha⟩, fun D hD => ?_⟩
    refine lc_bools walk_tup (fun i => (ds.getD i .non).wnn) hD (by omega) (fun H' g => .of (g _ _ ha)) (fun i x H1 H2 hi g y Q4 N kk => ?_) fun H1 g1 h1 => ?_
    · obtain ⟨rfl, hx⟩ := y
      obtain ⟨dx, hdx, vx⟩ := DVs.at_ hds hx
      have eg : ds.getD i .non = dx := by rw [List.getD_eq_getElem?_getD, hdx] <;> rfl
      rw [eg] at kk
      have vx1 := vx.same g
      refine ⟨rfl, ?_⟩
      unfold tYes
      refine iteT ?_
      refine ⟨_, rfl, _, _, rfl, vx1, _, rfl, ite2 (fun c => ?_) (fun c => ?_)⟩
      · cases vx1 with
        | int z => exact ⟨_, rfl, _, _, rfl, rfl, kk _ (Same.refl _)⟩
        | _ => cases c
      · have e : dx.wnn = false := by cases dx <;> first | rfl | exact absurd rfl c
        rw [e] at kk
        exact kk _ (Same.refl _)
    refine ⟨D, _, rfl, .of h1, _, rfl, ?_⟩
    rw [all_id_map, hxl, all_getD]
    refine ite2 (fun c2 => ?_) (fun c2 => ?_)
    · have e : lotB (.tup ds) = false := by
        show (ds.all Dt.wnn && adjLt (ds.map Dt.toInt)) = false
        rw [show ds.all Dt.wnn = false by simpa using c2]; rfl
      rw [e] at k
      exact k _ g1
    have hw : ds.all Dt.wnn = true := by simpa using c2
    have ei : xs = (ds.map Dt.toInt).map V.int := DVs.ints hds fun x hx => (wnn_iff.mp (List.all_eq_true.mp hw x hx)).1
    have el : lotB (.tup ds) = adjLt (ds.map Dt.toInt) := by
      show (ds.all Dt.wnn && adjLt (ds.map Dt.toInt)) = _
      rw [hw]; rfl
    generalize hg : ds.map Dt.toInt = l at ei el
    have hll : l.length ≤ 1000 := by rw [← hg, List.length_map]; exact hl
    subst ei
    rw [el] at k
    have ha1 := g1 _ _ ha
    refine ⟨_, rfl, _, rfl, 1, rfl, ?_⟩
    refine noP_in ?_
    refine slA_any ha1 fun b H2 g2 hb => ?_
    rw [show (1 : Int) = ((1 : Nat) : Int) from rfl, cutA_from, ← List.map_drop] at hb
    refine ⟨a, b, l.map V.int, (l.drop 1).map V.int, rfl, .inr ⟨.of (g2 _ _ ha1), .of hb, fun D2 hD2 => ?_⟩⟩
    have wz := walk_zipT (K := K) (a := a) (b := b) (xs := l.map V.int) (ys := (l.drop 1).map V.int) (n := l.length - 1) (by rw [List.length_map, List.length_map, List.length_drop]; omega)
    refine lc_bools wz (fun i => decide (l.getD i 0 < l.getD (i + 1) 0)) hD2 (by omega) (fun H' g => ⟨.of (g _ _ (g2 _ _ ha1)), .of (g _ _ hb)⟩) (fun i x H3 H4 hi g y Q4 N kk => ?_) fun H3 g3 h3 => ?_
    · obtain ⟨T', x1, x2, rfl, nT, rfl, e1, e2⟩ := y
      have e1 : (l.map V.int)[i]? = some x1 := e1
      have e2 : ((l.drop 1).map V.int)[i]? = some x2 := e2
      rw [List.getElem?_map, List.getElem?_eq_getElem (by omega)] at e1
      rw [List.getElem?_map, List.getElem?_drop, Nat.add_comm, List.getElem?_eq_getElem (by omega)] at e2
      cases e1
      cases e2
      rw [getD_lt (by omega), getD_lt (by omega)] at kk
      have g4 := same_new nT (.tup [V.int l[i], V.int l[i + 1]])
      exact ⟨T', _, rfl, .of upd_same, rfl, _, _, rfl, _, _, rfl, rfl, rfl, _, rfl, _, rfl, _, _, rfl, rfl, kk _ g4⟩
    refine ⟨D2, _, rfl, .of h3, ?_⟩
    rw [all_id_map]
    exact k _ ((g1.trans g2).trans g3)
  | _ => exact absurd rfl c
abbrev s_lies_in : Stmt := top 15
theorem sc_lies_in : FnScope ["lot", "other", "word"] ["lot", "other"] (defScope s_lies_in) := ⟨rfl, rfl, rfl, by decide +kernel, rfl, by decide +kernel, by decide +kernel⟩
theorem ok_lies_in (F : Fun K "lies_in" "lies_in" s_lies_in f fd) (T : RTx mg) : FnOk P w K mg base CX0 1 f fd ["lot", "other"] spLiesD := by
  refine F.ok sc_lies_in (fun vs H Q E h => ?_) (fun cdv A outer s H vs Q E hr h => ?_)
  · obtain ⟨a, b, l, m, rfl, _⟩ := h
    rfl
  obtain ⟨a, b, l, m, rfl, ha, hb, hl, k⟩ := h
  refine ⟨_, (pss_one (ps_ret (pe_callB (cr_all rfl) rfl T.all (by decide +kernel) (pa_cons (pe_lc (own := [("word", 2)]) (g := (gName 2)) (tt := tYes) rfl sc_lies_in.nd (pi_tup (pv 0)) (blkOk_by (own := [("word", 2)]) (N := ["lot", "other", "word"]) (sc := defScope s_lies_in) (by decide +kernel)) (fun _ _ _ _ _ => (pg_name (i := 2) sc_lies_in.nd rfl (Or.inl rfl))) (fun _ _ _ _ _ => pts_nil) (fun _ _ _ _ _ => (pe_cmpR op_in_seqK (pv 2) (pv 1) rfl))) pa_nil)))), ?_⟩
  refine ⟨_, rfl, a, rfl, ⟨_, .of ha⟩, fun D hD => ?_⟩
  refine lc_bools walk_tup (fun i => decide (l.getD i 0 ∈ m)) hD (by rw [List.length_map]; omega) (fun H' g => .of (g _ _ ha)) (fun i x H1 H2 hi g y Q4 N kk => ?_) fun H1 g1 h1 => ?_
  · obtain ⟨rfl, hx⟩ := y
    rw [List.length_map] at hi
    rw [List.getElem?_map, List.getElem?_eq_getElem hi] at hx
    cases hx
    rw [getD_lt hi] at kk
    refine ⟨rfl, _, rfl, _, rfl, b, _, rfl, .inr (.of (g _ _ hb)), rfl, int_flat m, ?_⟩
    rw [inI]
    exact kk _ (Same.refl _)
  refine ⟨D, _, rfl, .of h1, ?_⟩
  rw [all_id_map, List.length_map, all_getD (p := fun x => decide (x ∈ m)) (x := (0 : Int))]
  exact k _ g1
abbrev s_fit : Stmt := top 24
theorem sc_fit : FnScope ["one", "other", "view", "beside"] ["one", "other"] (defScope s_fit) := ⟨rfl, rfl, rfl, by decide +kernel, rfl, by decide +kernel, by decide +kernel⟩
theorem ok_fit (F : Fun K "fit" "fit" s_fit f fd) (G_lies_in : Fd P w K mg base CX0 "lies_in" 1 ["lot", "other"] spLiesD) : FnOk P w K mg base CX0 2 f fd ["one", "other"] spFitD := by
  refine F.ok sc_fit (fun vs H Q E h => ?_) (fun cdv A outer s H vs Q E hr h => ?_)
  · obtain ⟨t, u, a, b, p, q, l, m, rfl, _⟩ := h
    rfl
  obtain ⟨t, u, a, b, p, q, l, m, rfl, ht, hu, ha, hb, hl, hm, k⟩ := h
  refine ⟨_, (pss_cons (ps_par (i := 2) (j := 3) (by rfl) sc_fit.nd rfl rfl (by decide) rfl rfl (pa_cons (pe_ix ix_tup (pv 0) pe_int (fun _ _ => rfl)) (pa_cons (pe_ix ix_tup (pv 1) pe_int (fun _ _ => rfl)) pa_nil)) (by rfl))
  (pss_cons (ps_if (pt_cmpR op_in_seqK (pe_ix ix_tup (pv 1) pe_int (fun _ _ => rfl)) (pv 2) rfl) (pss_one (ps_ret (pe_fd G_lies_in (hr.mono (by first | decide | omega)) rfl (pa_cons (pv 3) (pa_cons (pv 2) pa_nil))))) pss_nil)
  (pss_one (ps_ret (pe_fd G_lies_in (hr.mono (by first | decide | omega)) rfl (pa_cons (pv 2) (pa_cons (pv 3) pa_nil))))))), ?_⟩
  refine ⟨_, rfl, t, _, _, _, rfl, rfl, .of ht, atI_nat (j := 1) rfl, _, rfl, u, _, _, _, rfl, rfl, .of hu, atI_nat (j := 1) rfl, _, _, rfl, ?_⟩
  refine ⟨_, rfl, u, _, _, _, rfl, rfl, .of hu, atI_nat (j := 0) rfl, _, rfl, a, _, rfl, .inr (.of ha), rfl, int_flat l, _, rfl, ?_⟩
  rw [inI]
  unfold fitB at k
  dsimp only at k
  by_cases hq : q ∈ l
  · rw [decide_eq_true hq]
    rw [if_pos hq] at k
    exact iteT ⟨_, rfl, _, rfl, b, a, m, l, rfl, hb, ha, hm, k⟩
  · rw [decide_eq_false hq]
    rw [if_neg hq] at k
    exact iteF ⟨_, rfl, _, rfl, a, b, l, m, rfl, ha, hb, hl, k⟩
abbrev s_is_view : Stmt := top 23
theorem sc_is_view : FnScope ["many", "hand", "value"] ["many", "hand", "value"] (defScope s_is_view) := ⟨rfl, rfl, rfl, by decide +kernel, rfl, by decide +kernel, by decide +kernel⟩
theorem ok_is_view (F : Fun K "is_view" "is_view" s_is_view f fd) (G_is_lot : Fd P w K mg base CX0 "is_lot" 2 ["value"] spLotD) : FnOk P w K mg base CX0 3 f fd ["many", "hand", "value"] spViewD := by
  refine F.ok sc_is_view (fun vs H Q E h => ?_) (fun cdv A outer s H vs Q E hr h => ?_)
  · obtain ⟨n, p, v, d, rfl, _⟩ := h
    rfl
  obtain ⟨n, p, v, d, rfl, hd, k⟩ := h
  refine ⟨_, (pss_one (ps_ret (pe_and (pe_fd G_is_lot (hr.mono (by first | decide | omega)) rfl (pa_cons (pv 2) pa_nil)) (pe_and (pe_cmpR op_in_seqK (pv 1) (pv 2) rfl) (pe_one (pe_cmpR op_lt (pe_ix ix_tup (pv 2) (pe_un un_neg pe_int) (fun _ _ => rfl)) (pv 0) (nomark _))))))), ?_⟩
  refine ⟨_, rfl, v, d, rfl, hd, fun H1 g1 => ?_⟩
  refine ⟨_, rfl, ite2 (fun c => ?_) (fun c => ?_)⟩
  rotate_left
  · have c : lotB d = false := by simpa using c
    have e : viewB n p d = false := by unfold viewB; rw [c]; rfl
    rw [e] at k
    exact k _ g1
  obtain ⟨a, rfl, ha, hl⟩ := hd.lot c
  have ha1 := g1 _ _ ha
  unfold viewB at k
  rw [c, Bool.true_and] at k
  generalize lotOf d = l at k ha ha1 hl
  refine ⟨_, rfl, _, rfl, a, _, rfl, .inr (.of ha1), rfl, int_flat l, ?_⟩
  rw [inI]
  refine ⟨_, rfl, ite2 (fun c2 => ?_) (fun c2 => ?_)⟩
  rotate_left
  · have c2 : decide (p ∈ l) = false := by simpa using c2
    rw [c2] at k
    exact k _ g1
  rw [c2, Bool.true_and] at k
  have hp := of_decide_eq_true c2
  rcases List.eq_nil_or_concat l with rfl | ⟨l0, z, e⟩
  · cases hp
  rw [List.concat_eq_append] at e
  subst e
  have hsq : SqT K H1 a (l0.map V.int ++ [.int z]) := .of (by rw [ha1, List.map_append]; rfl)
  refine ⟨_, rfl, 1, rfl, a, _, _, _, rfl, rfl, hsq, atI_last _ _, _, rfl, _, _, rfl, rfl, ?_⟩
  have ez : (l0 ++ [z]).getLastD 0 = z := by rw [List.getLastD_eq_getLast?, List.getLast?_append]; rfl
  rw [ez] at k
  exact k _ g1
/-- a pair of a hand and its view -/
def PrV (H : Hp) (v : V) (p : Int × List Int) : Prop := ∃ t a, v = .ref t ∧ H t = some (.tup [.int p.1, .ref a]) ∧ H a = some (.tup (p.2.map V.int)) ∧ p.2.length ≤ 1000
theorem PrV.kd {H H' : Hp} (g : DKp H H') {v : V} {p : Int × List Int} (h : PrV H v p) : PrV H' v p := by
  obtain ⟨t, a, e, h1, h2, h3⟩ := h
  exact ⟨t, a, e, g.t h1, g.t h2, h3⟩
def prsI (ds : List Dt) (i : Nat) : List (Int × List Int) := ((List.range i).filter fun j => !(ds.getD j .non).isNon).map fun j : Nat => (((j : Nat) : Int), vwAt ds j)
theorem prsI_len (ds : List Dt) (i : Nat) : (prsI ds i).length ≤ i := by
  unfold prsI
  rw [List.length_map]
  exact Nat.le_trans (List.length_filter_le _ _) (by rw [List.length_range]; exact Nat.le_refl _)
theorem prsI_yes {ds : List Dt} {i : Nat} (h : (ds.getD i .non).isNon = false) : prsI ds (i + 1) = prsI ds i ++ [((i : Int), vwAt ds i)] := by
  have e : ([i].filter fun j => !(ds.getD j .non).isNon) = [i] := by rw [List.filter_cons, h]; rfl
  unfold prsI
  rw [List.range_succ, List.filter_append, List.map_append, e]
  rfl
theorem prsI_no {ds : List Dt} {i : Nat} (h : (ds.getD i .non).isNon = true) : prsI ds (i + 1) = prsI ds i := by
  have e : ([i].filter fun j => !(ds.getD j .non).isNon) = [] := by rw [List.filter_cons, h]; rfl
  unfold prsI
  rw [List.range_succ, List.filter_append, List.map_append, e, List.map_nil, List.append_nil]
abbrev s_is_at_once : Stmt := top 22
theorem sc_is_at_once : FnScope ["many", "value", "pairs", "hand", "view", "one", "other"] ["many", "value"] (defScope s_is_at_once) := ⟨rfl, rfl, rfl, by decide +kernel, rfl, by decide +kernel, by decide +kernel⟩
theorem ok_is_at_once (F : Fun K "is_at_once" "is_at_once" s_is_at_once f fd) (T : RTx mg) (G_check_many : Fd P w K mg base CX0 "check_many" 2 ["many"] spChkD) (G_is_view : Fd P w K mg base CX0 "is_view" 3 ["many", "hand", "value"] spViewD) (G_fit : Fd P w K mg base CX0 "fit" 2 ["one", "other"] spFitD) : FnOk P w K mg base CX0 4 f fd ["many", "value"] spAtD := by
  refine F.ok sc_is_at_once (fun vs H Q E h => ?_) (fun cdv A outer s0 H vs Q E hr h => ?_)
  · obtain ⟨n, v, d, rfl, _⟩ := h
    rfl
  obtain ⟨n, v, d, rfl, h1, h5, hd, k⟩ := h
  refine ⟨_, (pss_cons (ps_expr (pe_fd G_check_many (hr.mono (by first | decide | omega)) rfl (pa_cons (pv 0) pa_nil)))
  (pss_cons (ps_if (PW.pt (pw_or (pt_not (pt_val (pe_callB call_isi rfl T.isinstance (by decide +kernel) (pa_cons (pv 1) (pa_cons (pe_bltn (v := .ty "tuple") rfl T.tuple boot_tuple rfl) pa_nil))))) (pw_or1 (pt_cmpR op_ne (pe_callB call_len rfl T.len (by decide +kernel) (pa_cons (pv 1) pa_nil)) (pv 0) (nomark _))))) (pss_one (ps_ret pe_bl)) pss_nil)
  (pss_cons (ps_if (pt_not (pt_val (pe_callB (cr_all rfl) rfl T.all (by decide +kernel) (pa_cons (pe_lc (own := [("hand", 3), ("view", 4)]) (g := (gTup K 2 (gCons (gName 3) (gCons (gName 4) gNil)))) (tt := tYes) rfl sc_is_at_once.nd (pi_enumT rfl T.enumerate (pa_cons (pv 1) pa_nil)) (blkOk_by (own := [("hand", 3), ("view", 4)]) (N := ["many", "value", "pairs", "hand", "view", "one", "other"]) (sc := defScope s_is_at_once) (by decide +kernel)) (fun _ _ _ _ _ => (pg_tup rfl (pgs_cons (pg_name (i := 3) sc_is_at_once.nd rfl (Or.inl rfl)) (pgs_cons (pg_name (i := 4) sc_is_at_once.nd rfl (Or.inl rfl)) pgs_nil)))) (fun _ _ _ _ _ => pts_nil) (fun _ _ _ _ _ => (pe_or (pe_cmpR op_isN (pv 4) pe_non (nomark _)) (pe_one (pe_fd G_is_view (hr.mono (by first | decide | omega)) rfl (pa_cons (pv 0) (pa_cons (pv 3) (pa_cons (pv 4) pa_nil)))))))) pa_nil)))) (pss_one (ps_ret pe_bl)) pss_nil)
  (pss_cons (ps_set (i := 2) sc_is_at_once.nd rfl (Or.inr rfl) (pe_lc (own := [("hand", 3), ("view", 4)]) (g := (gTup K 2 (gCons (gName 3) (gCons (gName 4) gNil))))  rfl sc_is_at_once.nd (pi_enumT rfl T.enumerate (pa_cons (pv 1) pa_nil)) (blkOk_by (own := [("hand", 3), ("view", 4)]) (N := ["many", "value", "pairs", "hand", "view", "one", "other"]) (sc := defScope s_is_at_once) (by decide +kernel)) (fun _ _ _ _ _ => (pg_tup rfl (pgs_cons (pg_name (i := 3) sc_is_at_once.nd rfl (Or.inl rfl)) (pgs_cons (pg_name (i := 4) sc_is_at_once.nd rfl (Or.inl rfl)) pgs_nil)))) (fun _ _ _ _ _ => (pts_one (pt_cmpR op_notN (pv 4) pe_non (nomark _)))) (fun _ _ _ _ _ => (pe_tup (pa_cons (pv 3) (pa_cons (pv 4) pa_nil))))))
  (pss_one (ps_ret (pe_and (pe_cmpR op_gt (pe_callB call_len rfl T.len (by decide +kernel) (pa_cons (pv 2) pa_nil)) pe_int (nomark _)) (pe_one (pe_callB (cr_all rfl) rfl T.all (by decide +kernel) (pa_cons (pe_lc2 (own := [("one", 5), ("other", 6)]) (vs1 := [6]) (g := gName 5) (g1 := gName 6) (tt := tYes) (tt1 := tYes) (wi1 := iList K (tVar 2)) rfl sc_is_at_once.nd (pi_list (pv 2)) (blkOk_by (own := [("one", 5), ("other", 6)]) (N := ["many", "value", "pairs", "hand", "view", "one", "other"]) (sc := defScope s_is_at_once) (by decide +kernel)) (by decide) (fun _ _ _ _ _ => (pg_name (i := 5) sc_is_at_once.nd rfl (Or.inl rfl))) (fun _ _ _ _ _ => pts_nil) (fun _ _ _ _ _ => (pi_list (pv 2))) (fun _ _ _ _ _ => (pg_name (i := 6) sc_is_at_once.nd rfl (Or.inl rfl))) (fun _ _ _ _ _ => pts_nil) (fun _ _ _ _ _ => (pe_fd G_fit (hr.mono (by first | decide | omega)) rfl (pa_cons (pv 5) (pa_cons (pv 6) pa_nil))))) pa_nil)))))))))), ?_⟩
  refine ⟨_, rfl, n, rfl, h1, h5, ?_⟩
  obtain ⟨t, ty, _, _, k3⟩ := hd.ty (K := K)
  refine ⟨_, rfl, _, _, _, _, _, rfl, .ty "tuple", ty, k3, _, rfl, ite2 (fun c => ?_) (fun c => ?_)⟩
  · have e : atB n d = false := by cases d <;> first | rfl | cases c
    rw [e] at k
    exact k _ (Same.refl _)
  cases hd with
  | @tup b vv ds hb hds hl =>
    have hvl := hds.len
    refine ⟨_, rfl, _, vv.length, rfl, (show LenV K (.ref b) H vv.length from .inr ⟨_, .of hb, rfl⟩), _, rfl, ?_⟩
    refine ⟨rfl, _, rfl, ite2 (fun c2 => ?_) (fun c2 => ?_)⟩
    · have e : atB n (.tup ds) = false := by
        unfold atB
        dsimp only
        have : ¬ ds.length = n := fun z => by rw [hvl, z] at c2; simp at c2
        rw [decide_eq_false this]; rfl
      rw [e] at k
      exact k _ (Same.refl _)
    have hn : ds.length = n := by
      have : ((vv.length : Nat) : Int) = (n : Int) := by simpa using c2
      omega
    have k' : ∀ H', Same H H' → Q (.bl (vwsB n ds && (decide (0 < (prs ds).length) && (prs ds).all fun p => (prs ds).all fun q => fitB p q))) H' := fun H' g => by
      have e : atB n (.tup ds) = (vwsB n ds && (decide (0 < (prs ds).length) && (prs ds).all fun p => (prs ds).all fun q => fitB p q)) := by
        unfold atB
        dsimp only
        rw [decide_eq_true hn, Bool.true_and]
      rw [← e]
      exact k _ g
    clear k
    refine ⟨_, rfl, b, vv, rfl, .of hb, fun D hD => ?_⟩
    refine lc_bools walk_enumT (fun i => (ds.getD i .non).isNon || viewB n i (ds.getD i .non)) hD (by omega) (fun H' g => .of (g _ _ hb)) (fun i y0 H1 H2 hi g y Q4 N kk => ?_) fun H1 g1 e1 => ?_
    · obtain ⟨T', y, rfl, hT, rfl, hy⟩ := y
      obtain ⟨dy, hdy, vy⟩ := DVs.at_ hds hy
      have eg : ds.getD i .non = dy := by rw [List.getD_eq_getElem?_getD, hdy] <;> rfl
      rw [eg] at kk
      have g2 := same_new hT (.tup [.int (0 + (i : Nat)), y])
      refine ⟨T', _, rfl, .of upd_same, rfl, _, _, rfl, _, _, rfl, rfl, rfl, ?_⟩
      unfold tYes
      refine iteT ?_
      refine ⟨_, rfl, rfl, _, rfl, ?_⟩
      have en := vy.non_iff
      cases hnon : dy.isNon with
      | true =>
        rw [hnon] at en kk
        refine ite_yes en ?_
        exact kk _ g2
      | false =>
        rw [hnon] at en kk
        refine ite_no en ?_
        refine ⟨_, rfl, _, rfl, _, rfl, n, i, y, dy, (by rw [Int.zero_add]; rfl), vy.same (g.trans g2), fun H3 g3 => ?_⟩
        exact kk _ (g2.trans g3)
    refine ⟨D, _, rfl, .of e1, _, rfl, ?_⟩
    rw [all_id_map, hvl]
    refine ite2 (fun c3 => ?_) (fun c3 => ?_)
    · have e : vwsB n ds = false := not_t c3
      rw [e] at k'
      exact k' _ g1
    have hvw : vwsB n ds = true := not_f c3
    rw [hvw] at k'
    have vlot : ∀ i, i < ds.length → (ds.getD i .non).isNon = false → lotB (ds.getD i .non) = true := fun i hi hn => by
      have := List.all_eq_true.mp hvw i (List.mem_range.mpr hi)
      rw [hn, Bool.false_or] at this
      exact (viewB_iff.mp this).1
    have hb1 := g1 _ _ hb
    have hds1 := hds.same g1
    refine ⟨_, rfl, b, vv, rfl, .of hb1, fun D1 hD1 => ?_⟩
    refine lc_it (walk_enumT (xs := vv)) (fun i H' => Same H1 H' ∧ ∃ acc, H' D1 = some (.lst acc) ∧ Paired (PrV H') acc (prsI ds i)) ⟨same_new hD1 _, [], upd_same, .nil⟩ (fun i H' _ z => .of (z.1 _ _ hb1)) ?_ ?_
    · rintro i y0 H2 H3 hi ⟨g2, acc, h2, hp⟩ ⟨T', y, rfl, hT, rfl, hy⟩
      obtain ⟨dy, hdy, vy⟩ := DVs.at_ hds1 hy
      have eg : ds.getD i .non = dy := by rw [List.getD_eq_getElem?_getD, hdy] <;> rfl
      have g3 := same_new hT (.tup [.int (0 + (i : Nat)), y])
      have h3 := g3 _ _ h2
      refine ⟨T', _, rfl, .of upd_same, rfl, _, _, rfl, _, _, rfl, rfl, rfl, ?_⟩
      refine ⟨_, rfl, rfl, _, rfl, ?_⟩
      have en := vy.non_iff
      cases hnon : dy.isNon with
      | true =>
        rw [hnon] at en
        refine ite_no (by rw [en]; rfl) ?_
        rw [← eg] at hnon
        exact ⟨g2.trans g3, acc, h3, by rw [prsI_no hnon]; exact pr_imp (fun _ _ => PrV.kd (.of g3)) hp⟩
      | false =>
        rw [hnon] at en
        refine ite_yes (by rw [en]; rfl) ?_
        rw [← eg] at hnon vy
        have hl2 := vlot i (by omega) hnon
        obtain ⟨a, rfl, ha, hla⟩ := (vy.same (g2.trans g3)).lot hl2
        refine ⟨_, rfl, _, rfl, szl (by show 2 ≤ _; decide), fun t nt => ?_⟩
        have g4 := same_new nt (.tup [.int (0 + (i : Nat)), .ref a])
        have h4 := g4 _ _ h3
        have hal : acc.length ≤ 5 := by
          rw [pr_len hp]
          have := prsI_len ds i
          omega
        have kp : DKp H2 (upd (upd (upd H2 T' (.tup [.int (0 + (i : Nat)), .ref a])) t (.tup [.int (0 + (i : Nat)), .ref a])) D1 (.lst (acc ++ [.ref t]))) := (DKp.of (g3.trans g4)).trans (.put h4)
        refine ⟨acc, h4, szt (by omega), fun o u ho => ?_, acc ++ [.ref t], upd_same, ?_⟩
        · rw [upd_ne (ne_of_none ho hD1)]; exact g4 _ _ (g3 _ _ (g2 _ _ ho))
        · rw [prsI_yes hnon]
          refine pr_snoc ⟨t, a, rfl, ?_, ?_, hla⟩ (pr_imp (fun _ _ => PrV.kd kp) hp)
          · have nt1 : t ≠ D1 := fun z => by rw [z, h3] at nt; cases nt
            rw [upd_ne nt1, upd_same]
            show _ = some (HO.tup [.int (i : Int), .ref a])
            rw [Int.zero_add]
          · exact (DKp.put h4).t (g4 _ _ ha)
    rintro H2 ⟨g2, acc, h2, hp⟩
    rw [hvl] at hp
    have hp : Paired (PrV H2) acc (prs ds) := hp
    have hal := pr_len hp
    have eI : decide ((0 : Int) < (acc.length : Int)) = decide (0 < (prs ds).length) := decide_eq_decide.mpr (by omega)
    refine ⟨_, rfl, _, acc.length, rfl, (show LenV K (.ref D1) H2 acc.length from .inl ⟨_, .of h2, rfl⟩), _, _, rfl, rfl, _, rfl, ?_⟩
    refine ite2 (fun z => ?_) (fun z => ?_)
    rotate_left
    · rw [show decide (0 < (prs ds).length) = false by rw [← eI]; simpa using z] at k'
      exact k' _ (g1.trans g2)
    rw [show decide (0 < (prs ds).length) = true by rw [← eI]; exact z] at k'
    have acn : acc.length ≤ 5 := by
      rw [hal]
      have : (prs ds).length ≤ ds.length := prsI_len ds ds.length
      omega
    refine ⟨_, rfl, D1, rfl, ⟨_, .of h2⟩, fun D3 hD3 => ?_⟩
    refine lc2_bools (f := fun i j => fitB ((prs ds).getD i (0, [])) ((prs ds).getD j (0, []))) hD3 h2 h2 (by have := Nat.mul_le_mul acn acn; omega) (fun _ => rfl) (fun _ => rfl) (fun _ _ => rfl) (fun i j x y H3 hx hy g3 Q4 kk => ?_) fun H3 g3 h3 => ?_
    · have gx : ∀ {i : Nat} {x : V}, acc[i]? = some x → PrV H3 x ((prs ds).getD i (0, [])) := fun {i x} hx => by
        have hi : i < (prs ds).length := by rw [← hal]; exact get_lt hx
        obtain ⟨x', e1, e2⟩ := pr_at hp (List.getElem?_eq_getElem hi)
        rw [hx] at e1
        cases e1
        rw [List.getD_eq_getElem?_getD, List.getElem?_eq_getElem hi]
        exact e2.kd (.of g3)
      obtain ⟨t, a, rfl, t1, t2, t3⟩ := gx hx
      obtain ⟨u, c, rfl, u1, u2, u3⟩ := gx hy
      exact ⟨_, rfl, _, rfl, t, u, a, c, _, _, _, _, rfl, t1, u1, t2, u2, t3, u3, kk⟩
    refine ⟨D3, _, rfl, .of h3, ?_⟩
    rw [rowsB_all, hal]
    have e2 : ((List.range (prs ds).length).all fun i => (List.range (prs ds).length).all fun j => fitB ((prs ds).getD i (0, [])) ((prs ds).getD j (0, []))) = (prs ds).all fun p => (prs ds).all fun q => fitB p q := by
      rw [← all_getD (p := fun p => (prs ds).all fun q => fitB p q) (x := ((0 : Int), ([] : List Int)))]
      congr 1
      funext i
      exact all_getD (p := fun q => fitB ((prs ds).getD i (0, [])) q)
    rw [e2]
    exact k' _ ((g1.trans g2).trans g3)
  | _ => exact absurd rfl c
end
end Fp
/-! values without truths and texts: compared -/
namespace Fp
open PySem PySem.Spec PyProof.Rows L2
/-- None, integers, tuples of such, at most so deep -/
def pl : Nat → Dt → Bool
  | _, .non => true
  | _, .int _ => true
  | k + 1, .tup ds => ds.all (pl k)
  | _, _ => false
def toP : Nat → Dt → PyData
  | _, .non => .none
  | _, .int i => .int i
  | k + 1, .tup ds => .tuple (ds.map (toP k))
  | _, _ => .none
theorem pl_tup {k : Nat} {ds : List Dt} : pl (k + 1) (.tup ds) = true ↔ ∀ d ∈ ds, pl k d = true := by
  show ds.all (pl k) = true ↔ _
  rw [List.all_eq_true]
theorem pl_up : ∀ {k : Nat} {d : Dt}, pl k d = true → pl (k + 1) d = true
  | _, .non, _ => by unfold pl; rfl
  | _, .int _, _ => by unfold pl; rfl
  | 0, .tup ds, h => by cases h
  | k + 1, .tup ds, h => pl_tup.mpr fun d hd => pl_up (pl_tup.mp h d hd)
  | 0, .bl _, h => by cases h
  | k + 1, .bl _, h => by cases h
  | 0, .oth, h => by cases h
  | k + 1, .oth, h => by cases h
theorem toP_depth : ∀ {k : Nat} {d : Dt}, (toP k d).depth ≤ k
  | 0, .non => by simp [toP, PyData.depth]
  | 0, .int _ => by simp [toP, PyData.depth]
  | 0, .tup _ => by simp [toP, PyData.depth]
  | 0, .bl _ => by simp [toP, PyData.depth]
  | 0, .oth => by simp [toP, PyData.depth]
  | k + 1, .non => by simp [toP, PyData.depth]
  | k + 1, .int _ => by simp [toP, PyData.depth]
  | k + 1, .bl _ => by simp [toP, PyData.depth]
  | k + 1, .oth => by simp [toP, PyData.depth]
  | k + 1, .tup ds => by
    show PyData.depth (.tuple (ds.map (toP k))) ≤ k + 1
    simp only [PyData.depth]
    have : ∀ l : List Dt, PyData.depthAll (l.map (toP k)) ≤ k := fun l => by
      induction l with
      | nil => simp [PyData.depthAll]
      | cons a r ih =>
        rw [List.map_cons]
        simp only [PyData.depthAll]
        have := toP_depth (k := k) (d := a)
        omega
    have := this ds
    omega
theorem toP_lay : ∀ {k : Nat} {d : Dt}, (toP k d).canLay0 = true
  | 0, .non => by simp [toP, PyData.canLay0]
  | 0, .int _ => by simp [toP, PyData.canLay0]
  | 0, .tup _ => by simp [toP, PyData.canLay0]
  | 0, .bl _ => by simp [toP, PyData.canLay0]
  | 0, .oth => by simp [toP, PyData.canLay0]
  | k + 1, .non => by simp [toP, PyData.canLay0]
  | k + 1, .int _ => by simp [toP, PyData.canLay0]
  | k + 1, .bl _ => by simp [toP, PyData.canLay0]
  | k + 1, .oth => by simp [toP, PyData.canLay0]
  | k + 1, .tup ds => by
    show PyData.canLay0 (.tuple (ds.map (toP k))) = true
    simp only [PyData.canLay0]
    induction ds with
    | nil => simp [PyData.canLayAll0]
    | cons a r ih =>
      rw [List.map_cons]
      simp only [PyData.canLayAll0, Bool.and_eq_true]
      exact ⟨toP_lay, ih⟩
theorem toP_shaped {k : Nat} {d : Dt} (hk : k ≤ 64) : SeqAt.shaped (toP k d) = true := by
  unfold SeqAt.shaped
  rw [toP_lay, Bool.true_and]
  exact decide_eq_true (Nat.le_trans toP_depth hk)
theorem dps_map {K : PySem.W.Frag} {H : Hp} {f : Dt → PyData} : ∀ {xs : List V} {ds : List Dt}, DVs H xs ds → (∀ d ∈ ds, ∀ v, DV H v d → Dp K H v (f d)) → DpAll K H xs (ds.map f)
  | _, _, .nil, _ => .nil
  | _, _, .cons h t, g => .cons (g _ List.mem_cons_self _ h) (dps_map t fun d hd => g d (List.mem_cons_of_mem _ hd))
theorem DV.dp {K : PySem.W.Frag} {H : Hp} : ∀ {k : Nat} {v : V} {d : Dt}, DV H v d → pl k d = true → Dp K H v (toP k d) := by
  intro k
  induction k with
  | zero =>
    intro v d h p
    cases h with
    | non => exact .non
    | int i => exact .int i
    | _ => cases p
  | succ k ih =>
    intro v d h p
    cases h with
    | non => exact .non
    | int i => exact .int i
    | @tup a xs ds ha hds hl => exact .tup (.of ha) (dps_map hds fun d hd v hv => ih hv (pl_tup.mp p d hd))
    | _ => cases p
theorem eqvAll_map {f : Dt → PyData} : ∀ {ds es : List Dt}, (∀ d ∈ ds, ∀ e ∈ es, (PyData.eqv (f d) (f e) = true ↔ d = e)) → (PyData.eqvAll (ds.map f) (es.map f) = true ↔ ds = es)
  | [], [], _ => by simp [PyData.eqvAll]
  | [], _ :: _, _ => by simp [PyData.eqvAll]
  | _ :: _, [], _ => by simp [PyData.eqvAll]
  | a :: r, b :: s, g => by
    have ih := eqvAll_map (ds := r) (es := s) fun d hd e he => g d (List.mem_cons_of_mem _ hd) e (List.mem_cons_of_mem _ he)
    rw [List.map_cons, List.map_cons]
    simp only [PyData.eqvAll, Bool.and_eq_true, List.cons.injEq]
    rw [ih, g a (by simp) b (by simp)]
theorem eqv_iff : ∀ {k : Nat} {d e : Dt}, pl k d = true → pl k e = true → (PyData.eqv (toP k d) (toP k e) = true ↔ d = e) := by
  intro k
  induction k with
  | zero =>
    intro d e hd he
    cases d <;> cases e <;> first | (simp [toP, PyData.eqv]; done) | (cases hd; done) | (cases he; done)
  | succ k ih =>
    intro d e hd he
    cases d with
    | tup ds =>
      cases e with
      | tup es =>
        show PyData.eqv (.tuple (ds.map (toP k))) (.tuple (es.map (toP k))) = true ↔ _
        simp only [PyData.eqv, Dt.tup.injEq]
        exact eqvAll_map fun d h e h' => ih (pl_tup.mp hd d h) (pl_tup.mp he e h')
      | _ => first | (simp [toP, PyData.eqv]; done) | (cases he; done)
    | _ => cases e <;> first | (simp [toP, PyData.eqv]; done) | (cases hd; done) | (cases he; done)
/-- whether two such values are one -/
def rNeP (K : PySem.W.Frag) : R2 := fun x y H Q => ∃ d e, DV H x d ∧ DV H y e ∧ pl 3 d = true ∧ pl 3 e = true ∧ ∀ b : Bool, (b = true ↔ d ≠ e) → Q (.bl b) H
def rEqP (K : PySem.W.Frag) : R2 := fun x y H Q => ∃ d e, DV H x d ∧ DV H y e ∧ pl 3 d = true ∧ pl 3 e = true ∧ ∀ b : Bool, (b = true ↔ d = e) → Q (.bl b) H
theorem op_neP {X : Cx} {K : PySem.W.Frag} (hu : X.A.units + 64 < cLine) (e : X.K = K := by rfl) : OpR X (compareOp .NotEq) (rNeP K) := by
  subst e
  intro pins s σ H x y v u Q I rx ry h
  obtain ⟨d, e, hd, he, pd, pe, q⟩ := h
  refine op_neD hu pins s σ H x y v u Q I rx ry ⟨_, _, hd.dp pd, he.dp pe, toP_shaped (by decide), toP_shaped (by decide), q _ ?_⟩
  rw [Bool.not_eq_true', ← Bool.not_eq_true, eqv_iff pd pe]
theorem op_eqP {X : Cx} {K : PySem.W.Frag} (hu : X.A.units + 64 < cLine) (e : X.K = K := by rfl) : OpR X (compareOp .Eq) (rEqP K) := by
  subst e
  intro pins s σ H x y v u Q I rx ry h
  obtain ⟨d, e, hd, he, pd, pe, q⟩ := h
  exact op_eqD hu pins s σ H x y v u Q I rx ry ⟨_, _, hd.dp pd, he.dp pe, toP_shaped (by decide), toP_shaped (by decide), q _ (eqv_iff pd pe)⟩
/-- None in a tuple -/
def rNoneInT (K : PySem.W.Frag) (neg : Bool) : R2 := fun x y H Q => ∃ ds, x = .non ∧ DV H y (.tup ds) ∧ pl 3 (.tup ds) = true ∧ Q (.bl (if neg then !(ds.any Dt.isNon) else ds.any Dt.isNon)) H
theorem non_any {k : Nat} {ds : List Dt} : (ds.map (toP k)).any (fun z => PyData.eqv z .none) = ds.any Dt.isNon ∨ ¬ ∀ d ∈ ds, pl k d = true := by
  by_cases h : ∀ d ∈ ds, pl k d = true
  · left
    rw [List.any_map, Bool.eq_iff_iff, List.any_eq_true, List.any_eq_true]
    have e : ∀ d ∈ ds, (((fun z => PyData.eqv z .none) ∘ toP k) d = true ↔ d.isNon = true) := fun d hd => by
      show PyData.eqv (toP k d) .none = true ↔ _
      have hp := h d hd
      cases d <;> cases k <;> first | (simp [toP, PyData.eqv, Dt.isNon]; done) | (cases hp; done)
    constructor
    · rintro ⟨d, hd, q⟩
      exact ⟨d, hd, (e d hd).mp q⟩
    · rintro ⟨d, hd, q⟩
      exact ⟨d, hd, (e d hd).mpr q⟩
  · exact .inr h
theorem op_noneIn' {X : Cx} {K : PySem.W.Frag} (hu : X.A.units + 65 < cLine) (e : X.K = K := by rfl) : OpR X (compareOp .In) (rNoneInT K false) := by
  intro pins s σ H x y v u Q I rx ry h
  obtain ⟨ds, rfl, hd, pd, q⟩ := h
  refine op_inT hu e pins s σ H _ y v u Q I rx ry ⟨_, ds.map (toP 2), .non, hd.dp pd, rfl, toP_shaped (k := 3) (d := .tup ds) (by decide), ?_⟩
  rcases non_any (k := 2) (ds := ds) with z | z
  · rw [z]; exact q
  · exact absurd (pl_tup.mp pd) z
theorem op_noneNotIn' {X : Cx} {K : PySem.W.Frag} (hu : X.A.units + 65 < cLine) (e : X.K = K := by rfl) : OpR X (compareOp .NotIn) (rNoneInT K true) := by
  intro pins s σ H x y v u Q I rx ry h
  obtain ⟨ds, rfl, hd, pd, q⟩ := h
  refine op_notInT hu e pins s σ H _ y v u Q I rx ry ⟨_, ds.map (toP 2), .non, hd.dp pd, rfl, toP_shaped (k := 3) (d := .tup ds) (by decide), ?_⟩
  rcases non_any (k := 2) (ds := ds) with z | z
  · rw [z]; exact q
  · exact absurd (pl_tup.mp pd) z
/-- t == (), t any tuple -/
def rEqE (K : PySem.W.Frag) : R2 := fun x y H Q => ∃ a b xs, x = .ref a ∧ y = .ref b ∧ H a = some (.tup xs) ∧ H b = some (.tup []) ∧ Q (.bl xs.isEmpty) H
theorem op_eqE {X : Cx} {K : PySem.W.Frag} (hu : X.A.units + 64 < cLine) (e : X.K = K := by rfl) : OpR X (compareOp .Eq) (rEqE K) := by
  subst e
  intro pins s σ H x y v u Q I rx ry h
  obtain ⟨a, b, xs, rfl, rfl, ha, hb, q⟩ := h
  cases rx
  cases ry
  obtain ⟨its, r, ht, _⟩ := I.tuple (xs := xs) (.of ha)
  obtain ⟨its2, r2, ht2, _⟩ := I.tuple (xs := []) (.of hb)
  cases r2
  refine SeqAt.eq_tupleAt (e := fun _ => true) ht ht2 (by omega) (fun j _ h2 => absurd h2 (by simp)) ⟨.bl xs.isEmpty, H, I, ?_, q⟩
  have hl := r.length
  cases xs with
  | nil => cases r; rfl
  | cons x t =>
    cases r
    show Value.bool _ = Value.bool false
    simp
/-! ### good rows -/
theorem lot_data {d : Dt} (h : lotB d = true) : d = .tup ((lotOf d).map Dt.int) ∧ pl 1 d = true := by
  cases d with
  | tup es =>
    have hw := (lotB_tup.mp h).1
    have e : es = (es.map Dt.toInt).map Dt.int := by
      rw [List.map_map]
      refine (List.map_id es).symm.trans (List.map_congr_left fun x hx => ?_)
      have := (hw x hx).1
      cases x with
      | int i => rfl
      | _ => cases this
    refine ⟨congrArg Dt.tup e, pl_tup.mpr fun x hx => ?_⟩
    have := (hw x hx).1
    cases x with
    | int i => rfl
    | _ => cases this
  | _ => cases h
theorem at_tup {n : Nat} {d : Dt} (h : atB n d = true) : ∃ ds, d = .tup ds ∧ ds.length = n ∧ vwsB n ds = true := by
  cases d with
  | tup ds =>
    unfold atB at h
    dsimp only at h
    rw [Bool.and_eq_true, Bool.and_eq_true, decide_eq_true_eq] at h
    exact ⟨ds, rfl, h.1, h.2.1⟩
  | _ => cases h
theorem at_pl {n : Nat} {d : Dt} (h : atB n d = true) : pl 2 d = true := by
  obtain ⟨ds, rfl, hl, hv⟩ := at_tup h
  refine pl_tup.mpr fun x hx => ?_
  obtain ⟨i, hi⟩ := List.mem_iff_getElem?.mp hx
  have hil := (List.getElem?_eq_some_iff.mp hi).1
  have := List.all_eq_true.mp hv i (List.mem_range.mpr hil)
  rw [List.getD_eq_getElem?_getD, hi] at this
  simp only [Option.getD_some] at this
  rcases Bool.or_eq_true_iff.mp this with z | z
  · cases x with
    | non => rfl
    | _ => cases z
  · exact (lot_data (viewB_iff.mp z).1).2
end Fp
/-! chains of rows: the mathematics -/
namespace Fp
open PySem PySem.Spec PyProof.Rows L2
theorem srt_eq : ∀ {l m : List Int}, l.Pairwise (· < ·) → m.Pairwise (· < ·) → (∀ x, x ∈ l ↔ x ∈ m) → l = m
  | [], [], _, _, _ => rfl
  | [], b :: m, _, _, h => absurd ((h b).mpr (by simp)) (by simp)
  | a :: l, [], _, _, h => absurd ((h a).mp (by simp)) (by simp)
  | a :: l, b :: m, h1, h2, h => by
    obtain ⟨p1, q1⟩ := List.pairwise_cons.mp h1
    obtain ⟨p2, q2⟩ := List.pairwise_cons.mp h2
    have e : a = b := by
      have ha := (h a).mp (by simp)
      have hb := (h b).mpr (by simp)
      rcases List.mem_cons.mp ha with z | z
      · exact z
      · rcases List.mem_cons.mp hb with y | y
        · exact y.symm
        · have := p2 a z
          have := p1 b y
          omega
    subst e
    rw [srt_eq q1 q2 fun x => ?_]
    constructor
    · intro hx
      have hl := p1 x hx
      rcases List.mem_cons.mp ((h x).mp (List.mem_cons_of_mem _ hx)) with z | z
      · omega
      · exact z
    · intro hx
      have hl := p2 x hx
      rcases List.mem_cons.mp ((h x).mpr (List.mem_cons_of_mem _ hx)) with z | z
      · omega
      · exact z
theorem srt_nodup {l : List Int} (h : l.Pairwise (· < ·)) : l.Nodup := h.imp fun h => by omega
theorem nodup_le {α : Type} [DecidableEq α] : ∀ {l m : List α}, l.Nodup → (∀ x ∈ l, x ∈ m) → l.length ≤ m.length
  | [], _, _, _ => Nat.zero_le _
  | a :: l, m, h, s => by
    obtain ⟨h1, h2⟩ := List.nodup_cons.mp h
    have ha := s a (by simp)
    have := nodup_le (m := m.erase a) h2 fun y hy => (List.mem_erase_of_ne (fun (e : y = a) => h1 (by rw [← e]; exact hy))).mpr (s y (List.mem_cons_of_mem _ hy))
    rw [List.length_erase_of_mem ha] at this
    have := List.length_pos_of_mem ha
    rw [List.length_cons]
    omega
/-- a subset that is no smaller is the whole -/
theorem sub_eq {l m : List Int} (hl : l.Nodup) (h : ∀ x ∈ l, x ∈ m) (hm : m.length ≤ l.length) : ∀ x ∈ m, x ∈ l := by
  intro x hx
  refine Classical.byContradiction fun n => ?_
  have := nodup_le (m := m.erase x) hl fun y hy => (List.mem_erase_of_ne (fun (e : y = x) => n (by rw [← e]; exact hy))).mpr (h y hy)
  rw [List.length_erase_of_mem hx] at this
  have : 0 < m.length := List.length_pos_of_mem hx
  omega
abbrev Row' := List (List Int)
structure RowOk (n : Nat) (r : Row') : Prop where
  len : r.length = n
  up : ∀ (i : Nat) (l : List Int), r[i]? = some l → List.Pairwise (· < ·) l
  rng : ∀ (i : Nat) (l : List Int), r[i]? = some l → ∀ x ∈ l, 0 ≤ x ∧ x < n
  self : ∀ (i : Nat) (l : List Int), r[i]? = some l → (i : Int) ∈ l
  cmp : ∀ (i j : Nat) (l m : List Int), r[i]? = some l → r[j]? = some m → (∀ x ∈ l, x ∈ m) ∨ ∀ x ∈ m, x ∈ l
  fit : ∀ (i j : Nat) (l m : List Int), r[i]? = some l → r[j]? = some m → (i : Int) ∈ m → ∀ x ∈ l, x ∈ m
def lotD (l : List Int) : Dt := .tup (l.map Dt.int)
def rowD (r : Row') : Dt := .tup (r.map lotD)
theorem lotOf_lotD (l : List Int) : lotOf (lotD l) = l := by
  show (l.map Dt.int).map Dt.toInt = l
  rw [List.map_map]
  exact List.map_id'' (fun _ => rfl) l
theorem lotD_inj {l m : List Int} (h : lotD l = lotD m) : l = m := by rw [← lotOf_lotD l, h, lotOf_lotD]
theorem vwAt_row {r : Row'} {i : Nat} {l : List Int} (h : r[i]? = some l) : vwAt (r.map lotD) i = l ∧ ((r.map lotD).getD i .non) = lotD l := by
  have e : ((r.map lotD).getD i .non) = lotD l := by rw [List.getD_eq_getElem?_getD, List.getElem?_map, h]; rfl
  exact ⟨by unfold vwAt; rw [e, lotOf_lotD], e⟩
theorem thr_row (r : Row') (i : Nat) : i ∈ thr (r.map lotD) ↔ i < r.length := by
  rw [mem_thr, List.length_map]
  refine ⟨fun h => h.1, fun h => ⟨h, ?_⟩⟩
  rw [(vwAt_row (List.getElem?_eq_getElem h)).2]; rfl
theorem lotOfB_lotD {n : Int} {l : List Int} : lotOfB n (lotD l) = true ↔ (∀ x ∈ l, 0 ≤ x ∧ x < n) ∧ l.Pairwise (· < ·) := by
  unfold lotD
  rw [lotOfB_tup, List.map_map, show (Dt.toInt ∘ Dt.int) = id from rfl, List.map_id]
  refine and_congr ?_ Iff.rfl
  constructor
  · intro h x hx
    have := h (.int x) (List.mem_map.mpr ⟨x, hx, rfl⟩)
    obtain ⟨_, a, b⟩ := this
    have a : 0 ≤ x := a
    have b : x ≤ n - 1 := b
    omega
  · intro h d hd
    obtain ⟨x, hx, rfl⟩ := List.mem_map.mp hd
    have := h x hx
    exact ⟨rfl, this.1, by show x ≤ n - 1; omega⟩
/-- a whole good row is one of views -/
theorem rowok_iff {n : Nat} (hn : 0 < n) {r : Row'} : wholeB n (rowD r) = true ↔ RowOk n r := by
  have hnon : hasNon (rowD r) = false := by
    show (r.map lotD).any Dt.isNon = false
    rw [List.any_eq_false]
    intro d hd
    obtain ⟨l, _, rfl⟩ := List.mem_map.mp hd
    simp [lotD, Dt.isNon]
  unfold wholeB
  rw [hnon, Bool.not_false, Bool.and_true, ← law_row hn]
  unfold rowD lawRowB
  dsimp only
  rw [Bool.and_eq_true, Bool.and_eq_true, Bool.and_eq_true, decide_eq_true_eq, List.all_eq_true, List.all_eq_true, List.length_map]
  constructor
  · rintro ⟨⟨h1, _⟩, h2, h3⟩
    have vw : ∀ i l, r[i]? = some l → lawVw n (r.map lotD) i = true := fun i l h => h2 i ((thr_row r i).mpr (List.getElem?_eq_some_iff.mp h).1)
    have pr : ∀ i j l m, r[i]? = some l → r[j]? = some m → okPair (r.map lotD) i j = true := fun i j l m h h' => by
      have := h3 i ((thr_row r i).mpr (List.getElem?_eq_some_iff.mp h).1)
      rw [List.all_eq_true] at this
      exact this j ((thr_row r j).mpr (List.getElem?_eq_some_iff.mp h').1)
    refine ⟨h1, fun i l h => ?_, fun i l h => ?_, fun i l h => ?_, fun i j l m h h' => ?_, fun i j l m h h' => ?_⟩
    · have := (lawVw_iff.mp (vw i l h)).1
      rw [(vwAt_row h).2, lotOfB_lotD] at this
      exact this.2
    · have := (lawVw_iff.mp (vw i l h)).1
      rw [(vwAt_row h).2, lotOfB_lotD] at this
      exact this.1
    · have := (lawVw_iff.mp (vw i l h)).2
      rw [(vwAt_row h).2, lotOf_lotD] at this
      exact this
    · have := (pair_iff.mp (pr i j l m h h')).1
      rw [(vwAt_row h).1, (vwAt_row h').1] at this
      exact this
    · have := (pair_iff.mp (pr i j l m h h')).2
      rw [(vwAt_row h).1, (vwAt_row h').1] at this
      exact this
  · intro R
    refine ⟨⟨R.len, ?_⟩, fun i hi => ?_, fun i hi => ?_⟩
    · rw [Bool.not_eq_true', List.all_eq_false]
      have h0 : 0 < r.length := by rw [R.len]; exact hn
      exact ⟨lotD r[0], List.mem_map.mpr ⟨_, List.getElem_mem h0, rfl⟩, by simp [lotD, Dt.isNon]⟩
    · have h := List.getElem?_eq_getElem ((thr_row r i).mp hi)
      refine lawVw_iff.mpr ?_
      rw [(vwAt_row h).2, lotOfB_lotD, lotOf_lotD]
      exact ⟨⟨R.rng i _ h, R.up i _ h⟩, R.self i _ h⟩
    · rw [List.all_eq_true]
      intro j hj
      have h := List.getElem?_eq_getElem ((thr_row r i).mp hi)
      have h' := List.getElem?_eq_getElem ((thr_row r j).mp hj)
      refine pair_iff.mpr ?_
      rw [(vwAt_row h).1, (vwAt_row h').1]
      exact ⟨R.cmp i j _ _ h h', R.fit i j _ _ h h'⟩
theorem whole_row {n : Nat} (hn : 0 < n) {d : Dt} (h : wholeB n d = true) : ∃ r, d = rowD r ∧ RowOk n r := by
  have h' := h
  unfold wholeB at h
  rw [Bool.and_eq_true, Bool.not_eq_true'] at h
  obtain ⟨ds, rfl, hl, hv⟩ := at_tup h.1
  have hnn : ∀ d ∈ ds, d.isNon = false := fun d hd => by
    have := List.any_eq_false.mp (show ds.any Dt.isNon = false from h.2) d hd
    simpa using this
  have e : ds = (ds.map lotOf).map lotD := by
    rw [List.map_map]
    refine (List.map_id ds).symm.trans (List.map_congr_left fun x hx => ?_)
    obtain ⟨i, hi⟩ := List.mem_iff_getElem?.mp hx
    have hil := (List.getElem?_eq_some_iff.mp hi).1
    have := List.all_eq_true.mp hv i (List.mem_range.mpr hil)
    rw [List.getD_eq_getElem?_getD, hi] at this
    simp only [Option.getD_some] at this
    rw [hnn x hx, Bool.false_or] at this
    exact (lot_data (viewB_iff.mp this).1).1
  have e2 : Dt.tup ds = rowD (ds.map lotOf) := congrArg Dt.tup e
  rw [e2] at h' ⊢
  exact ⟨_, rfl, (rowok_iff hn).mp h'⟩
end Fp
/-! the way from a row to the row of all, and chains -/
namespace Fp
open PySem PySem.Spec PyProof.Rows L2
/-- unlike at just one place -/
def Unl (r s : Row') : Prop := r.length = s.length ∧ ∃ a : Nat, a < r.length ∧ r[a]? ≠ s[a]? ∧ ∀ b, b ≠ a → r[b]? = s[b]?
theorem Unl.symm {r s : Row'} (h : Unl r s) : Unl s r := by
  obtain ⟨e, a, h1, h2, h3⟩ := h
  exact ⟨e.symm, a, by omega, Ne.symm h2, fun b hb => (h3 b hb).symm⟩
theorem near_set {r : Row'} {a : Nat} {l : List Int} (h : r.set a l ≠ r) : Unl r (r.set a l) := by
  have ha : a < r.length := Classical.byContradiction fun c => h (List.set_eq_of_length_le (by omega))
  refine ⟨by rw [List.length_set], a, ha, fun e => h ?_, fun b hb => by rw [List.getElem?_set_ne (Ne.symm hb)]⟩
  rw [List.getElem?_set_self ha, List.getElem?_eq_getElem ha] at e
  have e := Option.some.inj e
  rw [← e]
  exact List.set_getElem_self ha
/-- neighbours are unlike at just one place -/
def Lnk (ls : List Row') : Prop := ∀ (i : Nat) (x y : Row'), ls[i]? = some x → ls[i + 1]? = some y → Unl x y
theorem Lnk.rev {ls : List Row'} (h : Lnk ls) : Lnk ls.reverse := by
  intro i x y hx hy
  have hi : i + 1 < ls.length := by
    have := (List.getElem?_eq_some_iff.mp hy).1
    rwa [List.length_reverse] at this
  rw [List.getElem?_reverse (by omega)] at hx hy
  have e : ls.length - 1 - i = (ls.length - 1 - (i + 1)) + 1 := by omega
  rw [e] at hx
  exact (h _ _ _ hy hx).symm
theorem Lnk.cons {a b : Row'} {ls : List Row'} (h : Unl a b) (g : Lnk (b :: ls)) : Lnk (a :: b :: ls) := by
  intro i x y hx hy
  cases i with
  | zero => cases hx; cases hy; exact h
  | succ i => exact g i x y hx hy
theorem Lnk.tail {a : Row'} {ls : List Row'} (g : Lnk (a :: ls)) : Lnk ls := fun i x y hx hy => g (i + 1) x y hx hy
theorem lnk_nil : Lnk [] := fun i x y hx _ => by simp at hx
theorem lnk_one (a : Row') : Lnk [a] := fun i x y hx hy => by simp at hy
theorem Lnk.app : ∀ {ls ms : List Row'} {z : Row'}, Lnk (ls ++ [z]) → Lnk (z :: ms) → Lnk (ls ++ [z] ++ ms)
  | [], ms, z, _, g => g
  | [a], ms, z, h, g => Lnk.cons (h 0 a z rfl rfl) g
  | a :: b :: r, ms, z, h, g => Lnk.cons (h 0 a b rfl rfl) (Lnk.app (ls := b :: r) h.tail g)
/-- doubles out -/
def ddL : Row' → List Row' → List Row'
  | _, [] => []
  | p, x :: xs => if x = p then ddL x xs else x :: ddL x xs
theorem dd_snoc : ∀ (p : Row') (xs : List Row') (x : Row'), ddL p (xs ++ [x]) = ddL p xs ++ if x = (p :: xs).getLast (by simp) then [] else [x]
  | p, [], x => by
    by_cases h : x = p <;> simp [ddL, h]
  | p, y :: ys, x => by
    have ih := dd_snoc y ys x
    show (if y = p then ddL y (ys ++ [x]) else y :: ddL y (ys ++ [x])) = (if y = p then ddL y ys else y :: ddL y ys) ++ _
    rw [List.getLast_cons (by simp)]
    split
    · exact ih
    · rw [ih]; rfl
theorem dd_mem : ∀ {p : Row'} {xs : List Row'} {x : Row'}, x ∈ ddL p xs → x ∈ xs
  | _, [], _, h => h
  | p, y :: ys, x, h => by
    unfold ddL at h
    split at h
    · exact List.mem_cons_of_mem _ (dd_mem h)
    · rcases List.mem_cons.mp h with e | h
      · rw [e]; exact List.mem_cons_self
      · exact List.mem_cons_of_mem _ (dd_mem h)
theorem dd_lnk : ∀ {p : Row'} {xs : List Row'}, (∀ (i : Nat) (x y : Row'), (p :: xs)[i]? = some x → (p :: xs)[i + 1]? = some y → y ≠ x → Unl x y) → Lnk (p :: ddL p xs) ∧ (p :: ddL p xs).getLast? = (p :: xs).getLast?
  | p, [], _ => ⟨lnk_one p, rfl⟩
  | p, y :: ys, h => by
    have ih := dd_lnk (p := y) (xs := ys) fun i x z hx hz => h (i + 1) x z hx hz
    unfold ddL
    by_cases e : y = p
    · rw [if_pos e]
      subst e
      refine ⟨ih.1, ih.2.trans ?_⟩
      rw [List.getLast?_cons_cons]
    · rw [if_neg e]
      refine ⟨Lnk.cons (h 0 p y rfl rfl e) ih.1, ?_⟩
      rw [List.getLast?_cons_cons, List.getLast?_cons_cons]
      exact ih.2
/-- hands, by the sizes of their views -/
structure OrdOk (n : Nat) (r : Row') (o : List Nat) : Prop where
  len : o.length = n
  nd : o.Nodup
  lt : ∀ x ∈ o, x < n
  siz : ∀ (i j a b : Nat), i ≤ j → o[i]? = some a → o[j]? = some b → (r.getD a []).length ≤ (r.getD b []).length
/-- the lots of the first hands -/
structure PreOk (o : List Nat) (pre : Nat → List Int) : Prop where
  up : ∀ k, List.Pairwise (· < ·) (pre k)
  mem : ∀ k (x : Int), x ∈ pre k ↔ ∃ a ∈ o.take k, x = ((a : Nat) : Int)
theorem nodup_at {o : List Nat} (h : o.Nodup) {i j a : Nat} (hi : o[i]? = some a) (hj : o[j]? = some a) : i = j := by
  obtain ⟨h1, e1⟩ := List.getElem?_eq_some_iff.mp hi
  obtain ⟨h2, e2⟩ := List.getElem?_eq_some_iff.mp hj
  have := List.pairwise_iff_getElem.mp h
  rcases Nat.lt_trichotomy i j with z | z | z
  · exact absurd (e1.trans e2.symm) (this i j h1 h2 z)
  · exact z
  · exact absurd (e2.trans e1.symm) (this j i h2 h1 z)
theorem mem_take_iff {o : List Nat} {k a : Nat} : a ∈ o.take k ↔ ∃ i, i < k ∧ o[i]? = some a := by
  rw [List.mem_iff_getElem?]
  constructor
  · rintro ⟨i, hi⟩
    rw [List.getElem?_take] at hi
    split at hi
    · exact ⟨i, ‹_›, hi⟩
    · cases hi
  · rintro ⟨i, h1, h2⟩
    exact ⟨i, by rw [List.getElem?_take, if_pos h1]; exact h2⟩
section
variable {n : Nat} {r : Row'} {o : List Nat} {pre : Nat → List Int}
theorem OrdOk.all (O : OrdOk n r o) {a : Nat} (ha : a < n) : ∃ i : Nat, o[i]? = some a ∧ i < n := by
  have : a ∈ o := Classical.byContradiction fun c => by
    have := nodup_le (l := a :: o) (m := List.range n) (List.nodup_cons.mpr ⟨c, O.nd⟩) fun x hx => by
      rcases List.mem_cons.mp hx with e | e
      · rw [e]; exact List.mem_range.mpr ha
      · exact List.mem_range.mpr (O.lt x e)
    rw [List.length_cons, O.len, List.length_range] at this
    omega
  obtain ⟨i, hi⟩ := List.mem_iff_getElem?.mp this
  exact ⟨i, hi, by rw [← O.len]; exact (List.getElem?_eq_some_iff.mp hi).1⟩
theorem OrdOk.get (O : OrdOk n r o) {i : Nat} (hi : i < n) : ∃ a, o[i]? = some a ∧ a < n := by
  have h : i < o.length := by rw [O.len]; exact hi
  exact ⟨o[i], List.getElem?_eq_getElem h, O.lt _ (List.getElem_mem h)⟩
def upR (r : Row') (o : List Nat) (pre : Nat → List Int) : Nat → Row'
  | 0 => r
  | k + 1 => (upR r o pre k).set (o.getD k 0) (pre (k + 1))
def dnR (r : Row') (o : List Nat) (pre : Nat → List Int) (n : Nat) : Nat → Row'
  | 0 => upR r o pre n
  | k + 1 => (dnR r o pre n k).set (o.getD (n - 1 - k) 0) (pre n)
theorem up_len : ∀ k, (upR r o pre k).length = r.length
  | 0 => rfl
  | k + 1 => by unfold upR; rw [List.length_set, up_len k]
theorem dn_len : ∀ k, (dnR r o pre n k).length = r.length
  | 0 => up_len n
  | k + 1 => by unfold dnR; rw [List.length_set, dn_len k]
theorem up_at (O : OrdOk n r o) (hr : r.length = n) : ∀ k, k ≤ n → ∀ i a : Nat, o[i]? = some a → (upR r o pre k)[a]? = if i < k then some (pre (i + 1)) else r[a]?
  | 0, _, i, a, _ => by rw [if_neg (by omega)]; rfl
  | k + 1, hk, i, a, h => by
    have ih := up_at O hr k (by omega) i a h
    obtain ⟨b, hb, hbn⟩ := O.get (i := k) (by omega)
    have eb : o.getD k 0 = b := by rw [List.getD_eq_getElem?_getD, hb]; rfl
    unfold upR
    rw [eb]
    by_cases e : i = k
    · subst e
      rw [h] at hb
      cases hb
      rw [List.getElem?_set_self (by rw [up_len, hr]; exact hbn), if_pos (by omega)]
    · have ne : b ≠ a := fun z => e (nodup_at O.nd h (z ▸ hb))
      rw [List.getElem?_set_ne ne, ih]
      by_cases c : i < k
      · rw [if_pos c, if_pos (by omega)]
      · rw [if_neg c, if_neg (by omega)]
theorem dn_at (O : OrdOk n r o) (hr : r.length = n) : ∀ k, k ≤ n → ∀ i a : Nat, o[i]? = some a → i < n → (dnR r o pre n k)[a]? = some (if i < n - k then pre (i + 1) else pre n)
  | 0, _, i, a, h, hi => by
    unfold dnR
    rw [up_at O hr n (Nat.le_refl n) i a h, if_pos hi, if_pos (by omega)]
  | k + 1, hk, i, a, h, hi => by
    have ih := dn_at O hr k (by omega) i a h hi
    obtain ⟨b, hb, hbn⟩ := O.get (i := n - 1 - k) (by omega)
    have eb : o.getD (n - 1 - k) 0 = b := by rw [List.getD_eq_getElem?_getD, hb]; rfl
    unfold dnR
    rw [eb]
    by_cases e : i = n - 1 - k
    · subst e
      rw [h] at hb
      cases hb
      rw [List.getElem?_set_self (by rw [dn_len, hr]; exact hbn), if_neg (by omega)]
    · have ne : b ≠ a := fun z => e (nodup_at O.nd h (z ▸ hb))
      rw [List.getElem?_set_ne ne, ih]
      by_cases c : i < n - k
      · rw [if_pos c, if_pos (by omega)]
      · rw [if_neg c, if_neg (by omega)]
theorem pre_mono (P : PreOk o pre) {i j : Nat} (h : i ≤ j) : ∀ x ∈ pre i, x ∈ pre j := fun x hx => by
  obtain ⟨a, ha, e⟩ := (P.mem i x).mp hx
  obtain ⟨l, hl, hla⟩ := mem_take_iff.mp ha
  exact (P.mem j x).mpr ⟨a, mem_take_iff.mpr ⟨l, by omega, hla⟩, e⟩
theorem pre_rng (O : OrdOk n r o) (P : PreOk o pre) (k : Nat) : ∀ x ∈ pre k, 0 ≤ x ∧ x < n := fun x hx => by
  obtain ⟨a, ha, e⟩ := (P.mem k x).mp hx
  have := O.lt a (List.mem_of_mem_take ha)
  omega
theorem pre_in (O : OrdOk n r o) (P : PreOk o pre) {i k a : Nat} (h : o[i]? = some a) : ((a : Nat) : Int) ∈ pre k ↔ i < k := by
  rw [P.mem]
  constructor
  · rintro ⟨b, hb, e⟩
    obtain ⟨j, hj, hjb⟩ := mem_take_iff.mp hb
    have e : a = b := by omega
    subst e
    have := nodup_at O.nd h hjb
    omega
  · intro hk
    exact ⟨a, mem_take_iff.mpr ⟨i, hk, h⟩, rfl⟩
theorem RowOk.lenAt (R : RowOk n r) {a : Nat} {l : List Int} (h : r[a]? = some l) : (r.getD a []).length = l.length := by rw [List.getD_eq_getElem?_getD, h]; rfl
/-- the views of hands that come earlier lie in those of later ones -/
theorem earlier (R : RowOk n r) (O : OrdOk n r o) {i j a b : Nat} {l m : List Int} (hij : i ≤ j) (ha : o[i]? = some a) (hb : o[j]? = some b) (hl : r[a]? = some l) (hm : r[b]? = some m) : ∀ x ∈ l, x ∈ m := by
  rcases R.cmp a b l m hl hm with z | z
  · exact z
  · have := O.siz i j a b hij ha hb
    rw [R.lenAt hl, R.lenAt hm] at this
    exact sub_eq (srt_nodup (R.up b m hm)) z (by omega)
theorem pre_sub (R : RowOk n r) (O : OrdOk n r o) (P : PreOk o pre) {k j b : Nat} {m : List Int} (hkj : k ≤ j + 1) (hb : o[j]? = some b) (hm : r[b]? = some m) : ∀ x ∈ pre k, x ∈ m := fun x hx => by
  obtain ⟨a, ha, e⟩ := (P.mem k x).mp hx
  obtain ⟨i, hi, hia⟩ := mem_take_iff.mp ha
  have hla : r[a]? = some (r[a]'(by rw [R.len]; exact O.lt a (List.mem_of_mem_take ha))) := List.getElem?_eq_getElem _
  subst e
  exact earlier R O (by omega) hia hb hla hm _ (R.self a _ hla)
theorem up_ok (R : RowOk n r) (O : OrdOk n r o) (P : PreOk o pre) {k : Nat} (hk : k ≤ n) : RowOk n (upR r o pre k) := by
  have hl : (upR r o pre k).length = n := (up_len k).trans R.len
  have view : ∀ (a : Nat) (l : List Int), (upR r o pre k)[a]? = some l → ∃ i, o[i]? = some a ∧ i < n ∧ ((i < k ∧ l = pre (i + 1)) ∨ (k ≤ i ∧ r[a]? = some l)) := fun a l h => by
    have ha : a < n := by rw [← hl]; exact (List.getElem?_eq_some_iff.mp h).1
    obtain ⟨i, hi, hin⟩ := O.all ha
    refine ⟨i, hi, hin, ?_⟩
    rw [up_at O R.len k hk i a hi] at h
    by_cases c : i < k
    · rw [if_pos c] at h; exact .inl ⟨c, (Option.some.inj h).symm⟩
    · rw [if_neg c] at h; exact .inr ⟨by omega, h⟩
  refine ⟨hl, fun a l h => ?_, fun a l h => ?_, fun a l h => ?_, fun a b l m h h' => ?_, fun a b l m h h' hin => ?_⟩
  · obtain ⟨i, _, _, ⟨_, rfl⟩ | ⟨_, q⟩⟩ := view a l h
    · exact P.up _
    · exact R.up a l q
  · obtain ⟨i, _, _, ⟨_, rfl⟩ | ⟨_, q⟩⟩ := view a l h
    · exact pre_rng O P _
    · exact R.rng a l q
  · obtain ⟨i, hi, _, ⟨_, rfl⟩ | ⟨_, q⟩⟩ := view a l h
    · exact (pre_in O P hi).mpr (by omega)
    · exact R.self a l q
  · obtain ⟨i, hi, _, ⟨c1, rfl⟩ | ⟨c1, q1⟩⟩ := view a l h
    · obtain ⟨j, hj, _, ⟨c2, rfl⟩ | ⟨c2, q2⟩⟩ := view b m h'
      · rcases Nat.le_total (i + 1) (j + 1) with z | z
        · exact .inl (pre_mono P z)
        · exact .inr (pre_mono P z)
      · exact .inl (pre_sub R O P (by omega) hj q2)
    · obtain ⟨j, hj, _, ⟨c2, rfl⟩ | ⟨c2, q2⟩⟩ := view b m h'
      · exact .inr (pre_sub R O P (by omega) hi q1)
      · exact R.cmp a b l m q1 q2
  · obtain ⟨i, hi, _, ⟨c1, rfl⟩ | ⟨c1, q1⟩⟩ := view a l h
    · obtain ⟨j, hj, _, ⟨c2, rfl⟩ | ⟨c2, q2⟩⟩ := view b m h'
      · have := (pre_in O P hi).mp hin
        exact pre_mono P (by omega)
      · exact pre_sub R O P (by omega) hj q2
    · obtain ⟨j, hj, _, ⟨c2, rfl⟩ | ⟨c2, q2⟩⟩ := view b m h'
      · have := (pre_in O P hi).mp hin
        omega
      · exact R.fit a b l m q1 q2 hin
theorem dn_ok (R : RowOk n r) (O : OrdOk n r o) (P : PreOk o pre) {k : Nat} (hk : k ≤ n) : RowOk n (dnR r o pre n k) := by
  have hl : (dnR r o pre n k).length = n := (dn_len k).trans R.len
  have view : ∀ (a : Nat) (l : List Int), (dnR r o pre n k)[a]? = some l → ∃ i, o[i]? = some a ∧ i < n ∧ ((i < n - k ∧ l = pre (i + 1)) ∨ (n - k ≤ i ∧ l = pre n)) := fun a l h => by
    have ha : a < n := by rw [← hl]; exact (List.getElem?_eq_some_iff.mp h).1
    obtain ⟨i, hi, hin⟩ := O.all ha
    refine ⟨i, hi, hin, ?_⟩
    rw [dn_at O R.len k hk i a hi hin] at h
    by_cases c : i < n - k
    · rw [if_pos c] at h; exact .inl ⟨c, (Option.some.inj h).symm⟩
    · rw [if_neg c] at h; exact .inr ⟨by omega, (Option.some.inj h).symm⟩
  refine ⟨hl, fun a l h => ?_, fun a l h => ?_, fun a l h => ?_, fun a b l m h h' => ?_, fun a b l m h h' hin => ?_⟩
  · obtain ⟨i, _, _, ⟨_, rfl⟩ | ⟨_, rfl⟩⟩ := view a l h <;> exact P.up _
  · obtain ⟨i, _, _, ⟨_, rfl⟩ | ⟨_, rfl⟩⟩ := view a l h <;> exact pre_rng O P _
  · obtain ⟨i, hi, hin, ⟨_, rfl⟩ | ⟨_, rfl⟩⟩ := view a l h
    · exact (pre_in O P hi).mpr (by omega)
    · exact (pre_in O P hi).mpr hin
  · have cmp : ∀ u v, (∀ x ∈ pre u, x ∈ pre v) ∨ ∀ x ∈ pre v, x ∈ pre u := fun u v => (Nat.le_total u v).imp (pre_mono P) (pre_mono P)
    obtain ⟨i, hi, _, ⟨_, rfl⟩ | ⟨_, rfl⟩⟩ := view a l h <;> obtain ⟨j, hj, _, ⟨_, rfl⟩ | ⟨_, rfl⟩⟩ := view b m h' <;> exact cmp _ _
  · obtain ⟨i, hi, hi2, ⟨c1, rfl⟩ | ⟨c1, rfl⟩⟩ := view a l h <;> obtain ⟨j, hj, hj2, ⟨c2, rfl⟩ | ⟨c2, rfl⟩⟩ := view b m h'
    · have := (pre_in O P hi).mp hin
      exact pre_mono P (by omega)
    · exact pre_mono P (by omega)
    · have := (pre_in O P hi).mp hin
      omega
    · exact pre_mono P (Nat.le_refl _)
/-- the row of all -/
def fullL (n : Nat) : List Int := (List.range n).map fun (i : Nat) => (i : Int)
theorem fullL_up (n : Nat) : (fullL n).Pairwise (· < ·) := by
  unfold fullL
  rw [List.pairwise_map]
  exact List.pairwise_lt_range.imp fun h => by omega
theorem pre_all (O : OrdOk n r o) (P : PreOk o pre) : pre n = fullL n := by
  refine srt_eq (P.up n) (fullL_up n) fun x => ?_
  rw [P.mem]
  unfold fullL
  rw [List.mem_map, List.take_of_length_le (by rw [O.len]; exact Nat.le_refl _)]
  constructor
  · rintro ⟨a, ha, e⟩
    exact ⟨a, List.mem_range.mpr (O.lt a ha), e.symm⟩
  · rintro ⟨a, ha, e⟩
    obtain ⟨i, hi, _⟩ := O.all (List.mem_range.mp ha)
    exact ⟨a, List.mem_of_getElem? hi, e.symm⟩
theorem dn_all (R : RowOk n r) (O : OrdOk n r o) (P : PreOk o pre) : dnR r o pre n n = List.replicate n (fullL n) := by
  refine List.ext_getElem? fun a => ?_
  by_cases ha : a < n
  · obtain ⟨i, hi, hin⟩ := O.all ha
    rw [dn_at O R.len n (Nat.le_refl n) i a hi hin, if_neg (by omega), List.getElem?_replicate, if_pos ha, pre_all O P]
  · rw [List.getElem?_eq_none (by rw [dn_len, R.len]; omega), List.getElem?_eq_none (by rw [List.length_replicate]; omega)]
/-- all rows on the way -/
def wayR (r : Row') (o : List Nat) (pre : Nat → List Int) (n : Nat) : List Row' := ((List.range n).map fun k => upR r o pre (k + 1)) ++ (List.range n).map fun k => dnR r o pre n (k + 1)
theorem way_len : (wayR r o pre n).length = n + n := by simp [wayR]
theorem way_at {i : Nat} : (r :: wayR r o pre n)[i]? = if i ≤ n then some (upR r o pre i) else if i ≤ n + n then some (dnR r o pre n (i - n)) else none := by
  cases i with
  | zero => rw [if_pos (Nat.zero_le _)]; rfl
  | succ i =>
    rw [List.getElem?_cons_succ]
    unfold wayR
    by_cases h : i < n
    · rw [if_pos (by omega), List.getElem?_append_left (by simp; exact h), List.getElem?_map, List.getElem?_range h]; rfl
    · rw [if_neg (by omega), List.getElem?_append_right (by simp; omega), List.length_map, List.length_range, List.getElem?_map]
      by_cases h2 : i - n < n
      · rw [if_pos (by omega), List.getElem?_range h2, show i + 1 - n = i - n + 1 by omega]; rfl
      · rw [if_neg (by omega), List.getElem?_eq_none (by rw [List.length_range]; omega)]; rfl
def wayOf (r : Row') (o : List Nat) (pre : Nat → List Int) (n : Nat) : List Row' := r :: ddL r (wayR r o pre n)
structure WayOk (n : Nat) (r : Row') (ls : List Row') : Prop where
  ok : ∀ x ∈ ls, RowOk n x
  lnk : Lnk ls
  head : ls.head? = some r
  last : ls.getLast? = some (List.replicate n (fullL n))
  len : ls.length ≤ n + n + 1
theorem way_ok (hn : 0 < n) (R : RowOk n r) (O : OrdOk n r o) (P : PreOk o pre) : WayOk n r (wayOf r o pre n) := by
  have all : ∀ (i : Nat) x, (r :: wayR r o pre n)[i]? = some x → RowOk n x := fun i x h => by
    rw [way_at] at h
    by_cases c : i ≤ n
    · rw [if_pos c] at h
      rw [← Option.some.inj h]
      exact up_ok R O P c
    · rw [if_neg c] at h
      by_cases c2 : i ≤ n + n
      · rw [if_pos c2] at h
        rw [← Option.some.inj h]
        exact dn_ok R O P (by omega)
      · rw [if_neg c2] at h; cases h
  have near : ∀ (i : Nat) (x y : Row'), (r :: wayR r o pre n)[i]? = some x → (r :: wayR r o pre n)[i + 1]? = some y → y ≠ x → Unl x y := fun i x y hx hy ne => by
    rw [way_at] at hx hy
    by_cases c : i + 1 ≤ n
    · rw [if_pos (by omega)] at hx
      rw [if_pos c] at hy
      rw [← Option.some.inj hx, ← Option.some.inj hy] at ne ⊢
      exact near_set ne
    · rw [if_neg c] at hy
      by_cases c2 : i + 1 ≤ n + n
      · rw [if_pos c2] at hy
        have e : x = dnR r o pre n (i - n) := by
          by_cases c3 : i ≤ n
          · rw [if_pos c3] at hx
            have : i = n := by omega
            subst this
            rw [Nat.sub_self]
            exact (Option.some.inj hx).symm
          · rw [if_neg c3, if_pos (by omega)] at hx
            exact (Option.some.inj hx).symm
        have e2 : i + 1 - n = i - n + 1 := by omega
        rw [e2] at hy
        rw [e, ← Option.some.inj hy] at ne ⊢
        exact near_set ne
      · rw [if_neg c2] at hy; cases hy
  obtain ⟨h1, h2⟩ := dd_lnk near
  refine ⟨fun x hx => ?_, h1, rfl, h2.trans ?_, ?_⟩
  · have : x ∈ r :: wayR r o pre n := by
      rcases List.mem_cons.mp hx with e | e
      · rw [e]; exact List.mem_cons_self
      · exact List.mem_cons_of_mem _ (dd_mem e)
    obtain ⟨i, hi⟩ := List.mem_iff_getElem?.mp this
    exact all i x hi
  · rw [List.getLast?_eq_getElem?, way_at, List.length_cons, way_len, if_neg (by omega), if_pos (by omega), ← dn_all R O P]
    congr 2
    omega
  · have dl : ∀ (p : Row') (xs : List Row'), (ddL p xs).length ≤ xs.length := fun p xs => by
      induction xs generalizing p with
      | nil => exact Nat.le_refl _
      | cons a t ih =>
        unfold ddL
        have := ih a
        split
        · rw [List.length_cons]; omega
        · rw [List.length_cons, List.length_cons]; omega
    have := dl r (wayR r o pre n)
    rw [way_len] at this
    show (ddL r (wayR r o pre n)).length + 1 ≤ _
    omega
end
/-- a chain of rows -/
structure ChOk (n : Nat) (a b : Row') (ls : List Row') : Prop where
  ok : ∀ x ∈ ls, RowOk n x
  lnk : Lnk ls
  head : ls.head? = some a
  last : ls.getLast? = some b
theorem ways_ch {n : Nat} {a b : Row'} {ls ms : List Row'} (h : WayOk n a ls) (g : WayOk n b ms) : ChOk n a b (ls ++ ms.dropLast.reverse) := by
  rcases List.eq_nil_or_concat ls with rfl | ⟨l0, z, e1⟩
  · have := h.head; cases this
  rcases List.eq_nil_or_concat ms with rfl | ⟨m0, y, e2⟩
  · have := g.head; cases this
  rw [List.concat_eq_append] at e1 e2
  subst e1 e2
  have ez : z = List.replicate n (fullL n) := by have := h.last; simpa using this
  have ey : y = List.replicate n (fullL n) := by have := g.last; simpa using this
  have eyz : y = z := ey.trans ez.symm
  subst eyz
  have ed : (m0 ++ [y]).dropLast = m0 := by simp
  rw [ed]
  have hr := g.lnk.rev
  rw [List.reverse_append] at hr
  refine ⟨fun x hx => ?_, Lnk.app h.lnk hr, ?_, ?_⟩
  · rcases List.mem_append.mp hx with q | q
    · exact h.ok x q
    · exact g.ok x (List.mem_append_left _ (List.mem_reverse.mp q))
  · rw [List.head?_append, h.head]; rfl
  · rw [List.getLast?_append, List.getLast?_reverse]
    cases m0 with
    | nil =>
      have := g.head
      simp at this
      subst this
      simp
    | cons c t =>
      have := g.head
      simp at this
      subst this
      simp
end Fp
/-! t[::-1] of a tuple; xs[-2::-1] of a list -/
namespace Fp
open PySem PySem.Spec PyProof.Rows L2
section
variable {prog : Program} {w : World} {A : Around} {E : Value → Shared → Prop} {s : Shared}
theorem applied_rev {sl : Addr} {vs : Value} {n : Nat} {Q : Int × Int × Nat → Shared → Prop} (hs : s.heap.IsSliceOf sl .none .none vs) (ps : IsPart vs (some (-1))) (h : Q ((n : Int) - 1, -1, n) s) :
    wpAny (model prog w) A (Builtin.Slice.sliceApplied (.ref sl) (pure (n : Int))) Q E s := by
  obtain ⟨os, hos, hcs, hds⟩ := id hs
  unfold Builtin.Slice.sliceApplied Builtin.Slice.sliceFields
  refine wpAny_bind (wpAny_bind (wpAny_field hos hds (x := .none) rfl (wpAny_bind (wpAny_field hos hds (x := .none) rfl (wpAny_bind (wpAny_field hos hds (x := vs) rfl (wpAny_pure ?_)))))))
  refine wpAny_bind (HT.slicePart_ ps ?_)
  show wpAny _ _ (if ((-1 : Int) == 0) = true then _ else _) _ _ s
  rw [if_neg (by decide)]
  refine wpAny_bind (slicePart_none (wpAny_bind (slicePart_none (wpAny_bind (wpAny_pure ?_)))))
  have e : Builtin.Slice.sliceAdjust none none (-1) (n : Int) = ((n : Int) - 1, -1) := by
    unfold Builtin.Slice.sliceAdjust
    simp only [show ((-1 : Int) < 0) by decide, if_true]
  have p : Builtin.Slice.slicePlaces ((n : Int) - 1) (-1) (-1) = n := by
    unfold Builtin.Slice.slicePlaces
    simp only [show ¬ ((-1 : Int) > 0) by decide, if_false]
    by_cases c : (n : Int) - 1 > -1
    · rw [if_pos c, show (-(-1) : Int) = 1 by decide, Int.ediv_one]; omega
    · rw [if_neg c]; omega
  show wpAny _ _ (match Builtin.Slice.sliceAdjust none none (-1) (n : Int) with | (lo, hi) => pure (lo, (-1 : Int), Builtin.Slice.slicePlaces lo hi (-1))) _ _ s
  rw [e]
  show wpAny _ _ (pure ((n : Int) - 1, (-1 : Int), Builtin.Slice.slicePlaces ((n : Int) - 1) (-1) (-1))) _ _ s
  rw [p]
  exact wpAny_pure h
theorem pick_rev (xs : Array Value) : ((List.range xs.size).filterMap fun (m : Nat) => xs[(((xs.size : Nat) : Int) - 1 + (m : Int) * (-1)).toNat]?).toArray = xs.toList.reverse.toArray := by
  have e : ((List.range xs.size).filterMap fun (m : Nat) => xs[(((xs.size : Nat) : Int) - 1 + (m : Int) * (-1)).toNat]?) = ((List.range xs.size).map (fun k => xs.size - 1 - k)).filterMap (xs[·]?) := by
    rw [List.filterMap_map]
    refine congrArg (fun f => List.filterMap f (List.range xs.size)) (funext fun m => ?_)
    show xs[(((xs.size : Nat) : Int) - 1 + (m : Int) * (-1)).toNat]? = xs[xs.size - 1 - m]?
    congr 1
    omega
  rw [e, PySem.W.krv_range, List.filterMap_reverse, PySem.W.krv_all]
theorem item_rev {t sl : Addr} {items : Array Value} {vs : Value} {Q : Value → Shared → Prop} (ht : IsTup s.heap t items) (hs : s.heap.IsSliceOf sl .none .none vs) (ps : IsPart vs (some (-1)))
    (h : Q (.ref s.heap.objs.size) { s with heap := s.heap.push { cls := .type "tuple", data := .seq items.toList.reverse.toArray } }) (hsz : items.size ≤ sizeLine) : wpAny (model prog w) A (getItem (.ref t) (.ref sl)) Q E s := by
  have hok : sizeOk (.seq items.toList.reverse.toArray) := by
    show items.toList.reverse.toArray.size ≤ sizeLine
    rw [List.size_toArray, List.length_reverse, Array.length_toList]
    exact hsz
  obtain ⟨os, hos, hcs, hds⟩ := id hs
  have hTs : s.TypeIs (.ref sl) "slice" := ⟨os, hos, hcs⟩
  unfold getItem
  try with_reducible refine wpAny_holding ?_
  first | refine wpAny_bind (wpAny_pure ?_) | skip
  refine wpAny_bind (wpAny_sequenceKey ht.typeIs (by decide) ?_)
  refine wpAny_bind (wpAny_callSpecial?_slot (name := Str.ofString "__getitem__") ht.typeIs PyProof.Rows.slot_tuple_getitem
    (wpAny_call_entry PyProof.Rows.slot_tuple_getitem ht.typeIs entry_tuple_getitem ?_ (args_tuple_getitem _ _)))
  show wpAny _ _ (Builtin.Tuple.tupleItemsOf (.ref t) >>= _) _ _ s
  refine wpAny_bind (tupleItemsOf_ ht (wpAny_bind (wpAny_typeOf hTs ?_)))
  rw [if_pos (by decide)]
  refine wpAny_bind (applied_rev hs ps ?_)
  have hno : ¬ ((((items.size : Nat) : Int) - 1 == 0 && (-1 : Int) == 1 && items.size == items.size) = true) := fun q => by
    rw [Bool.and_eq_true, Bool.and_eq_true] at q
    exact absurd q.1.2 (by decide)
  show wpAny _ _ (if (((items.size : Nat) : Int) - 1 == 0 && (-1 : Int) == 1 && items.size == items.size) = true then _ else _) _ _ s
  rw [if_neg hno, pick_rev]
  first
    | exact wpAny_bind (m := Builtin.Tuple.tupleExact _) (wpAny_newObj_type (wpAny_pure ⟨_, rfl, wpAny_pure h⟩) hok)
    | exact wpAny_bind (m := Builtin.Tuple.tupleExact _) (wpAny_newObj_type (wpAny_bind (wpAny_pure (wpAny_pure ⟨_, rfl, wpAny_pure h⟩))) hok)
    | exact wpAny_bind (wpAny_bind (m := Builtin.Tuple.tupleExact _) (wpAny_newObj_type (wpAny_pure (wpAny_pure ⟨_, rfl, wpAny_pure h⟩)) hok))
    | exact wpAny_bind (wpAny_bind (m := Builtin.Tuple.tupleExact _) (wpAny_newObj_type (wpAny_pure ⟨_, rfl, wpAny_pure h⟩) hok))
end
theorem fm_congr {α β : Type} {f g : α → Option β} : ∀ {l : List α}, (∀ x ∈ l, f x = g x) → l.filterMap f = l.filterMap g
  | [], _ => rfl
  | a :: l, h => by
    rw [List.filterMap_cons, List.filterMap_cons, h a (by simp), fm_congr fun x hx => h x (List.mem_cons_of_mem _ hx)]
theorem pick_back (items : Array Value) (hn : 1 ≤ items.size) : slicePick items (some (-2)) none (some (-1)) = items.toList.dropLast.reverse.toArray := by
  have e : sliceBounds (some (-2)) none (some (-1)) items.size = (((items.size - 1 : Nat) : Int) - 1, -1, -1) := by
    unfold sliceBounds
    simp only [Option.getD_some, show ¬ ((-1 : Int) > 0) by decide, if_false, show ((-2 : Int) < 0) by decide, if_true]
    refine Prod.ext ?_ rfl
    show max (-1) (min (-2 + ((items.size : Nat) : Int)) (((items.size : Nat) : Int) - 1)) = ((items.size - 1 : Nat) : Int) - 1
    omega
  unfold slicePick
  rw [e]
  show ((sliceRange (((items.size - 1 : Nat) : Int) - 1) (-1) (-1)).filterMap (items[·]?)).toArray = _
  rw [PySem.W.krv_sliceRange, PySem.W.krv_range, List.filterMap_reverse]
  congr 2
  have h := PySem.W.krv_all (items.toList.dropLast.toArray)
  rw [show items.toList.dropLast.toArray.size = items.size - 1 by simp] at h
  rw [show items.toList.dropLast = items.toList.dropLast.toArray.toList by simp, ← h]
  refine fm_congr fun x hx => ?_
  have hx := List.mem_range.mp hx
  show items[x]? = items.toList.dropLast.toArray[x]?
  have e1 : items.toList.dropLast.toArray[x]? = items.toList.dropLast[x]? := by simp
  rw [e1, List.getElem?_dropLast, if_pos (by rw [Array.length_toList]; exact hx), Array.getElem?_toList]
def tRevT (K : PySem.W.Frag) (te : TE) : TE := fun σ H Q => te σ H fun x H1 => ∃ a xs, x = .ref a ∧ SqT K H1 a xs ∧ ∀ p, H1 p = none → Q (.ref p) (upd H1 p (.tup xs.reverse))
def tBack (K : PySem.W.Frag) (te : TE) : TE := fun σ H Q => te σ H fun x H1 => ∃ a xs, x = .ref a ∧ SqL K H1 a xs ∧ xs ≠ [] ∧ ∀ p, H1 p = none → Q (.ref p) (upd H1 p (.lst xs.dropLast.reverse))
theorem Vals.dropLast' : ∀ {xs : List V} {us : List Value}, Vals xs us → Vals xs.dropLast us.dropLast
  | _, _, .nil => .nil
  | [_], [_], .cons _ .nil => .nil
  | _ :: _ :: _, _ :: _ :: _, .cons h (.cons g t) => .cons h (Vals.dropLast' (.cons g t))
section
variable {X : Cx}
theorem pe_revT {e : Expr} {te : TE} {k : Nat} {p1 p2 p3 pos : Pos} (he : PE X e te) : PE X (.Subscript e (.Slice none none (some (.UnaryOp .USub (.Constant (.int 1) k p1) p2)) p3) pos) (tRevT X.K te) := by
  refine ⟨fun pins s σ H Q I h => ?_⟩
  refine Subscript_ (thn (he.run pins s σ H _ I h) fun v s1 ⟨x, H1, I1, r1, q1⟩ => ?_)
  obtain ⟨a, xs, ex, hx, q⟩ := q1
  subst ex
  cases r1
  have hst : PO X (some (.UnaryOp .USub (.Constant (.int 1) k p1) p2)) (tPart (tUn (rU fun i => .int (-i)) (tC (.int 1)))) := po_some (pe_un un_neg pe_int)
  refine wpAny_Slice (thn (po_none.run pins s1 σ H1 (fun o H2 => o = none ∧ H2 = H1) I1 ⟨rfl, rfl⟩) fun vl s2 ⟨l, H2, I2, pL, el, e2⟩ => ?_)
  subst el e2
  refine thn (po_none.run pins s2 σ H2 (fun o H3 => o = none ∧ H3 = H2) I2 ⟨rfl, rfl⟩) fun vu s3 ⟨u, H3, I3, pu, eu, e3⟩ => ?_
  subst eu e3
  refine thn (hst.run pins s3 σ H3 (fun o H4 => o = some (-1) ∧ H4 = H3) I3 ⟨1, rfl, -1, rfl, rfl, rfl⟩) fun vs s4 ⟨o, H4, I4, ps, eo, e4⟩ => ?_
  subst eo e4
  cases pL
  cases pu
  have I5 : Inv X pins σ H4 { s4 with heap := s4.heap.push { cls := .type "slice", data := .fields #[.none, .none, vs] } } := I4.kept (t' := s4.toks) fun b ob q => Heap.get?_push_of_some _ q
  obtain ⟨its, r, ht, hz⟩ := I5.tuple hx
  have hlen := r.length
  show wpAny (model X.prog X.w) X.A (subscriptTail e (.Slice none none (some (.UnaryOp .USub (.Constant (.int 1) k p1) p2)) p3) (.ref a) (.ref s4.heap.objs.size)) (EP X pins σ Q) X.xe { s4 with heap := s4.heap.push { cls := .type "slice", data := .fields #[.none, .none, vs] } }
  refine tail_any (ops := [.ref a, .ref s4.heap.objs.size]) ht.typeIs (PyProof.Rows.slot_tuple_getitem.lookup) ?_ (by with_unfolding_all rfl)
  refine item_rev ht (Heap.IsSliceOf.new _ .none .none vs) ps ?_ (by rw [List.size_toArray]; omega)
  refine ⟨.ref _, _, I5.laid (t' := s4.toks) (o := .tup xs.reverse) (fun b ob q => Heap.get?_push_of_some _ q) (Nat.le_refl _) ?_, rfl, q _ (I5.hok.fresh (Nat.le_refl _))⟩
  exact ⟨by rw [List.length_reverse]; exact hz, _, r.reverse, IsTup.new _ _⟩
theorem pe_back2 {e : Expr} {te : TE} {k k2 : Nat} {p1 p2 p3 p4 p5 pos : Pos} (he : PE X e te) : PE X (.Subscript e (.Slice (some (.UnaryOp .USub (.Constant (.int 2) k2 p4) p5)) none (some (.UnaryOp .USub (.Constant (.int 1) k p1) p2)) p3) pos) (tBack X.K te) := by
  refine ⟨fun pins s σ H Q I h => ?_⟩
  refine Subscript_ (thn (he.run pins s σ H _ I h) fun v s1 ⟨x, H1, I1, r1, q1⟩ => ?_)
  obtain ⟨a, xs, ex, hx, hne, q⟩ := q1
  subst ex
  cases r1
  have hst : PO X (some (.UnaryOp .USub (.Constant (.int 1) k p1) p2)) (tPart (tUn (rU fun i => .int (-i)) (tC (.int 1)))) := po_some (pe_un un_neg pe_int)
  have hst2 : PO X (some (.UnaryOp .USub (.Constant (.int 2) k2 p4) p5)) (tPart (tUn (rU fun i => .int (-i)) (tC (.int 2)))) := po_some (pe_un un_neg pe_int)
  refine wpAny_Slice (thn (hst2.run pins s1 σ H1 (fun o H2 => o = some (-2) ∧ H2 = H1) I1 ⟨2, rfl, -2, rfl, rfl, rfl⟩) fun vl s2 ⟨l, H2, I2, pL, el, e2⟩ => ?_)
  subst el e2
  refine thn (po_none.run pins s2 σ H2 (fun o H3 => o = none ∧ H3 = H2) I2 ⟨rfl, rfl⟩) fun vu s3 ⟨u, H3, I3, pu, eu, e3⟩ => ?_
  subst eu e3
  refine thn (hst.run pins s3 σ H3 (fun o H4 => o = some (-1) ∧ H4 = H3) I3 ⟨1, rfl, -1, rfl, rfl, rfl⟩) fun vs s4 ⟨o, H4, I4, ps, eo, e4⟩ => ?_
  subst eo e4
  have I5 : Inv X pins σ H4 { s4 with heap := s4.heap.push { cls := .type "slice", data := .fields #[vl, vu, vs] } } := I4.kept (t' := s4.toks) fun b ob q => Heap.get?_push_of_some _ q
  obtain ⟨its, r, ht, hz⟩ := I5.list hx
  have hlen := r.length
  have h1 : 1 ≤ its.toArray.size := by
    have := List.length_pos_iff.mpr hne
    rw [List.size_toArray]; omega
  show wpAny (model X.prog X.w) X.A (subscriptTail e (.Slice (some (.UnaryOp .USub (.Constant (.int 2) k2 p4) p5)) none (some (.UnaryOp .USub (.Constant (.int 1) k p1) p2)) p3) (.ref a) (.ref s4.heap.objs.size)) (EP X pins σ Q) X.xe { s4 with heap := s4.heap.push { cls := .type "slice", data := .fields #[vl, vu, vs] } }
  refine tail_any (ops := [.ref a, .ref s4.heap.objs.size]) ht.isList.typeIs (PySem.slot_list_getitem.lookup) ?_ (by with_unfolding_all rfl)
  refine wpAny_getItem_list_slice ht.isList (Heap.IsSliceOf.new _ vl vu vs) pL pu ps (by decide) ?_ (by rw [List.size_toArray]; omega)
  rw [pick_back _ h1]
  refine ⟨.ref _, _, I5.laid (t' := s4.toks) (o := .lst xs.dropLast.reverse) (fun b ob q => Heap.get?_push_of_some _ q) (Nat.le_refl _) ?_, rfl, q _ (I5.hok.fresh (Nat.le_refl _))⟩
  exact ⟨by rw [List.length_reverse, List.length_dropLast]; omega, _, 0, (Vals.dropLast' r).reverse, Heap.get?_push_size _ rfl⟩
end
end Fp
namespace Fp
open PySem PySem.Spec PyProof.Rows L2
/-- how many places of two rows are unlike -/
def neI (ds es : List Dt) (i : Nat) : Bool := !PyData.eqv (toP 2 (ds.getD i .non)) (toP 2 (es.getD i .non))
def unl (ds es : List Dt) : Nat := ((List.range ds.length).filter (neI ds es)).length
def spExcD : Sp := fun vs H Q _ => ∃ (v y : V) (p : Nat) (ds : List Dt) (e : Dt), vs = [v, .int p, y] ∧ DV H v (.tup ds) ∧ DV H y e ∧ p < ds.length ∧ ∀ c H', Same H H' → DV H' (.ref c) (.tup (ds.set p e)) → Q (.ref c) H'
def spLotOfD (K : PySem.W.Frag) : Sp := fun vs H Q _ => ∃ (a : Addr) (ns : List Int), vs = [.ref a] ∧ SqL K H a (ns.map V.int) ∧ ns.length < 60 ∧ ∀ c H' zs, Same H H' → zs.Pairwise (· < ·) → (∀ x : Int, x ∈ zs ↔ x ∈ ns) → DV H' (.ref c) (lotD zs) → Q (.ref c) H'
def spUnlD : Sp := fun vs H Q _ => ∃ (v y : V) (ds es : List Dt), vs = [v, y] ∧ DV H v (.tup ds) ∧ DV H y (.tup es) ∧ ds.length = es.length ∧ pl 3 (.tup ds) = true ∧ pl 3 (.tup es) = true ∧ ∀ H', Same H H' → Q (.int (unl ds es : Nat)) H'
theorem dvs_ints (H : Hp) : ∀ zs : List Int, DVs H (zs.map V.int) (zs.map Dt.int)
  | [] => .nil
  | z :: r => .cons (.int z) (dvs_ints H r)
theorem u64 {k : Nat} {A : Around} (r : Room k A) : A.units + 64 < cLine := by have := u65 r; omega
section
variable {P : Program} {w : World} {K : PySem.W.Frag} {mg : Str → Option Value} {base : Heap} {f : Addr} {fd : FuncData} {C : Addr}
abbrev s_exchanged : Stmt := top 17
theorem sc_exchanged : FnScope ["row", "at", "thing"] ["row", "at", "thing"] (defScope s_exchanged) := ⟨rfl, rfl, rfl, by decide +kernel, rfl, by decide +kernel, by decide +kernel⟩
theorem ok_exchanged (F : Fun K "exchanged" "exchanged" s_exchanged f fd) : FnOk P w K mg base CX0 1 f fd ["row", "at", "thing"] spExcD := by
  refine F.ok sc_exchanged (fun vs H Q E h => ?_) (fun cdv A outer s H vs Q E hr h => ?_)
  · obtain ⟨v, y, p, ds, e, rfl, _⟩ := h
    rfl
  obtain ⟨v, y, p, ds, e, rfl, hd, hy, hp, k⟩ := h
  refine ⟨_, (pss_one (ps_ret (pe_op op_catA (pe_op op_catA (pe_slice sl_tupA (pv 0) po_none (po_some (pv 1))) (pe_tup (pa_cons (pv 2) pa_nil))) (pe_slice sl_tupA (pv 0) (po_some (pe_op op_add (pv 1) pe_int)) po_none)))), ?_⟩
  cases hd with
  | @tup a xs _ ha hds hl =>
    have hxl := hds.len
    refine ⟨_, rfl, ?_⟩
    refine noP_in ?_
    refine ⟨_, rfl, _, rfl, ?_⟩
    refine slA_any ha fun b H1 g1 hb => ?_
    rw [cutA_to] at hb
    refine ⟨_, rfl, szl (by show 1 ≤ _; decide), fun t nt => ?_⟩
    have g2 := same_new nt (.tup [y])
    refine catA_any (g2 _ _ hb) upd_same (by rw [List.length_take]; show _ + 1 ≤ _; omega) fun c H2 g3 hc => ?_
    have g13 := (g1.trans g2).trans g3
    refine ⟨_, rfl, _, rfl, _, _, rfl, rfl, _, rfl, ?_⟩
    refine noP_in ?_
    refine slA_any (g13 _ _ ha) fun b2 H3 g4 hb2 => ?_
    rw [show ((p : Int) + 1) = ((p + 1 : Nat) : Int) by omega, cutA_from] at hb2
    refine catA_any (g4 _ _ hc) hb2 (by simp only [List.length_append, List.length_take, List.length_drop, List.length_singleton]; omega) fun c2 H4 g5 hc2 => ?_
    have g := (g13.trans g4).trans g5
    refine k c2 H4 g (.tup (xs := xs.set p y) ?_ (DVs.set (hy.same g) (hds.same g)) (by rw [List.length_set]; exact hl))
    rw [hc2, List.set_eq_take_append_cons_drop, if_pos (by omega)]
    simp
end
end Fp
namespace Fp
open PySem PySem.Spec PyProof.Rows L2
def spWayD : Sp := fun vs H Q _ => ∃ (n : Nat) (v : V) (r : Row'), vs = [.int n, v] ∧ 1 ≤ n ∧ n ≤ 5 ∧ DV H v (rowD r) ∧ RowOk n r ∧ ∀ l H' xs ls, Same H H' → H' l = some (.lst xs) → DVs H' xs (ls.map rowD) → WayOk n r ls → Q (.ref l) H'
theorem ord_of {n : Nat} {r : Row'} {PL : List (Int × Int)} (hp : PL.Perm ((List.range n).map fun j : Nat => (((r.getD j []).length : Int), (j : Int)))) (hs : PL.Pairwise fun p q => SrtO.lexB q p = false) :
    OrdOk n r (PL.map fun p => p.2.toNat) ∧ PL.map (fun p => V.int p.2) = (PL.map fun p => p.2.toNat).map fun a : Nat => V.int (a : Int) := by
  have mem : ∀ p ∈ PL, ∃ j : Nat, j < n ∧ p = (((r.getD j []).length : Int), (j : Int)) := fun p hp' => by
    obtain ⟨j, hj, e⟩ := List.mem_map.mp (hp.mem_iff.mp hp')
    exact ⟨j, List.mem_range.mp hj, e.symm⟩
  have hperm : (PL.map fun p => p.2.toNat).Perm (List.range n) := by
    have := hp.map fun p : Int × Int => p.2.toNat
    rw [List.map_map] at this
    have e : (List.range n).map ((fun p : Int × Int => p.2.toNat) ∘ fun j : Nat => (((r.getD j []).length : Int), (j : Int))) = List.range n := by
      refine (List.map_congr_left fun j _ => ?_).trans (List.map_id _)
      show ((j : Int)).toNat = j
      omega
    rw [e] at this
    exact this
  refine ⟨⟨by rw [hperm.length_eq, List.length_range], hperm.nodup_iff.mpr List.nodup_range, fun x hx => List.mem_range.mp (hperm.mem_iff.mp hx), fun i j a b hij ha hb => ?_⟩, ?_⟩
  · rw [List.getElem?_map] at ha hb
    obtain ⟨p, hp1, rfl⟩ := Option.map_eq_some_iff.mp ha
    obtain ⟨q, hq1, rfl⟩ := Option.map_eq_some_iff.mp hb
    obtain ⟨u, hu, rfl⟩ := mem p (List.mem_of_getElem? hp1)
    obtain ⟨v, hv, rfl⟩ := mem q (List.mem_of_getElem? hq1)
    show (r.getD ((u : Int)).toNat []).length ≤ (r.getD ((v : Int)).toNat []).length
    rw [Int.toNat_natCast, Int.toNat_natCast]
    rcases Nat.lt_or_eq_of_le hij with c | c
    · obtain ⟨l1, e1⟩ := List.getElem?_eq_some_iff.mp hp1
      obtain ⟨l2, e2⟩ := List.getElem?_eq_some_iff.mp hq1
      have := List.pairwise_iff_getElem.mp hs i j l1 l2 c
      rw [e1, e2, SrtO.lexB_no] at this
      have := fun z => this (.inl z)
      have h : ¬ (((r.getD v []).length : Int) < ((r.getD u []).length : Int)) := this
      omega
    · subst c
      have e := congrArg Prod.fst (Option.some.inj (hp1.symm.trans hq1))
      have e : ((r.getD u []).length : Int) = ((r.getD v []).length : Int) := e
      omega
  · rw [List.map_map]
    refine List.map_congr_left fun p hp' => ?_
    obtain ⟨j, _, rfl⟩ := mem p hp'
    show V.int (j : Int) = V.int ((((j : Int)).toNat : Nat) : Int)
    rw [Int.toNat_natCast]
def preF (n : Nat) (o : List Nat) (k : Nat) : List Int := (fullL n).filter fun x => (o.take k).any fun a => decide (x = (a : Int))
theorem preF_mem {n : Nat} {r : Row'} {o : List Nat} (O : OrdOk n r o) (k : Nat) (x : Int) : x ∈ preF n o k ↔ ∃ a ∈ o.take k, x = ((a : Nat) : Int) := by
  unfold preF
  rw [List.mem_filter, List.any_eq_true]
  constructor
  · rintro ⟨_, a, ha, e⟩
    exact ⟨a, ha, of_decide_eq_true e⟩
  · rintro ⟨a, ha, e⟩
    exact ⟨by rw [e]; exact List.mem_map.mpr ⟨a, List.mem_range.mpr (O.lt a (List.mem_of_mem_take ha)), rfl⟩, a, ha, decide_eq_true e⟩
theorem preF_ok {n : Nat} {r : Row'} {o : List Nat} (O : OrdOk n r o) : PreOk o (preF n o) := ⟨fun k => (fullL_up n).filter _, preF_mem O⟩
theorem preF_eq {n : Nat} {r : Row'} {o : List Nat} (O : OrdOk n r o) {k : Nat} {L : List Int} (hL : L.Pairwise (· < ·)) (hm : ∀ x : Int, x ∈ L ↔ x ∈ (o.take k).map fun a : Nat => (a : Int)) : L = preF n o k := by
  refine srt_eq hL ((preF_ok O).up k) fun x => ?_
  rw [hm, preF_mem O, List.mem_map]
  exact ⟨fun ⟨a, h1, h2⟩ => ⟨a, h1, h2.symm⟩, fun ⟨a, h1, h2⟩ => ⟨a, h1, h2.symm⟩⟩
/-- what a pair of integers holds -/
def kf (H : Hp) : V → Int × Int
  | .ref t => match H t with
    | some (.tup [.int i, .int j]) => (i, j)
    | _ => (0, 0)
  | _ => (0, 0)
theorem kf_at {H : Hp} {t : Addr} {i j : Int} (h : H t = some (.tup [.int i, .int j])) : kf H (.ref t) = (i, j) := by
  show (match H t with
    | some (.tup [.int i, .int j]) => (i, j)
    | _ => (0, 0)) = _
  rw [h]
theorem DVs.snoc {H : Hp} {vs : List V} {ds : List Dt} {v : V} {d : Dt} (h : DVs H vs ds) (g : DV H v d) : DVs H (vs ++ [v]) (ds ++ [d]) := h.app (.cons g .nil)
theorem atI_m1 {ys : List V} {v : V} {i : Nat} (h : ys[i]? = some v) (hl : ys.length = i + 1) : atI ys (-1) = some v := by
  rcases List.eq_nil_or_concat ys with rfl | ⟨l0, z, e⟩
  · cases h
  · rw [List.concat_eq_append] at e
    subst e
    rw [List.length_append, List.length_singleton] at hl
    rw [List.getElem?_append_right (by omega), show i - l0.length = 0 by omega] at h
    cases h
    exact atI_last _ _
def upL (r : Row') (o : List Nat) (pre : Nat → List Int) (i : Nat) : List Row' := (List.range (i + 1)).map (upR r o pre)
def wlL (r : Row') (o : List Nat) (pre : Nat → List Int) (n j : Nat) : List Row' := upL r o pre n ++ (List.range j).map fun k => dnR r o pre n (k + 1)
theorem upL_succ {r : Row'} {o : List Nat} {pre : Nat → List Int} {i : Nat} : upL r o pre (i + 1) = upL r o pre i ++ [upR r o pre (i + 1)] := by
  unfold upL
  rw [List.range_succ, List.map_append]; rfl
theorem upL_len {r : Row'} {o : List Nat} {pre : Nat → List Int} {i : Nat} : (upL r o pre i).length = i + 1 := by simp [upL]
theorem upL_last {r : Row'} {o : List Nat} {pre : Nat → List Int} {i : Nat} : (upL r o pre i)[i]? = some (upR r o pre i) := by
  unfold upL
  rw [List.getElem?_map, List.getElem?_range (Nat.lt_succ_self i)]; rfl
theorem wlL_succ {r : Row'} {o : List Nat} {pre : Nat → List Int} {n j : Nat} : wlL r o pre n (j + 1) = wlL r o pre n j ++ [dnR r o pre n (j + 1)] := by
  unfold wlL
  rw [List.range_succ, List.map_append, List.append_assoc]; rfl
theorem wlL_len {r : Row'} {o : List Nat} {pre : Nat → List Int} {n j : Nat} : (wlL r o pre n j).length = n + j + 1 := by
  unfold wlL
  rw [List.length_append, upL_len, List.length_map, List.length_range]; omega
theorem wlL_last {r : Row'} {o : List Nat} {pre : Nat → List Int} {n j : Nat} : (wlL r o pre n j)[n + j]? = some (dnR r o pre n j) := by
  cases j with
  | zero =>
    unfold wlL
    rw [List.range_zero, List.map_nil, List.append_nil]
    exact upL_last
  | succ j =>
    rw [wlL_succ, List.getElem?_append_right (by rw [wlL_len]; omega), wlL_len, show n + (j + 1) - (n + j + 1) = 0 by omega]; rfl
theorem wlL_all {r : Row'} {o : List Nat} {pre : Nat → List Int} {n : Nat} : wlL r o pre n n = r :: wayR r o pre n := by
  unfold wlL upL wayR
  rw [List.range_succ_eq_map, List.map_cons, List.map_map]
  rfl
theorem rowD_set {r : Row'} {p : Nat} {l : List Int} : Dt.tup ((r.map lotD).set p (lotD l)) = rowD (r.set p l) := by
  unfold rowD
  rw [List.map_set]
theorem rowD_inj {r s : Row'} (h : rowD r = rowD s) : r = s := by
  unfold rowD at h
  injection h with h
  have := congrArg (List.map lotOf) h
  rw [List.map_map, List.map_map] at this
  have e : ∀ t : Row', t.map (lotOf ∘ lotD) = t := fun t => (List.map_congr_left fun x _ => lotOf_lotD x).trans (List.map_id t)
  rw [e, e] at this
  exact this
theorem dd_step {r x y : Row'} {W : List Row'} {j : Nat} (hy : (r :: W)[j]? = some y) (hx : W[j]? = some x) : ddL r (W.take (j + 1)) = ddL r (W.take j) ++ if x = y then [] else [x] := by
  rw [List.take_add_one, hx]
  show ddL r (W.take j ++ [x]) = _
  rw [dd_snoc]
  have e : (r :: W.take j).getLast (by simp) = y := by
    have hj : j < W.length := (List.getElem?_eq_some_iff.mp hx).1
    have h1 : (r :: W.take j).getLast? = some y := by
      rw [List.getLast?_eq_getElem?, List.length_cons, List.length_take, Nat.min_eq_left (Nat.le_of_lt hj), Nat.add_sub_cancel, ← hy]
      cases j with
      | zero => rfl
      | succ j => rw [List.getElem?_cons_succ, List.getElem?_cons_succ, List.getElem?_take, if_pos (by omega)]
    rw [List.getLast?_eq_some_getLast (by simp)] at h1
    exact Option.some.inj h1
  rw [e]
theorem call_lenK {X : Cx} {K : PySem.W.Frag} (e : X.K = K := by rfl) : CallR X (.builtin "len") (fun xs H Q => ∃ x n, xs = [x] ∧ LenV K x H n ∧ Q (.int n) H) := by subst e; exact call_len
section
variable {P : Program} {w : World} {K : PySem.W.Frag} {mg : Str → Option Value} {base : Heap} {f : Addr} {fd : FuncData} {C : Addr}
end
end Fp
namespace Fp
open PySem PySem.Spec PyProof.Rows L2
def unlD : Dt → Dt → Nat
  | .tup ds, .tup es => unl ds es
  | _, _ => 0
/-- a value that is a chain from a to b -/
structure ChD (n : Nat) (a b : Row') (ds : List Dt) : Prop where
  all : ∀ x ∈ ds, wholeB n x = true
  fst : ds.take 1 = [rowD a]
  lst : ds.drop (ds.length - 1) = [rowD b]
  adj : ∀ i, i + 1 < ds.length → unlD (ds.getD i .non) (ds.getD (i + 1) .non) = 1
def IsCh (n : Nat) (a b : Row') (d : Dt) : Prop := ∃ ds, d = .tup ds ∧ ChD n a b ds
def spEndsD : Sp := fun vs H Q _ => ∃ (n : Nat) (v1 v2 : V) (a b : Row'), vs = [.int n, v1, v2] ∧ 1 ≤ n ∧ n ≤ 5 ∧ DV H v1 (rowD a) ∧ DV H v2 (rowD b) ∧ RowOk n a ∧ RowOk n b ∧ ∀ H', Same H H' → Q .non H'
def spChainD : Sp := fun vs H Q _ => ∃ (n : Nat) (v1 v2 : V) (a b : Row'), vs = [.int n, v1, v2] ∧ 1 ≤ n ∧ n ≤ 5 ∧ DV H v1 (rowD a) ∧ DV H v2 (rowD b) ∧ RowOk n a ∧ RowOk n b ∧ ∀ c H' ls, Same H H' → DV H' (.ref c) (.tup (ls.map rowD)) → ChOk n a b ls → ls.length ≤ 22 → Q (.ref c) H'
def spShowsD : Sp := fun vs H Q _ => ∃ (n : Nat) (v1 v2 v3 : V) (a b : Row') (d : Dt), vs = [.int n, v1, v2, v3] ∧ 1 ≤ n ∧ n ≤ 5 ∧ DV H v1 (rowD a) ∧ DV H v2 (rowD b) ∧ DV H v3 d ∧ RowOk n a ∧ RowOk n b ∧ ∀ H' (t : Bool), Same H H' → (t = true ↔ IsCh n a b d) → Q (.bl t) H'
theorem whole_pl {n : Nat} {x : Dt} (h : wholeB n x = true) : pl 2 x = true := by
  unfold wholeB at h
  rw [Bool.and_eq_true] at h
  exact at_pl h.1
theorem whole_tup {n : Nat} {x : Dt} (h : wholeB n x = true) : ∃ ds, x = .tup ds ∧ ds.length = n := by
  unfold wholeB at h
  rw [Bool.and_eq_true] at h
  obtain ⟨ds, e, hl, _⟩ := at_tup h.1
  exact ⟨ds, e, hl⟩
theorem rowD_pl {n : Nat} (hn : 0 < n) {r : Row'} (R : RowOk n r) : pl 2 (rowD r) = true := whole_pl ((rowok_iff hn).mpr R)
theorem cut_last {xs : List V} : cutV xs (some (-1)) none = xs.drop (xs.length - 1) := by
  have h1 : HT.sIx xs.length 0 (some (-1)) = xs.length - 1 := by
    show (if (-1 : Int) < 0 then (-1 + (xs.length : Int)).toNat else min (-1 : Int).toNat xs.length) = _
    rw [if_pos (by decide)]; omega
  have h2 : HT.sIx xs.length xs.length none = xs.length := rfl
  unfold cutV
  rw [h1, h2]
  exact List.take_of_length_le (by rw [List.length_drop]; omega)
theorem dvs_tup {H : Hp} {a : Addr} {xs : List V} {ds : List Dt} (h : H a = some (.tup xs)) (g : DVs H xs ds) (l : ds.length ≤ 1000) : DV H (.ref a) (.tup ds) := .tup h g l
section
variable {P : Program} {w : World} {K : PySem.W.Frag} {mg : Str → Option Value} {base : Heap} {f : Addr} {fd : FuncData} {C : Addr}
end
end Fp
namespace Fp
open PySem PySem.Spec PyProof.Rows L2
structure LTx (mg : Str → Option Value) : Prop where
  len : mg "len" = none
  int : mg "int" = none
  sum : mg "sum" = none
  abs : mg "abs" = none
  list : mg "list" = none
  tuple : mg "tuple" = none
  range : mg "range" = none
  max : mg "max" = none
  min : mg "min" = none
  repr : mg "repr" = none
  all : mg "all" = none
  enumerate : mg "enumerate" = none
theorem modNat'' : True := trivial
theorem atI0 {α : Type} {l : List α} {v : α} (h : l[0]? = some v) : atI l 0 = some v := atI_nat (j := 0) h
section
variable {P : Program} {w : World} {K : PySem.W.Frag} {mg : Str → Option Value} {base : Heap} {f : Addr} {fd : FuncData} {C : Addr}
abbrev s_law_take : Stmt := top 30
theorem sc_law_take : FnScope ["pot", "upto", "digit", "prime", "blend"] ["pot", "upto"] (defScope s_law_take) := ⟨rfl, rfl, rfl, by decide +kernel, rfl, by decide +kernel, by decide +kernel⟩
theorem ok_law_take (F : Fun K "_law_take" "_law_take" s_law_take f fd) (T : LTx mg) : FnOk P w K mg base CX0 1 f fd ["pot", "upto"] spTake := by
  refine F.ok sc_law_take (fun vs H Q E h => ?_) (fun cdv A outer s H vs Q E hr h => ?_)
  · obtain ⟨p, u, n, rfl, _⟩ := h
    rfl
  obtain ⟨p, u, n, rfl, h0, h1, hn, hP, q⟩ := h
  obtain ⟨a, b, c, hp, hb0, hb1, hc0, hc1⟩ := hP
  refine ⟨_, (pss_cons (ps_if (pt_cmpR op_gt (pe_ix ix_list (pv 0) pe_int (fun _ _ => rfl)) pe_int (nomark _)) (pss_cons (ps_set (i := 2) sc_law_take.nd rfl (Or.inl rfl) (pe_op op_mod (pe_callTy call_int1 rfl T.int (by decide +kernel) (pa_cons (pe_ix ix_list (pv 0) pe_int (fun _ _ => rfl)) pa_nil)) (pv 1)))
  (pss_cons (ps_asg (pe_op op_fdiv (pe_ix ix_list (pv 0) pe_int (fun _ _ => rfl)) (pv 1)) (pg_sub (pv 0) pe_int set_list))
  (pss_one (ps_ret (pv 2))))) pss_nil)
  (pss_cons (ps_asg (pe_op op_add (pe_ix ix_list (pv 0) pe_int (fun _ _ => rfl)) pe_int) (pg_sub (pv 0) pe_int set_list))
  (pss_cons (ps_set (i := 3) sc_law_take.nd rfl (Or.inl rfl) (pe_ix ix_list (pe_lst (pa_cons pe_int (pa_cons pe_int (pa_cons pe_int (pa_cons pe_int (pa_cons pe_int pa_nil)))))) (pe_op op_mod (pe_callTy call_int1 rfl T.int (by decide +kernel) (pa_cons (pe_ix ix_list (pv 0) pe_int (fun _ _ => rfl)) pa_nil)) pe_int) (fun _ _ => rfl)))
  (pss_cons (ps_set (i := 4) sc_law_take.nd rfl (Or.inl rfl) (pe_op op_mod (pe_callTy call_int1 rfl T.int (by decide +kernel) (pa_cons (pe_op op_pow (pe_callTy call_int1 rfl T.int (by decide +kernel) (pa_cons (pe_op op_add (pe_op op_add (pe_ix ix_list (pv 0) pe_int (fun _ _ => rfl)) (pe_op op_mul (pe_op op_mul pe_int (pe_ix ix_list (pv 0) pe_int (fun _ _ => rfl))) (pe_ix ix_list (pv 0) pe_int (fun _ _ => rfl)))) pe_int) pa_nil)) pe_int) pa_nil)) (pv 3)))
  (pss_one (ps_ret (pe_op op_mod (pe_callTy call_int1 rfl T.int (by decide +kernel) (pa_cons (pe_op op_fdiv (pe_op op_mul (pv 4) (pe_op op_add (pe_op op_mod (pe_callTy call_int1 rfl T.int (by decide +kernel) (pa_cons (pv 4) pa_nil)) pe_int) (pe_op op_mul pe_int (pe_ix ix_list (pv 0) pe_int (fun _ _ => rfl))))) pe_int) pa_nil)) (pv 1)))))))), ?_⟩
  refine ⟨_, rfl, p, _, _, _, rfl, rfl, .of hp, rfl, _, _, rfl, rfl, _, rfl, ?_⟩
  refine ite2 (fun ca => ?_) (fun ca => ?_)
  · refine ⟨_, rfl, p, _, _, _, rfl, rfl, .of hp, rfl, .inl ⟨_, rfl, _, rfl, _, _, rfl, rfl, h0, ?_⟩⟩
    refine ⟨_, rfl, p, _, _, _, rfl, rfl, .of hp, rfl, _, rfl, _, _, rfl, rfl, ⟨h0, by omega⟩, ?_⟩
    refine ⟨_, rfl, p, _, _, _, rfl, rfl, hp, rfl, ?_⟩
    refine ⟨_, rfl, ?_⟩
    obtain ⟨d, hd, hd2⟩ := modNat a h0
    show Q (V.int (a % u)) _
    rw [hd]
    refine q d _ hd2 ((But.refl _ H).put (by simp)) ?_
    exact ⟨a / u, b, c, upd_same, hb0, hb1, hc0, by omega⟩
  · refine ⟨_, rfl, p, _, _, _, rfl, rfl, .of hp, rfl, _, _, rfl, rfl, ?_⟩
    refine ⟨_, rfl, p, _, _, _, rfl, rfl, hp, rfl, ?_⟩
    have hp1 : upd H p (.lst [V.int a, V.int b, V.int (c + 1)]) p = some (.lst [V.int a, V.int b, V.int (c + 1)]) := upd_same
    have g1 : But [p] H (upd H p (.lst [V.int a, V.int b, V.int (c + 1)])) := (But.refl _ H).put (by simp)
    refine ⟨(by show 5 ≤ sizeLine; decide), fun l hl => ?_⟩
    have g2 := g1.new (o := .lst [V.int 2147483647, V.int 2147483629, V.int 2147483587, V.int 2147483579, V.int 2147483563]) hl
    have np : p ≠ l := ne_of_none hp1 hl
    have hp2 : upd (upd H p (.lst [V.int a, V.int b, V.int (c + 1)])) l (.lst [V.int 2147483647, V.int 2147483629, V.int 2147483587, V.int 2147483579, V.int 2147483563]) p = some (.lst [V.int a, V.int b, V.int (c + 1)]) := by
      rw [upd_ne np]; exact hp1
    obtain ⟨i5, hi5, hi5b⟩ := modNat (c + 1) (show (0 : Int) < 5 by decide)
    obtain ⟨pr, hpr, hpr0, hpr1⟩ : ∃ pr : Int, ([V.int 2147483647, V.int 2147483629, V.int 2147483587, V.int 2147483579, V.int 2147483563] : List V)[i5]? = some (.int pr) ∧ 0 < pr ∧ pr < 2147483648 := by
      have : i5 < 5 := by omega
      match i5, this with
      | 0, _ => exact ⟨_, rfl, by decide, by decide⟩
      | 1, _ => exact ⟨_, rfl, by decide, by decide⟩
      | 2, _ => exact ⟨_, rfl, by decide, by decide⟩
      | 3, _ => exact ⟨_, rfl, by decide, by decide⟩
      | 4, _ => exact ⟨_, rfl, by decide, by decide⟩
    refine ⟨_, rfl, p, _, _, _, rfl, rfl, .of hp2, rfl, .inl ⟨_, rfl, _, _, rfl, rfl, (by show (0 : Int) < 5; decide), ?_⟩⟩
    refine ⟨l, _, (c + 1) % 5, _, rfl, rfl, .of upd_same, (by rw [hi5]; exact atI_nat hpr), ?_⟩
    refine ⟨_, rfl, p, _, _, _, rfl, rfl, .of hp2, rfl, _, rfl, p, _, _, _, rfl, rfl, .of hp2, rfl, _, _, rfl, rfl, .inl (by constructor <;> decide), ?_⟩
    refine ⟨_, rfl, p, _, _, _, rfl, rfl, .of hp2, rfl, _, _, rfl, rfl, .inr (by constructor <;> omega), _, _, rfl, rfl, _, _, rfl, rfl, .inl ⟨_, rfl, _, _, rfl, rfl, ⟨by decide, by decide, ?_⟩, .inl ⟨_, rfl, ?_⟩⟩⟩
    · have hq := sq_le 99873 (c := c + 1) (by omega) (by omega)
      generalize 99873 * (c + 1) * (c + 1) = z at hq ⊢
      omega
    refine ⟨_, rfl, _, _, rfl, rfl, hpr0, ?_⟩
    obtain ⟨bl, hbl, hbl2⟩ := modNat ((b + 99873 * (c + 1) * (c + 1) + 1149) ^ 3) hpr0
    refine ⟨_, rfl, _, rfl, .inl ⟨_, rfl, _, _, rfl, rfl, (by show (0 : Int) < 10643; decide), ?_⟩⟩
    refine ⟨_, rfl, p, _, _, _, rfl, rfl, .of hp2, rfl, _, _, rfl, rfl, .inl (by constructor <;> decide), _, _, rfl, rfl, _, _, rfl, rfl, .inl ?_, ?_⟩
    · show -(2 ^ 64) < (b + 99873 * (c + 1) * (c + 1) + 1149) ^ (Int.toNat 3) % pr ∧ (b + 99873 * (c + 1) * (c + 1) + 1149) ^ (Int.toNat 3) % pr < 2 ^ 64
      have e3 : Int.toNat 3 = 3 := rfl
      rw [e3, hbl]; constructor <;> omega
    refine ⟨_, _, rfl, rfl, ⟨by decide, by decide⟩, .inl ⟨_, rfl, _, rfl, _, _, rfl, rfl, h0, ?_⟩⟩
    refine (fun (z : ∀ x : Int, Q (.int (x % u)) (upd (upd H p (.lst [V.int a, V.int b, V.int (c + 1)])) l (.lst [V.int 2147483647, V.int 2147483629, V.int 2147483587, V.int 2147483579, V.int 2147483563]))) => z _) (fun x => ?_)
    obtain ⟨d, hd, hd2⟩ := modNat x h0
    rw [hd]
    exact q d _ hd2 g2 ⟨a, b, c + 1, hp2, hb0, hb1, by omega, by omega⟩
abbrev s_law_of : Stmt := top 31
theorem sc_law_of : FnScope ["pot", "some"] ["pot", "some"] (defScope s_law_of) := ⟨rfl, rfl, rfl, by decide +kernel, rfl, by decide +kernel, by decide +kernel⟩
theorem ok_law_of (F : Fun K "_law_of" "_law_of" s_law_of f fd) (T : LTx mg) (G_law_take : Fd P w K mg base CX0 "_law_take" 1 ["pot", "upto"] spTake) : FnOk P w K mg base CX0 2 f fd ["pot", "some"] (spOf K) := by
  refine F.ok sc_law_of (fun vs H Q E h => ?_) (fun cdv A outer s H vs Q E hr h => ?_)
  · obtain ⟨p, q, xs, n, rfl, _⟩ := h
    rfl
  obtain ⟨p, q, xs, n, rfl, hS, hne, hx, hx1, hn, hP, k⟩ := h
  refine ⟨_, (pss_one (ps_ret (pe_ix ix_list (pv 1) (pe_fd G_law_take (hr.mono (by first | decide | omega)) rfl (pa_cons (pv 0) (pa_cons (pe_callB call_len rfl T.len (by decide +kernel) (pa_cons (pv 1) pa_nil)) pa_nil))) (fun _ _ => rfl)))), ?_⟩
  have hpos : 0 < xs.length := List.length_pos_iff.mpr hx
  refine ⟨_, rfl, _, rfl, _, rfl, _, xs.length, rfl, .inl ⟨xs, hS, rfl⟩, p, _, n, rfl, by omega, by omega, hn, hP, fun d H' hd g hP' => ?_⟩
  have hdl : d < xs.length := by omega
  refine ⟨q, xs, _, xs[d], rfl, rfl, g.seq hS (by simpa using hne), atI_nat (by simp [hdl]), ?_⟩
  exact k d _ H' (by simp [hdl]) g hP'
abbrev s_law_some : Stmt := top 32
theorem sc_law_some : FnScope ["pot", "pool", "many", "left", "found", "lap"] ["pot", "pool", "many"] (defScope s_law_some) := ⟨rfl, rfl, rfl, by decide +kernel, rfl, by decide +kernel, by decide +kernel⟩
theorem ok_law_some (F : Fun K "_law_some" "_law_some" s_law_some f fd) (T : LTx mg) (G_law_take : Fd P w K mg base CX0 "_law_take" 1 ["pot", "upto"] spTake) : FnOk P w K mg base CX0 2 f fd ["pot", "pool", "many"] (spSome K) := by
  refine F.ok sc_law_some (fun vs H Q E h => ?_) (fun cdv A outer s H vs Q E hr h => ?_)
  · obtain ⟨p, q, xs, m, n, rfl, _⟩ := h
    rfl
  obtain ⟨p, q, xs, m, n, rfl, hS, hm, hx1, hn, hP, k⟩ := h
  refine ⟨_, (pss_cons (ps_par (i := 3) (j := 4) (by rfl) sc_law_some.nd rfl rfl (by decide) rfl rfl (pa_cons (pe_callTy call_list_of rfl T.list (by decide +kernel) (pa_cons (pv 1) pa_nil)) (pa_cons (pe_lst pa_nil) pa_nil)) (by rfl))
  (pss_cons (ps_for PassesOwn.never rfl (pi_range1 rfl T.range (pa_cons (pv 2) pa_nil)) (pg_name (i := 5) sc_law_some.nd rfl (Or.inl rfl)) (pss_one (ps_expr (pe_bm PySem.F.plainAttrs_list PySem.F.slot_list_append PySem.F.type_list_append mt_append (pv 4) (pa_cons (pe_bm PySem.F.plainAttrs_list PySem.F.slot_list_pop PySem.F.type_list_pop mt_popAt (pv 3) (pa_cons (pe_fd G_law_take (hr.mono (by first | decide | omega)) rfl (pa_cons (pv 0) (pa_cons (pe_callB call_len rfl T.len (by decide +kernel) (pa_cons (pv 3) pa_nil)) pa_nil))) pa_nil)) pa_nil)))))
  (pss_one (ps_ret (pv 4))))), ?_⟩
  have hp0 := hP.there
  refine ⟨_, rfl, q, xs, rfl, hS, fun l1 n1 => ?_⟩
  refine ⟨(by show 0 ≤ sizeLine; decide), fun l2 n2 => ⟨_, _, rfl, ?_⟩⟩
  have n2' : H l2 = none := (same_new n1 _).free n2
  have d1 : l1 ≠ l2 := ne_of_none upd_same n2
  have e1 : p ≠ l1 := ne_of_none hp0.choose_spec n1
  have e2 : p ≠ l2 := ne_of_none hp0.choose_spec n2'
  have g0 : But [p] H (upd (upd H l1 (.lst xs)) l2 (.lst [])) := ((But.refl [p] H).new n1).new n2
  refine ⟨_, rfl, _, rfl, by omega, by omega, for_range (lo := 0) (n := m) (fun i σ H' => ∃ ys zs v, σ = [some (.ref p), some (.ref q), some (.int m), some (.ref l1), some (.ref l2), v] ∧ H' l1 = some (.lst zs) ∧ H' l2 = some (.lst ys) ∧ ys.length = i ∧ (ys ++ zs).Perm xs ∧ But [p] H H' ∧ PotAt H' p (n + i)) ?_ ?_ ?_⟩
  · refine ⟨[], xs, _, rfl, ?_, upd_same, rfl, List.Perm.refl _, g0, ?_⟩
    · rw [upd_ne d1]; exact upd_same
    · obtain ⟨a, b, c, h1, h2⟩ := hP
      exact ⟨a, b, c, by rw [upd_ne e2, upd_ne e1]; exact h1, h2⟩
  · rintro i σ H1 hi ⟨ys, zs, v, rfl, hz, hy, hl, hperm, g, hP1⟩
    have hlen : ys.length + zs.length = xs.length := by have := hperm.length_eq; rw [List.length_append] at this; exact this
    refine ⟨_, rfl, .inl ⟨rfl, _, .of hy⟩, _, rfl, .inl ⟨rfl, _, .of hz⟩, _, rfl, _, rfl, _, zs.length, rfl, .inl ⟨zs, .of hz, rfl⟩, p, _, n + i, rfl, by omega, by omega, by omega, hP1, fun d H2 hd g2 hP2 => ?_⟩
    have hdl : d < zs.length := by omega
    have hz2 := g2.at hz (by simpa using Ne.symm e1)
    have hy2 := g2.at hy (by simpa using Ne.symm e2)
    refine ⟨l1, zs, _, d, zs[d], rfl, rfl, hz2, by omega, by omega, by rw [PySem.seqIndex_of (by omega) (by omega)]; simp, by simp [hdl], ?_⟩
    refine ⟨l2, ys, _, rfl, rfl, by rw [upd_ne (Ne.symm d1)]; exact hy2, small1000 (by omega), ?_⟩
    refine ⟨ys ++ [zs[d]], zs.eraseIdx d, _, rfl, ?_, upd_same, by rw [List.length_append, List.length_singleton]; omega, ?_, ?_, ?_⟩
    · rw [upd_ne d1]; exact upd_same
    · have e := erase_perm zs d hdl
      rw [List.append_assoc]
      exact (List.Perm.append_left ys e).trans hperm
    · intro b o nb hb
      have b1 : b ≠ l1 := ne_of_none hb n1
      have b2 : b ≠ l2 := ne_of_none hb n2'
      rw [upd_ne b2, upd_ne b1]
      exact g2 b o nb (g b o nb hb)
    · obtain ⟨a, b, c, h1, h2⟩ := hP2
      exact ⟨a, b, c, by rw [upd_ne e2, upd_ne e1]; exact h1, h2⟩
  · rintro σ H1 ⟨ys, zs, v, rfl, hz, hy, hl, hperm, g, hP1⟩
    refine ⟨_, rfl, ?_⟩
    exact k l2 ys zs H1 hl hperm n2' hy g hP1
abbrev s_law_cells : Stmt := top 33
theorem sc_law_cells : FnScope ["script", "limit"] ["script", "limit"] (defScope s_law_cells) := ⟨rfl, rfl, rfl, by decide +kernel, rfl, by decide +kernel, by decide +kernel⟩
theorem ok_law_cells (F : Fun K "_law_cells" "_law_cells" s_law_cells f fd) (T : LTx mg) : FnOk P w K mg base CX0 1 f fd ["script", "limit"] (spCells K) := by
  refine F.ok sc_law_cells (fun vs H Q E h => ?_) (fun cdv A outer s H vs Q E hr h => ?_)
  · obtain ⟨p, xs, m, rfl, _⟩ := h
    rfl
  obtain ⟨p, xs, m, rfl, hS, hl, hm, k⟩ := h
  refine ⟨_, (pss_one (ps_ret (pe_listRg rfl rfl T.list (prg_1 rfl T.range (pe_callB (call_max2 rfl) rfl T.max (by decide +kernel) (pa_cons pe_int (pa_cons (pe_callB (call_min2 rfl) rfl T.min (by decide +kernel) (pa_cons (pv 1) (pa_cons (pe_callB call_len rfl T.len (by decide +kernel) (pa_cons (pv 0) pa_nil)) pa_nil))) pa_nil))))))), ?_⟩
  refine ⟨_, rfl, _, rfl, _, xs.length, rfl, .inl ⟨_, hS, (List.length_map _).symm⟩, _, _, rfl, _, _, rfl, ?_⟩
  generalize hz : (if (if (xs.length : Int) < (m : Int) then (xs.length : Int) else (m : Int)) > 1 then (if (xs.length : Int) < (m : Int) then (xs.length : Int) else (m : Int)) else 1) = z
  have hz1 : 0 ≤ z ∧ z < 1000 := by subst hz; split <;> (try split) <;> omega
  refine ⟨z, rfl, .of_le (by omega) (by omega) (by omega) (by omega), fun l hln => ?_⟩
  refine k l _ z.toNat (by omega) (same_new hln _) hln ?_
  rw [upd_same]
  unfold rgV
  rw [show (z - 0).toNat = z.toNat by omega]
  simp
abbrev s_law_pot : Stmt := top 29
theorem sc_law_pot : FnScope ["script", "place", "cell", "own", "small"] ["script", "place"] (defScope s_law_pot) := ⟨rfl, rfl, rfl, by decide +kernel, rfl, by decide +kernel, by decide +kernel⟩
theorem ok_law_pot (F : Fun K "_law_pot" "_law_pot" s_law_pot f fd) (T : LTx mg) : FnOk P w K mg base CX0 1 f fd ["script", "place"] (spPot K) := by
  refine F.ok sc_law_pot (fun vs H Q E h => ?_) (fun cdv A outer s H vs Q E hr h => ?_)
  · obtain ⟨p, xs, m, rfl, _⟩ := h
    rfl
  obtain ⟨p, xs, m, rfl, hS, hl, hm, k⟩ := h
  refine ⟨_, (C8.pss_cut (ps_set (i := 2) sc_law_pot.nd rfl (Or.inl rfl) (pe_ifExp (pt_cmpR op_lt (pv 1) (pe_callB call_len rfl T.len (by decide +kernel) (pa_cons (pv 0) pa_nil)) (nomark _)) (pe_ix ix_list (pv 0) (pv 1) (fun _ _ => rfl)) (pe_op op_add (pe_op op_add (pe_op op_mod (pe_callTy call_int1 rfl T.int (by decide +kernel) (pa_cons (pe_callB (cr_sum rfl) rfl T.sum (by decide +kernel) (pa_cons (pe_slice sl_list (pv 0) po_none (po_some pe_int)) pa_nil)) pa_nil)) pe_int) (pe_op op_mul pe_int (pv 1))) pe_int)))
  (pss_cons (ps_set (i := 3) sc_law_pot.nd rfl (Or.inl rfl) (pe_op op_mul (pe_op op_mod (pe_callTy call_int1 rfl T.int (by decide +kernel) (pa_cons (pe_callB call_abs rfl T.abs (by decide +kernel) (pa_cons (pv 2) pa_nil)) pa_nil)) (pe_op op_powB (pe_op op_pow pe_int pe_int) pe_int)) (pe_callTy call_int1 rfl T.int (by decide +kernel) (pa_cons (pe_cmpR op_ge (pe_callB call_abs rfl T.abs (by decide +kernel) (pa_cons (pv 2) pa_nil)) (pe_op op_pow pe_int pe_int) (nomark _)) pa_nil))))
  (pss_cons (ps_set (i := 4) sc_law_pot.nd rfl (Or.inl rfl) (pe_op op_mod (pe_callTy call_int1 rfl T.int (by decide +kernel) (pa_cons (pv 2) pa_nil)) pe_int))
  (pss_one (ps_ret (pe_lst (pa_cons (pv 3) (pa_cons (pe_op op_mod (pe_callTy call_int1 rfl T.int (by decide +kernel) (pa_cons (pe_op op_add (pe_op op_add (pe_op op_mul (pv 4) pe_int) (pe_op op_mul (pe_op op_mul pe_int (pv 1)) (pv 1))) pe_int) pa_nil)) pe_int) (pa_cons pe_int pa_nil))))))))), ?_⟩
  refine ⟨fun σ H1 => ∃ c : Int, σ = [some (.ref p), some (.int m), some (.int c), none, none] ∧ Same H H1, ?_, ?_⟩
  · refine ⟨_, rfl, _, rfl, _, xs.length, rfl, .inl ⟨_, hS, (List.length_map _).symm⟩, _, _, rfl, rfl, _, rfl, ?_⟩
    refine ite2 (fun c => ?_) (fun c => ?_)
    · have c' : m < xs.length := by have := of_decide_eq_true c; omega
      refine ⟨_, rfl, _, rfl, p, _, _, _, rfl, rfl, hS, atI_nat (by rw [List.getElem?_map, List.getElem?_eq_getElem c']; rfl), ?_⟩
      exact ⟨_, rfl, Same.refl _⟩
    · refine ⟨_, rfl, 1, rfl, p, _, rfl, hS, fun l hln => ?_⟩
      have hcut : cutV (xs.map V.int) none (some 1) = (xs.take 1).map V.int := by
        have e1 : HT.sIx (xs.map V.int).length 0 none = 0 := rfl
        have e2 := HT.sIx_nat (xs.map V.int).length (xs.map V.int).length 1
        unfold cutV
        rw [e1, show ((1 : Int)) = ((1 : Nat) : Int) from rfl, e2, List.length_map, List.drop_zero, ← List.map_take]
        cases xs <;> simp
      refine ⟨l, xs.take 1, rfl, .of (by rw [hcut]; exact upd_same), .inl ⟨_, rfl, _, _, rfl, rfl, (by show (0 : Int) < 1000003; decide), ?_⟩⟩
      refine ⟨_, rfl, _, _, rfl, rfl, .inl (by constructor <;> decide), _, _, rfl, rfl, _, _, rfl, rfl, ?_⟩
      exact ⟨_, rfl, same_new hln _⟩
  · rintro σ H1 ⟨c, rfl, g⟩
    refine ⟨_, rfl, _, rfl, .inl ⟨_, rfl, _, _, rfl, rfl, ⟨by decide, by decide, by decide⟩, ?_⟩⟩
    refine ⟨_, _, rfl, rfl, ⟨by decide, bits_ok 200 (by decide +kernel) (by decide) (by decide)⟩, ?_⟩
    refine ⟨_, _, rfl, rfl, (by show (0 : Int) < ((10 : Int) ^ Int.toNat 60) ^ Int.toNat 5; decide +kernel), ?_⟩
    refine ⟨_, rfl, _, rfl, _, _, rfl, rfl, ⟨by decide, by decide, by decide⟩, _, _, rfl, rfl, .inr ⟨_, rfl, _, _, rfl, rfl, .inr (b01 _), ?_⟩⟩
    refine ⟨_, rfl, .inl ⟨_, rfl, _, _, rfl, rfl, (by show (0 : Int) < 2305843009213693951; decide), ?_⟩⟩
    obtain ⟨sm, hs1, hs2⟩ := modNat c (u := 2305843009213693951) (by decide)
    refine ⟨_, rfl, _, rfl, _, _, rfl, rfl, .inr (by constructor <;> decide), _, rfl, _, _, rfl, rfl, .inl (by constructor <;> decide), _, rfl, _, _, rfl, rfl, .inr (by constructor <;> omega), ?_⟩
    refine ⟨_, _, rfl, rfl, _, _, rfl, rfl, .inl ⟨_, rfl, _, _, rfl, rfl, (by show (0 : Int) < 2305843009213693921; decide), ?_⟩⟩
    refine ⟨(by show 3 ≤ sizeLine; decide), fun l hln => ?_⟩
    refine k l _ (fun b o q => same_new hln _ b o (g b o q)) (g.free hln) ?_
    refine ⟨_, _, 0, upd_same, ?_, ?_, Int.le_refl 0, Int.le_refl 0⟩
    · exact Int.emod_nonneg _ (by decide)
    · exact Int.lt_trans (Int.emod_lt_of_pos _ (by decide)) (by decide)
end
end Fp
namespace Fp
open PySem PySem.Spec PyProof.Rows L2
def spIntD : Sp := fun vs H Q _ => ∃ (v : V) (d : Dt) (n : Int), vs = [v, .int 0, .int n] ∧ DV H v d ∧ Q (.bl (inB n d)) H
def spLotOfB : Sp := fun vs H Q _ => ∃ (v : V) (d : Dt) (n : Int), vs = [v, .int n] ∧ DV H v d ∧ ∀ H', Same H H' → Q (.bl (lotOfB n d)) H'
def spLRowD : Sp := fun vs H Q _ => ∃ (n : Nat) (v : V) (d : Dt), vs = [.int n, v] ∧ 1 ≤ n ∧ n ≤ 5 ∧ DV H v d ∧ ∀ H', Same H H' → Q (.bl (lawRowB n d)) H'
theorem lotOfB_lot {n : Int} {d : Dt} (h : lotOfB n d = true) : lotB d = true := by
  cases d with
  | tup es =>
    obtain ⟨h1, h2⟩ := lotOfB_tup.mp h
    exact lotB_tup.mpr ⟨fun x hx => ⟨(h1 x hx).1, (h1 x hx).2.1⟩, h2⟩
  | _ => cases h
section
variable {P : Program} {w : World} {K : PySem.W.Frag} {mg : Str → Option Value} {base : Heap} {f : Addr} {fd : FuncData} {C : Addr}
abbrev s_law_int : Stmt := top 36
theorem sc_law_int : FnScope ["value", "low", "high"] ["value", "low", "high"] (defScope s_law_int) := ⟨rfl, rfl, rfl, by decide +kernel, rfl, by decide +kernel, by decide +kernel⟩
theorem ok_law_int (F : Fun K "_law_int" "_law_int" s_law_int f fd) (T : RTx mg) : FnOk P w K mg base CX0 1 f fd ["value", "low", "high"] spIntD := by
  refine F.ok sc_law_int (fun vs H Q E h => ?_) (fun cdv A outer s H vs Q E hr h => ?_)
  · obtain ⟨v, d, n, rfl, _⟩ := h
    rfl
  obtain ⟨v, d, n, rfl, hd, q⟩ := h
  refine ⟨_, (pss_one (ps_ret (pe_and (pe_callB call_isi rfl T.isinstance (by decide +kernel) (pa_cons (pv 0) (pa_cons (pe_bltn (v := .ty "int") rfl T.int boot_int rfl) pa_nil))) (pe_and (pe_not (pe_callB call_isi rfl T.isinstance (by decide +kernel) (pa_cons (pv 0) (pa_cons (pe_bltn (v := .ty "bool") rfl T.bool boot_bool rfl) pa_nil)))) (pe_one (pe_chain op_le op_le (pv 1) (pv 0) (pv 2))))))), ?_⟩
  obtain ⟨t, ty, k1, k2, _⟩ := hd.ty (K := K)
  refine ⟨_, rfl, _, _, _, _, _, rfl, .ty "int", ty, k1, _, rfl, ite2 (fun c => ?_) (fun c => ?_)⟩
  · refine ⟨_, rfl, _, _, _, _, _, rfl, .ty "bool", ty, k2, _, rfl, _, rfl, ?_⟩
    cases d with
    | int i =>
      cases hd
      refine iteT ⟨_, rfl, _, rfl, _, _, rfl, rfl, _, rfl, ite2 (fun c => ⟨_, rfl, _, _, rfl, rfl, ?_⟩) (fun c => ?_)⟩
      · have c' : 0 ≤ i := of_decide_eq_true c
        have e : inB n (.int i) = decide (i ≤ n) := by
          unfold inB
          simp [Dt.isInt, Dt.toInt, c']
        rw [e] at q
        exact q
      · have c' : ¬ 0 ≤ i := of_decide_eq_false (by simpa using c)
        have e : inB n (.int i) = false := by
          unfold inB
          simp [Dt.isInt, Dt.toInt, c']
        rw [e] at q
        exact q
    | bl b =>
      have e : inB n (.bl b) = false := rfl
      rw [e] at q
      exact iteF q
    | _ => cases c
  · have e : inB n d = false := by cases d <;> first | rfl | exact absurd rfl c
    rw [e] at q
    exact q
end
end Fp
namespace Fp
open PySem PySem.Spec PyProof.Rows L2
theorem any_getD {α : Type} {p : α → Bool} {x : α} {l : List α} : ((List.range l.length).any fun i => p (l.getD i x)) = l.any p := by
  have h := all_getD (p := fun y => !p y) (x := x) (l := l)
  rw [List.all_eq_not_any_not, List.all_eq_not_any_not] at h
  simpa using h
theorem any_id_map {α : Type} (f : α → Bool) (l : List α) : (l.map f).any id = l.any f := by rw [List.any_map]; rfl
theorem sum01 (f : Nat → Bool) : ∀ n : Nat, ((List.range n).map fun i => if f i = true then (1 : Int) else 0).sum = (((List.range n).filter f).length : Nat)
  | 0 => rfl
  | n + 1 => by
    rw [List.range_succ, List.map_append, List.sum_append, sum01 f n, List.filter_append, List.length_append]
    cases e : f n <;> simp [e]
section
variable {P : Program} {w : World} {K : PySem.W.Frag} {mg : Str → Option Value} {base : Heap} {f : Addr} {fd : FuncData} {C : Addr}
end
end Fp
/-! rows with hands that have no view; rows that are drawn -/
namespace Fp
open PySem PySem.Spec PyProof.Rows L2
abbrev RowO := List (Option (List Int))
structure OkO (n : Nat) (r : RowO) : Prop where
  len : r.length = n
  up : ∀ (i : Nat) (l : List Int), r[i]? = some (some l) → List.Pairwise (· < ·) l
  rng : ∀ (i : Nat) (l : List Int), r[i]? = some (some l) → ∀ x ∈ l, 0 ≤ x ∧ x < n
  self : ∀ (i : Nat) (l : List Int), r[i]? = some (some l) → (i : Int) ∈ l
  cmp : ∀ (i j : Nat) (l m : List Int), r[i]? = some (some l) → r[j]? = some (some m) → (∀ x ∈ l, x ∈ m) ∨ ∀ x ∈ m, x ∈ l
  fit : ∀ (i j : Nat) (l m : List Int), r[i]? = some (some l) → r[j]? = some (some m) → (i : Int) ∈ m → ∀ x ∈ l, x ∈ m
def oD : Option (List Int) → Dt
  | none => .non
  | some l => lotD l
def rowOD (r : RowO) : Dt := .tup (r.map oD)
theorem oD_some {r : RowO} {i : Nat} {l : List Int} (h : r[i]? = some (some l)) : (r.map oD).getD i .non = lotD l ∧ vwAt (r.map oD) i = l := by
  have e : (r.map oD).getD i .non = lotD l := by rw [List.getD_eq_getElem?_getD, List.getElem?_map, h]; rfl
  exact ⟨e, by unfold vwAt; rw [e, lotOf_lotD]⟩
theorem thr_O {r : RowO} {i : Nat} : i ∈ thr (r.map oD) ↔ ∃ l, r[i]? = some (some l) := by
  rw [mem_thr, List.length_map]
  constructor
  · rintro ⟨h1, h2⟩
    rw [List.getD_eq_getElem?_getD, List.getElem?_map, List.getElem?_eq_getElem h1] at h2
    cases e : r[i] with
    | none => rw [e] at h2; cases h2
    | some l => exact ⟨l, by rw [List.getElem?_eq_getElem h1, e]⟩
  · rintro ⟨l, h⟩
    refine ⟨(List.getElem?_eq_some_iff.mp h).1, ?_⟩
    rw [(oD_some h).1]; rfl
theorem okO_at {n : Nat} (hn : 0 < n) {r : RowO} (R : OkO n r) (h : ∃ (i : Nat) (l : List Int), r[i]? = some (some l)) : atB n (rowOD r) = true := by
  rw [← law_row hn]
  unfold rowOD lawRowB
  dsimp only
  rw [Bool.and_eq_true, Bool.and_eq_true, Bool.and_eq_true, decide_eq_true_eq, List.all_eq_true, List.all_eq_true, List.length_map]
  refine ⟨⟨R.len, ?_⟩, fun i hi => ?_, fun i hi => ?_⟩
  · rw [Bool.not_eq_true', List.all_eq_false]
    obtain ⟨i, l, h⟩ := h
    exact ⟨lotD l, List.mem_map.mpr ⟨some l, List.mem_of_getElem? h, rfl⟩, by simp [lotD, Dt.isNon]⟩
  · obtain ⟨l, h⟩ := thr_O.mp hi
    refine lawVw_iff.mpr ?_
    rw [(oD_some h).1, lotOfB_lotD, lotOf_lotD]
    exact ⟨⟨R.rng i _ h, R.up i _ h⟩, R.self i _ h⟩
  · rw [List.all_eq_true]
    intro j hj
    obtain ⟨l, h⟩ := thr_O.mp hi
    obtain ⟨m, h'⟩ := thr_O.mp hj
    refine pair_iff.mpr ?_
    rw [(oD_some h).2, (oD_some h').2]
    exact ⟨R.cmp i j _ _ h h', R.fit i j _ _ h h'⟩
theorem okO_whole {n : Nat} (hn : 0 < n) {r : RowO} (R : OkO n r) (h : ∀ i, i < n → ∃ l, r[i]? = some (some l)) : wholeB n (rowOD r) = true := by
  unfold wholeB
  rw [okO_at hn R ⟨0, h 0 hn⟩, Bool.true_and, Bool.not_eq_true']
  show (r.map oD).any Dt.isNon = false
  rw [List.any_eq_false]
  intro d hd
  obtain ⟨o, ho, rfl⟩ := List.mem_map.mp hd
  obtain ⟨i, hi⟩ := List.mem_iff_getElem?.mp ho
  obtain ⟨l, hl⟩ := h i (by rw [← R.len]; exact (List.getElem?_eq_some_iff.mp hi).1)
  rw [hi] at hl
  cases hl
  simp [oD, lotD, Dt.isNon]
/-- a row that loses views stays good -/
theorem OkO.less {n : Nat} {r s : RowO} (R : OkO n r) (hl : s.length = n) (h : ∀ (i : Nat) (l : List Int), s[i]? = some (some l) → r[i]? = some (some l)) : OkO n s :=
  ⟨hl, fun i l q => R.up i l (h i l q), fun i l q => R.rng i l (h i l q), fun i l q => R.self i l (h i l q), fun i j l m q q' => R.cmp i j l m (h i l q) (h j m q'), fun i j l m q q' => R.fit i j l m (h i l q) (h j m q')⟩
/-- while a row is drawn: who was seen, and that the views so far are of these -/
structure Drw (n : Nat) (seen left : List Nat) (r : RowO) : Prop where
  ok : OkO n r
  nd : (seen ++ left).Nodup
  lt : ∀ x ∈ seen ++ left, x < n
  sub : ∀ (i : Nat) (l : List Int), r[i]? = some (some l) → ∀ x ∈ l, ∃ a ∈ seen, x = ((a : Nat) : Int)
  has : ∀ i, i ∈ seen ↔ ∃ l, r[i]? = some (some l)
theorem Drw.start {n : Nat} {left : List Nat} (hd : left.Nodup) (lt : ∀ x ∈ left, x < n) : Drw n [] left (List.replicate n none) := by
  have no : ∀ (i : Nat) (l : List Int), (List.replicate n (none : Option (List Int)))[i]? ≠ some (some l) := fun i l h => by
    rw [List.getElem?_replicate] at h
    split at h <;> cases h
  exact ⟨⟨List.length_replicate, fun i l h => (no i l h).elim, fun i l h => (no i l h).elim, fun i l h => (no i l h).elim, fun i j l m h _ => (no i l h).elim, fun i j l m h _ => (no i l h).elim⟩, hd, lt, fun i l h => (no i l h).elim, fun i => ⟨fun h => (by cases h), fun ⟨l, h⟩ => (no i l h).elim⟩⟩
/-- a block of hands gets one view -/
theorem Drw.block {n : Nat} {seen blk left : List Nat} {r s : RowO} {L : List Int} (D : Drw n seen (blk ++ left) r) (hs : s.length = n) (hL : L.Pairwise (· < ·)) (hm : ∀ x : Int, x ∈ L ↔ ∃ a ∈ seen ++ blk, x = ((a : Nat) : Int))
    (h1 : ∀ i ∈ blk, s[i]? = some (some L)) (h2 : ∀ i, i ∉ blk → s[i]? = r[i]?) : Drw n (seen ++ blk) left s := by
  have nd' : ((seen ++ blk) ++ left).Nodup := by rw [List.append_assoc]; exact D.nd
  have lt' : ∀ x ∈ (seen ++ blk) ++ left, x < n := fun x hx => D.lt x (by rw [← List.append_assoc]; exact hx)
  have dis : ∀ i, i ∈ seen → i ∉ blk := fun i hi hb => by
    have := (List.nodup_append.mp (List.nodup_append.mp nd').1).2.2 i hi i hb
    exact this rfl
  have view : ∀ (i : Nat) (l : List Int), s[i]? = some (some l) → (i ∈ blk ∧ l = L) ∨ (i ∉ blk ∧ r[i]? = some (some l)) := fun i l h => by
    by_cases c : i ∈ blk
    · rw [h1 i c] at h
      exact .inl ⟨c, (Option.some.inj (Option.some.inj h)).symm⟩
    · exact .inr ⟨c, (h2 i c) ▸ h⟩
  have old : ∀ (i : Nat) (l : List Int), r[i]? = some (some l) → ∀ x ∈ l, x ∈ L := fun i l h x hx => by
    obtain ⟨a, ha, e⟩ := D.sub i l h x hx
    exact (hm x).mpr ⟨a, List.mem_append_left _ ha, e⟩
  refine ⟨⟨hs, fun i l h => ?_, fun i l h => ?_, fun i l h => ?_, fun i j l m h h' => ?_, fun i j l m h h' hin => ?_⟩, nd', lt', fun i l h => ?_, fun i => ?_⟩
  · rcases view i l h with ⟨_, rfl⟩ | ⟨_, q⟩
    · exact hL
    · exact D.ok.up i l q
  · rcases view i l h with ⟨_, rfl⟩ | ⟨_, q⟩
    · intro x hx
      obtain ⟨a, ha, e⟩ := (hm x).mp hx
      have := lt' a (List.mem_append_left _ ha)
      omega
    · exact D.ok.rng i l q
  · rcases view i l h with ⟨hi, rfl⟩ | ⟨_, q⟩
    · exact (hm _).mpr ⟨i, List.mem_append_right _ hi, rfl⟩
    · exact D.ok.self i l q
  · rcases view i l h with ⟨hi, rfl⟩ | ⟨_, q⟩ <;> rcases view j m h' with ⟨hj, rfl⟩ | ⟨_, q'⟩
    · exact .inl fun x hx => hx
    · exact .inr (old j m q')
    · exact .inl (old i l q)
    · exact D.ok.cmp i j l m q q'
  · rcases view i l h with ⟨hi, rfl⟩ | ⟨_, q⟩ <;> rcases view j m h' with ⟨hj, rfl⟩ | ⟨_, q'⟩
    · exact fun x hx => hx
    · obtain ⟨a, ha, e⟩ := D.sub j m q' _ hin
      have : i = a := by omega
      subst this
      exact absurd hi (dis i ha)
    · exact old i l q
    · exact D.ok.fit i j l m q q' hin
  · rcases view i l h with ⟨_, rfl⟩ | ⟨_, q⟩
    · exact fun x hx => (hm x).mp hx
    · intro x hx
      obtain ⟨a, ha, e⟩ := D.sub i l q x hx
      exact ⟨a, List.mem_append_left _ ha, e⟩
  · rw [List.mem_append, D.has]
    constructor
    · rintro (⟨l, h⟩ | h)
      · by_cases c : i ∈ blk
        · exact ⟨L, h1 i c⟩
        · exact ⟨l, by rw [h2 i c]; exact h⟩
      · exact ⟨L, h1 i h⟩
    · rintro ⟨l, h⟩
      rcases view i l h with ⟨hi, _⟩ | ⟨_, q⟩
      · exact .inr hi
      · exact .inl ⟨l, q⟩
/-- sorted, without doubles -/
theorem srt_lt : ∀ {l : List Int}, l.Pairwise (· ≤ ·) → l.Nodup → l.Pairwise (· < ·)
  | [], _, _ => .nil
  | a :: l, h, d => by
    obtain ⟨h1, h2⟩ := List.pairwise_cons.mp h
    obtain ⟨d1, d2⟩ := List.nodup_cons.mp d
    refine List.pairwise_cons.mpr ⟨fun x hx => ?_, srt_lt h2 d2⟩
    have := h1 x hx
    have ne : a ≠ x := fun e => d1 (by rw [e]; exact hx)
    omega
theorem map_int_nodup {l : List Nat} (h : l.Nodup) : (l.map fun a : Nat => (a : Int)).Nodup := by
  unfold List.Nodup at *
  rw [List.pairwise_map]
  exact h.imp fun h e => h (by omega)
end Fp
namespace Fp
open PySem PySem.Spec PyProof.Rows L2
def spDRow : Sp := fun vs H Q _ => ∃ (p : Addr) (n k : Nat) (wh : Bool), vs = [.ref p, .int n, .bl wh] ∧ 1 ≤ n ∧ n ≤ 5 ∧ k < 100000 ∧ PotAt H p k ∧ ∀ v H' d, But [p] H H' → PotAt H' p (k + 20) → DV H' v d → atB n d = true → (wh = true → wholeB n d = true) → Q v H'
def selF (n : Nat) (S : List Nat) : List Int := (fullL n).filter fun x => S.any fun a => decide (x = (a : Int))
theorem selF_up (n : Nat) (S : List Nat) : (selF n S).Pairwise (· < ·) := (fullL_up n).filter _
theorem selF_mem {n : Nat} {S : List Nat} (h : ∀ a ∈ S, a < n) (x : Int) : x ∈ selF n S ↔ ∃ a ∈ S, x = ((a : Nat) : Int) := by
  unfold selF
  rw [List.mem_filter, List.any_eq_true]
  constructor
  · rintro ⟨_, a, ha, e⟩
    exact ⟨a, ha, of_decide_eq_true e⟩
  · rintro ⟨a, ha, e⟩
    exact ⟨by rw [e]; exact List.mem_map.mpr ⟨a, List.mem_range.mpr (h a ha), rfl⟩, a, ha, decide_eq_true e⟩
theorem selF_eq {n : Nat} {S : List Nat} (h : ∀ a ∈ S, a < n) (hd : S.Nodup) {zs : List Int} (hp : zs.Perm (S.map fun a : Nat => (a : Int))) (hs : zs.Pairwise (· ≤ ·)) : zs = selF n S := by
  refine srt_eq (srt_lt hs (hp.nodup_iff.mpr (map_int_nodup hd))) (selF_up n S) fun x => ?_
  rw [hp.mem_iff, List.mem_map, selF_mem h]
  exact ⟨fun ⟨a, h1, h2⟩ => ⟨a, h1, h2.symm⟩, fun ⟨a, h1, h2⟩ => ⟨a, h1, h2.symm⟩⟩
theorem but_none {p x : Addr} {k : Nat} {H H' : Hp} (g : But [p] H H') (hP : PotAt H' p k) (h : H' x = none) : H x = none ∧ x ≠ p := by
  have ne : x ≠ p := fun z => by
    obtain ⟨a, b, c, e, _⟩ := hP
    rw [z, e] at h; cases h
  cases e : H x with
  | none => exact ⟨rfl, ne⟩
  | some o => rw [g x o (by simpa using ne) e] at h; cases h
theorem pot_sm {H H' : Hp} {p : Addr} {n : Nat} (g : Same H H') (h : PotAt H p n) : PotAt H' p n := by
  obtain ⟨a, b, c, e, r⟩ := h
  exact ⟨a, b, c, g _ _ e, r⟩
theorem but_put {p x : Addr} {H H' : Hp} {o : HO} (g : But [p] H H') (h : H x = none) : But [p] H (upd H' x o) := fun b u nb q => by
  rw [upd_ne (ne_of_none q h)]; exact g b u nb q
theorem pot_put {p x : Addr} {H : Hp} {n : Nat} {o : HO} (h : PotAt H p n) (ne : x ≠ p) : PotAt (upd H x o) p n := by
  obtain ⟨a, b, c, e, r⟩ := h
  exact ⟨a, b, c, by rw [upd_ne (Ne.symm ne)]; exact e, r⟩
abbrev iL (l : List Nat) : List V := l.map fun a : Nat => V.int (a : Int)
theorem rgV_iL (n : Nat) : rgV 0 (n : Int) = iL (List.range n) := by
  unfold rgV iL
  rw [show ((n : Int) - 0).toNat = n by omega]
  exact List.map_congr_left fun i _ => by rw [Int.zero_add]
theorem perm_iL {ys zs : List V} {l : List Nat} (h : (ys ++ zs).Perm (iL l)) : ∃ l1 l2, ys = iL l1 ∧ zs = iL l2 ∧ (l1 ++ l2).Perm l := by
  have nat : ∀ {xs : List V}, (∀ x ∈ xs, ∃ a : Nat, x = .int (a : Int)) → ∃ l, xs = iL l := fun {xs} => by
    induction xs with
    | nil => exact fun _ => ⟨[], rfl⟩
    | cons x r ih =>
      intro hx
      obtain ⟨a, rfl⟩ := hx x List.mem_cons_self
      obtain ⟨l, rfl⟩ := ih fun y hy => hx y (List.mem_cons_of_mem _ hy)
      exact ⟨a :: l, rfl⟩
  have all : ∀ x ∈ ys ++ zs, ∃ a : Nat, x = .int (a : Int) := fun x hx => by
    obtain ⟨a, _, e⟩ := List.mem_map.mp (h.mem_iff.mp hx)
    exact ⟨a, e.symm⟩
  obtain ⟨l1, rfl⟩ := nat fun x hx => all x (List.mem_append_left _ hx)
  obtain ⟨l2, rfl⟩ := nat fun x hx => all x (List.mem_append_right _ hx)
  refine ⟨l1, l2, rfl, rfl, ?_⟩
  have := h.map fun v : V => match v with
    | .int i => i.toNat
    | _ => 0
  unfold iL at this
  rw [← List.map_append, List.map_map, List.map_map] at this
  have e : ∀ m : List Nat, m.map ((fun v : V => match v with
    | .int i => i.toNat
    | _ => 0) ∘ fun a : Nat => V.int (a : Int)) = m := fun m => (List.map_congr_left fun a _ => by show ((a : Int)).toNat = a; omega).trans (List.map_id m)
  rw [e, e] at this
  exact this
theorem dvs_non (H : Hp) : ∀ n : Nat, DVs H (List.replicate n .non) (List.replicate n .non)
  | 0 => .nil
  | n + 1 => .cons .non (dvs_non H n)
theorem ixN_nat {n h : Nat} (hh : h < n) : ixN n (h : Int) = some h := by
  unfold ixN
  rw [if_pos (by omega), if_pos (by omega)] <;> simp
section
variable {P : Program} {w : World} {K : PySem.W.Frag} {mg : Str → Option Value} {base : Heap} {f : Addr} {fd : FuncData} {C : Addr}
abbrev s_law_drawn_row : Stmt := top 42
theorem sc_law_drawn_row : FnScope ["pot", "many", "is_whole_v", "few", "left", "seen", "row", "lap", "block", "hand", "there"] ["pot", "many", "is_whole_v"] (defScope s_law_drawn_row) := ⟨rfl, rfl, rfl, by decide +kernel, rfl, by decide +kernel, by decide +kernel⟩
theorem ok_law_drawn_row (F : Fun K "_law_drawn_row" "_law_drawn_row" s_law_drawn_row f fd) (T : RTx mg) (G_law_take : Fd P w K mg base CX0 "_law_take" 1 ["pot", "upto"] spTake) (G_law_some : Fd P w K mg base CX0 "_law_some" 2 ["pot", "pool", "many"] (spSome K)) : FnOk P w K mg base CX0 3 f fd ["pot", "many", "is_whole_v"] spDRow := by
  refine F.ok sc_law_drawn_row (fun vs H Q E h => ?_) (fun cdv A outer s H vs Q E hr h => ?_)
  · obtain ⟨p, n, k, wh, rfl, _⟩ := h
    rfl
  obtain ⟨p, n, k, wh, rfl, h1, h5, hk, hP, q⟩ := h
  refine ⟨_, (pss_cons (ps_set (i := 3) sc_law_drawn_row.nd rfl (Or.inl rfl) (pe_mid (pe_ifExp (pt_truth (pv 2) (by intro _; rfl)) (pv 1) (pe_op op_add pe_int (pe_fd G_law_take (hr.mono (by first | decide | omega)) rfl (pa_cons (pv 0) (pa_cons (pv 1) pa_nil)))))))
  (pss_cons (ps_asg (pe_tup (pa_cons (pe_fd G_law_some (hr.mono (by first | decide | omega)) rfl (pa_cons (pv 0) (pa_cons (pe_listRg rfl rfl T.list (prg_1 rfl T.range (pv 1))) (pa_cons (pv 3) pa_nil)))) (pa_cons (pe_lst pa_nil) (pa_cons (pe_op op_rep (pe_lst (pa_cons pe_non pa_nil)) (pv 1)) pa_nil)))) (pg_tup rfl (pgs_cons (pg_name (i := 4) sc_law_drawn_row.nd rfl (Or.inl rfl)) (pgs_cons (pg_name (i := 5) sc_law_drawn_row.nd rfl (Or.inl rfl)) (pgs_cons (pg_name (i := 6) sc_law_drawn_row.nd rfl (Or.inr rfl)) pgs_nil)))))
  (pss_cons (ps_for PassesOwn.never rfl (pi_range1 rfl T.range (pa_cons (pv 1) pa_nil)) (pg_name (i := 7) sc_law_drawn_row.nd rfl (Or.inl rfl)) (pss_cons (ps_set (i := 8) sc_law_drawn_row.nd rfl (Or.inl rfl) (pe_slice sl_list (pv 4) po_none (po_some (pe_op op_add pe_int (pe_fd G_law_take (hr.mono (by first | decide | omega)) rfl (pa_cons (pv 0) (pa_cons (pe_callB (call_max2 rfl) rfl T.max (by decide +kernel) (pa_cons pe_int (pa_cons (pe_callB call_len rfl T.len (by decide +kernel) (pa_cons (pv 4) pa_nil)) pa_nil))) pa_nil)))))))
  (pss_cons (ps_par (i := 4) (j := 5) (by rfl) sc_law_drawn_row.nd rfl rfl (by decide) rfl rfl (pa_cons (pe_slice sl_list (pv 4) (po_some (pe_callB call_len rfl T.len (by decide +kernel) (pa_cons (pv 8) pa_nil))) po_none) (pa_cons (pe_op op_cat (pv 5) (pv 8)) pa_nil)) (by rfl))
  (pss_one (ps_for PassesOwn.never rfl (pi_list (pv 8)) (pg_name (i := 9) sc_law_drawn_row.nd rfl (Or.inl rfl)) (pss_one (ps_asg (pe_callTy call_tuple_of rfl T.tuple (by decide +kernel) (pa_cons (pe_callB cr_sorted rfl T.sorted (by decide +kernel) (pa_cons (pv 5) pa_nil)) pa_nil)) (pg_sub (pv 6) (pv 9) set_list))))))))
  (pss_cons (ps_setLc (i := 10) (own := [("hand", 9)]) (g := (gName 9))  rfl sc_law_drawn_row.nd rfl rfl (sw_true rfl rfl rfl (by decide +kernel)) (pi_range1 rfl T.range (pa_cons (pv 1) pa_nil)) (blkOk_by (own := [("hand", 9)]) (N := ["pot", "many", "is_whole_v", "few", "left", "seen", "row", "lap", "block", "hand", "there"]) (sc := defScope s_law_drawn_row) (by decide +kernel)) (fun _ _ _ _ _ => (pg_name (i := 9) sc_law_drawn_row.nd rfl (Or.inl rfl))) (fun _ _ _ _ _ => (pts_one (pt_cmpR op_notN (pe_ix ix_listK (pv 6) (pv 9) (fun _ _ => rfl)) pe_non (nomark _)))) (fun _ _ _ _ _ => (pv 9)))
  (pss_cons (ps_for PassesOwn.never rfl (pi_list (pe_mid (pe_ifExp (pt_truth (pv 2) (by intro _; rfl)) (pe_lst pa_nil) (pe_fd G_law_some (hr.mono (by first | decide | omega)) rfl (pa_cons (pv 0) (pa_cons (pv 10) (pa_cons (pe_fd G_law_take (hr.mono (by first | decide | omega)) rfl (pa_cons (pv 0) (pa_cons (pe_callB call_len rfl T.len (by decide +kernel) (pa_cons (pv 10) pa_nil)) pa_nil))) pa_nil))))))) (pg_name (i := 9) sc_law_drawn_row.nd rfl (Or.inl rfl)) (pss_one (ps_asg pe_non (pg_sub (pv 6) (pv 9) set_list))))
  (pss_one (ps_ret (pe_callTy call_tuple_of rfl T.tuple (by decide +kernel) (pa_cons (pv 6) pa_nil))))))))), ?_⟩
  refine ⟨fun v H' => ∃ m : Nat, v = .int m ∧ 1 ≤ m ∧ m ≤ n ∧ (wh = true → m = n) ∧ But [p] H H' ∧ PotAt H' p (k + 1), ?_, ?_⟩
  · refine ⟨_, rfl, wh, rfl, ite2 (fun c => ⟨_, rfl, n, rfl, h1, Nat.le_refl _, fun _ => rfl, But.refl _ _, hP.mono (by omega)⟩) (fun c => ?_)⟩
    refine ⟨_, rfl, _, rfl, p, n, k, rfl, by omega, by omega, by omega, hP, fun d H' hd g hp => ⟨_, _, rfl, rfl, d + 1, ?_, by omega, by omega, fun z => absurd z c, g, hp⟩⟩
    show V.int (1 + (d : Int)) = V.int ((d + 1 : Nat) : Int)
    congr 1
    omega
  rintro y H1 ⟨m, rfl, hm1, hmn, hwm, g1, hP1⟩
  refine g_set ?_
  refine nx_in ?_
  refine seq_in ?_
  refine ⟨_, rfl, _, rfl, n, rfl, .of_le (by omega) (by omega) (by omega) (by omega), fun rg nrg => ?_⟩
  have s1 := same_new nrg (.lst (rgV 0 (n : Int)))
  have hP2 := pot_sm s1 hP1
  refine ⟨_, rfl, p, rg, rgV 0 (n : Int), m, k + 1, rfl, .inl (.of upd_same), by rw [rgV_length]; omega, by rw [rgV_length]; omega, by omega, hP2, fun l ys zs H2 hyl hperm nl hl g2 hP3 => ?_⟩
  rw [rgV_iL] at hperm
  obtain ⟨left0, dropped, rfl, rfl, hpm⟩ := perm_iL hperm
  have gA : But [p] H H2 := (g1.trans (.of s1)).trans g2
  have nlP := but_none ((g1.trans (.of s1))) hP2 nl
  refine ⟨szl (by show 0 ≤ _; decide), fun sn0 nsn0 => ⟨szl (by show 1 ≤ _; decide), fun r1 nr1 => ⟨_, rfl, r1, n, [.non], rfl, rfl, upd_same, by omega, by omega, szl (by show 1 * n ≤ _; omega), fun rw nrw => ?_⟩⟩⟩
  have erep : (List.replicate (n : Int).toNat [V.non]).flatten = List.replicate n V.non := by
    rw [Int.toNat_natCast]
    simp
  rw [erep]
  have s2 := same_new nsn0 (.lst [])
  have s3 := same_new nr1 (.lst [.non])
  have s4 := same_new nrw (.lst (List.replicate n V.non))
  have hPA : PotAt H2 p (k + 6) := hP3.mono (by omega)
  have nsn := but_none gA hPA nsn0
  have nrw' := but_none (gA.trans (.of (s2.trans s3))) (pot_sm (s2.trans s3) hPA) nrw
  have hl4 := s4 _ _ (s3 _ _ (s2 _ _ hl))
  have hsn4 := s4 _ _ (s3 _ _ (upd_same (H := H2) (a := sn0) (o := .lst [])))
  have hrw4 : upd (upd (upd H2 sn0 (.lst [])) r1 (.lst [.non])) rw (.lst (List.replicate n V.non)) rw = some (.lst (List.replicate n V.non)) := upd_same
  have rwl : rw ≠ l := Ne.symm (ne_of_none (s3 _ _ (s2 _ _ hl)) nrw)
  have rwsn : rw ≠ sn0 := Ne.symm (ne_of_none (s3 _ _ (upd_same (H := H2) (a := sn0) (o := .lst []))) nrw)
  have gB : But [p] H _ := gA.trans (.of ((s2.trans s3).trans s4))
  have hPB := pot_sm ((s2.trans s3).trans s4) hPA
  generalize upd (upd (upd H2 sn0 (.lst [])) r1 (.lst [.non])) rw (.lst (List.replicate n V.non)) = H4 at hl4 hsn4 hrw4 gB hPB ⊢
  refine ⟨szl (by show 3 ≤ _; decide), fun t3 nt3 => ⟨t3, _, rfl, .of upd_same, rfl, _, _, rfl, _, _, rfl, _, _, rfl, rfl, ?_⟩⟩
  have s5 := same_new nt3 (.tup [.ref l, .ref sn0, .ref rw])
  refine nx_in ?_
  refine seq_in ?_
  have hlen0 : left0.length = m := by rw [← hyl]; exact (List.length_map _).symm
  have nd0 : (left0 ++ dropped).Nodup := hpm.nodup_iff.mpr List.nodup_range
  have lt0 : ∀ x ∈ left0, x < n := fun x hx => List.mem_range.mp (hpm.mem_iff.mp (List.mem_append_left _ hx))
  refine ⟨_, rfl, (n : Int), rfl, by omega, by omega, for_range (lo := 0) (n := n) (fun i σ H' => ∃ (lf sn : Addr) (u7 u8 u9 : Option V) (seen left : List Nat) (r : RowO) (vs : List V), σ = [some (.ref p), some (.int n), some (.bl wh), some (.int m), some (.ref lf), some (.ref sn), some (.ref rw), u7, u8, u9, none] ∧ But [p] H H' ∧ PotAt H' p (k + 6 + i) ∧ rw ≠ lf ∧ rw ≠ sn ∧ lf ≠ p ∧ sn ≠ p ∧
    H' lf = some (.lst (iL left)) ∧ H' sn = some (.lst (iL seen)) ∧ H' rw = some (.lst vs) ∧ DVs H' vs (r.map oD) ∧ Drw n seen left r ∧ seen.length + left.length = m ∧ left.length ≤ m - i) ?_ ?_ ?_⟩
  · refine ⟨l, sn0, none, none, none, [], left0, List.replicate n none, List.replicate n .non, rfl, gB.trans (.of s5), pot_sm s5 hPB, rwl, rwsn, nlP.2, nsn.2, s5 _ _ hl4, s5 _ _ hsn4, s5 _ _ hrw4, ?_, Drw.start (List.nodup_append.mp nd0).1 lt0, by rw [hlen0]; exact Nat.zero_add _, by rw [hlen0]; omega⟩
    rw [List.map_replicate]
    exact dvs_non _ n
  · rintro i σ H5 hi ⟨lf, sn, u7, u8, u9, seen, left, r, vs, rfl, g5, hP5, rwlf, rwsn, lfp, snp, hlf, hsn, hrw, hvs, D, hsl, hll⟩
    refine g_set ?_
    refine seq_in ?_
    refine ⟨_, rfl, ?_⟩
    refine noP_in ?_
    refine ⟨_, rfl, _, rfl, _, (iL left).length, rfl, .inl ⟨_, .of hlf, rfl⟩, _, _, rfl, p, _, k + 6 + i, rfl, ?_, ?_, by omega, hP5, fun d H6 hd g6 hP6 => ?_⟩
    · split <;> omega
    · rw [List.length_map]
      have : left.length ≤ 5 := by omega
      split <;> omega
    have hlf6 := g6 _ _ (by simpa using lfp) hlf
    refine ⟨_, _, rfl, rfl, _, rfl, lf, _, rfl, .of hlf6, fun bk nbk => ?_⟩
    have s7 := same_new nbk (.lst (cutV (iL left) none (some (1 + (d : Int)))))
    have eblk : cutV (iL left) none (some (1 + (d : Int))) = iL (left.take (d + 1)) := by
      rw [show (1 + (d : Int)) = ((d + 1 : Nat) : Int) by omega, cutA_to, ← List.map_take]
    rw [eblk] at s7 ⊢
    generalize hblk : left.take (d + 1) = blk at s7 ⊢
    have hspl : left = blk ++ left.drop blk.length := by
      rw [← hblk, List.length_take]
      rcases Nat.le_total (d + 1) left.length with z | z
      · rw [Nat.min_eq_left z, List.take_append_drop]
      · rw [Nat.min_eq_right z, List.take_of_length_le z, List.drop_length, List.append_nil]
    have hbl : 0 < left.length → 0 < blk.length := fun z => by rw [← hblk, List.length_take]; omega
    generalize hrest : left.drop blk.length = rest at hspl
    have hll2 : left.length = blk.length + rest.length := by rw [hspl, List.length_append]
    have g7 := g5.trans (g6.trans (.of s7))
    have nbk' := but_none (g5.trans g6) hP6 nbk
    have hP7 := pot_sm s7 hP6
    have rwp : rw ≠ p := nrw'.2
    have rwbk : rw ≠ bk := ne_of_none (g6 _ _ (by simpa using rwp) hrw) nbk
    have hlf7 := s7 _ _ hlf6
    have hsn7 := s7 _ _ (g6 _ _ (by simpa using snp) hsn)
    have hrw7 := s7 _ _ (g6 _ _ (by simpa using rwp) hrw)
    have hvs7 := (hvs.kd (.pot g6 hP5 hP6)).same s7
    have hbk7 : upd H6 bk (.lst (iL blk)) bk = some (.lst (iL blk)) := upd_same
    generalize upd H6 bk (.lst (iL blk)) = H7 at hlf7 hsn7 hrw7 hvs7 hbk7 g7 hP7 ⊢
    refine g_set ?_
    refine nx_in ?_
    refine seq_in ?_
    refine ⟨_, rfl, _, rfl, _, (iL blk).length, rfl, .inl ⟨_, .of hbk7, rfl⟩, _, rfl, ?_⟩
    refine noP_in ?_
    refine ⟨lf, _, rfl, .of hlf7, fun lf2 nlf2 => ?_⟩
    have erst : cutV (iL left) (some (((iL blk).length : Nat) : Int)) none = iL rest := by
      rw [cutA_from, List.length_map, ← List.map_drop, hrest]
    rw [erst]
    have s8 := same_new nlf2 (.lst (iL rest))
    refine ⟨_, rfl, _, rfl, sn, bk, _, _, rfl, rfl, s8 _ _ hsn7, s8 _ _ hbk7, szl (by rw [List.length_map, List.length_map]; omega), fun sn2 nsn2 => ?_⟩
    have ecat : iL seen ++ iL blk = iL (seen ++ blk) := List.map_append.symm
    rw [ecat]
    have s9 := same_new nsn2 (.lst (iL (seen ++ blk)))
    have nlf2' := but_none g7 hP7 nlf2
    have nsn2' := but_none (g7.trans (.of s8)) (pot_sm s8 hP7) nsn2
    have rwlf2 : rw ≠ lf2 := ne_of_none hrw7 nlf2
    have rwsn2 : rw ≠ sn2 := ne_of_none (s8 _ _ hrw7) nsn2
    have g9 := g7.trans (.of (s8.trans s9))
    have hP9 := pot_sm (s8.trans s9) hP7
    have hlf9 := s9 _ _ (upd_same (H := H7) (a := lf2) (o := .lst (iL rest)))
    have hbk9 := s9 _ _ (s8 _ _ hbk7)
    have hrw9 := s9 _ _ (s8 _ _ hrw7)
    have hvs9 := hvs7.same (s8.trans s9)
    have hsn9 : upd (upd H7 lf2 (.lst (iL rest))) sn2 (.lst (iL (seen ++ blk))) sn2 = some (.lst (iL (seen ++ blk))) := upd_same
    generalize upd (upd H7 lf2 (.lst (iL rest))) sn2 (.lst (iL (seen ++ blk))) = H9 at hlf9 hbk9 hrw9 hvs9 hsn9 g9 hP9 ⊢
    refine ⟨_, _, rfl, ?_⟩
    have D' : Drw n seen (blk ++ rest) r := by rw [← hspl]; exact D
    have nd' : (seen ++ blk).Nodup := by
      have := D'.nd
      rw [← List.append_assoc] at this
      exact (List.nodup_append.mp this).1
    have lt' : ∀ x ∈ seen ++ blk, x < n := fun x hx => D'.lt x (by rw [← List.append_assoc]; exact List.mem_append_left _ hx)
    have hsb : (seen ++ blk).length ≤ 5 := by rw [List.length_append]; omega
    refine nx_in ?_
    refine ⟨_, rfl, bk, rfl, ⟨_, .of hbk9⟩, for_list (K := K) (a := bk) (xs := iL blk) (fun t σ H' => ∃ (u9 : Option V) (rt : RowO) (vt : List V), σ = [some (.ref p), some (.int n), some (.bl wh), some (.int m), some (.ref lf2), some (.ref sn2), some (.ref rw), some (.int (0 + (i : Nat))), some (.ref bk), u9, none] ∧ But [p] H H' ∧ PotAt H' p (k + 6 + i + 1) ∧
      H' bk = some (.lst (iL blk)) ∧ H' lf2 = some (.lst (iL rest)) ∧ H' sn2 = some (.lst (iL (seen ++ blk))) ∧ H' rw = some (.lst vt) ∧ DVs H' vt (rt.map oD) ∧ rt.length = n ∧ (∀ j ∈ blk.take t, rt[j]? = some (some (selF n (seen ++ blk)))) ∧ ∀ j, j ∉ blk.take t → rt[j]? = r[j]?) ?_ ?_ ?_ ?_⟩
    · exact ⟨_, r, vs, rfl, g9, hP9, hbk9, hlf9, hsn9, hrw9, hvs9, D.ok.len, fun j hj => (by cases hj), fun _ _ => rfl⟩
    · rintro t σ H' ht ⟨u9, rt, vt, rfl, _, _, h, _⟩
      exact .of h
    · rintro t x σ H10 hx ⟨u9, rt, vt, rfl, g10, hP10, hbk10, hlf10, hsn10, hrw10, hvt, hrl, hin, hout⟩
      rw [List.getElem?_map] at hx
      obtain ⟨h, hh, rfl⟩ := Option.map_eq_some_iff.mp hx
      have hhb := List.mem_of_getElem? hh
      have hhn : h < n := lt' h (List.mem_append_right _ hhb)
      refine g_set ?_
      refine ⟨_, rfl, sn2, (seen ++ blk).map fun a : Nat => (a : Int), rfl, .of (by rw [hsn10, List.map_map]; rfl), by rw [List.length_map]; omega, fun zs q1 hzp hzs nq1 => ?_⟩
      have ez := selF_eq lt' nd' hzp hzs
      subst ez
      have s11 := same_new nq1 (.lst ((selF n (seen ++ blk)).map V.int))
      refine ⟨q1, _, rfl, .inl ⟨.of upd_same, fun tp ntp => ?_⟩⟩
      have s12 := same_new ntp (.tup ((selF n (seen ++ blk)).map V.int))
      have s := s11.trans s12
      have hrw12 := s _ _ hrw10
      have hvl : vt.length = n := by rw [hvt.len, List.length_map, hrl]
      refine ⟨_, rfl, _, rfl, rw, vt, _, h, rfl, rfl, hrw12, by rw [hvl]; exact ixN_nat hhn, ?_⟩
      have hLl : (selF n (seen ++ blk)).length ≤ 1000 := by
        have := hzp.length_eq
        rw [List.length_map] at this
        omega
      have dl : DV (upd (upd H10 q1 (.lst ((selF n (seen ++ blk)).map V.int))) tp (.tup ((selF n (seen ++ blk)).map V.int))) (.ref tp) (lotD (selF n (seen ++ blk))) := .tup upd_same (dvs_ints _ _) (by rw [List.length_map]; exact hLl)
      have kp := DKp.put (ys := vt.set h (.ref tp)) hrw12
      refine ⟨_, rt.set h (some (selF n (seen ++ blk))), _, rfl, but_put (g10.trans (.of s)) nrw'.1, pot_put (pot_sm s hP10) rwp, by rw [upd_ne (Ne.symm rwbk)]; exact s _ _ hbk10, by rw [upd_ne (Ne.symm rwlf2)]; exact s _ _ hlf10, by rw [upd_ne (Ne.symm rwsn2)]; exact s _ _ hsn10, upd_same, ?_, by rw [List.length_set]; exact hrl, fun j hj => ?_, fun j hj => ?_⟩
      · rw [List.map_set]
        exact DVs.set (dl.kd kp) ((hvt.same s).kd kp)
      · rw [List.take_add_one, hh, Option.toList_some, List.mem_append, List.mem_singleton] at hj
        by_cases e : h = j
        · subst e
          rw [List.getElem?_set_self (by rw [hrl]; exact hhn)]
        · rw [List.getElem?_set_ne e]
          exact hin j (hj.resolve_right (fun z => e z.symm))
      · rw [List.take_add_one, hh, Option.toList_some, List.mem_append, List.mem_singleton] at hj
        have e : h ≠ j := fun z => hj (.inr z.symm)
        rw [List.getElem?_set_ne e]
        exact hout j fun z => hj (.inl z)
    · rintro σ H10 ⟨u9, rt, vt, rfl, g10, hP10, hbk10, hlf10, hsn10, hrw10, hvt, hrl, hin, hout⟩
      have et : blk.take (iL blk).length = blk := by rw [List.length_map, List.take_length]
      rw [et] at hin hout
      have D2 := Drw.block (s := rt) (L := selF n (seen ++ blk)) D' hrl (selF_up _ _) (selF_mem lt') hin hout
      refine ⟨lf2, sn2, _, _, _, seen ++ blk, rest, rt, vt, rfl, g10, hP10, rwlf2, rwsn2, nlf2'.2, nsn2'.2, hlf10, hsn10, hrw10, hvt, D2, by rw [List.length_append]; omega, ?_⟩
      by_cases z : 0 < left.length
      · have := hbl z
        omega
      · omega
  · rintro σ H5 ⟨lf, sn, u7, u8, u9, seen, left, r, vs, rfl, g5, hP5, _, _, _, _, _, _, hrw, hvs, D, hsl, hll⟩
    have rwp : rw ≠ p := nrw'.2
    have hvl : vs.length = n := by rw [hvs.len, List.length_map, D.ok.len]
    refine nx_in ?_
    refine seq_in ?_
    refine ⟨_, rfl, (n : Int), rfl, by omega, by omega, fun DD hDD => ?_⟩
    refine lc_it (walk_range (lo := 0) (n := n)) (fun i H' => Same H5 H' ∧ H' DD = some (.lst (iL ((List.range i).filter fun j => (r.getD j none).isSome)))) ⟨same_new hDD _, upd_same⟩ (fun _ _ _ _ => True.intro) ?_ ?_
    · rintro i x H6 H7 hi ⟨g6, h6⟩ ⟨rfl, rfl⟩
      have hirr : i < r.length := by rw [D.ok.len]; exact hi
      have hri : r[i]? = some r[i] := List.getElem?_eq_getElem hirr
      obtain ⟨v, hv, dv⟩ := DVs.get hvs (show (r.map oD)[i]? = some (oD r[i]) by rw [List.getElem?_map, hri]; rfl)
      have en := dv.non_iff
      have eg : r.getD i none = r[i] := by rw [List.getD_eq_getElem?_getD, hri]; rfl
      have fl : ((List.range i).filter fun j => (r.getD j none).isSome).length ≤ i := Nat.le_trans (List.length_filter_le _ _) (by rw [List.length_range]; exact Nat.le_refl _)
      refine ⟨rfl, _, rfl, _, rfl, rw, vs, _, v, rfl, rfl, .of (g6 _ _ hrw), (by rw [Int.zero_add]; exact atI_nat hv), rfl, _, rfl, ?_⟩
      cases e : r[i] with
      | none =>
        rw [e] at en eg
        refine ite_no (by rw [en]; rfl) ⟨g6, ?_⟩
        rw [h6, List.range_succ, List.filter_append, List.filter_cons, eg]
        simp
      | some L =>
        rw [e] at en eg
        refine ite_yes (by rw [en]; rfl) ⟨_, rfl, _, h6, szt (by rw [List.length_map]; omega), fun o u ho => ?_, ?_⟩
        · rw [upd_ne (ne_of_none ho hDD)]; exact g6 _ _ ho
        · rw [upd_same, List.range_succ, List.filter_append, List.filter_cons, eg]
          show some (HO.lst (iL _ ++ [V.int (0 + (i : Int))])) = some (HO.lst (iL (_ ++ [i])))
          rw [Int.zero_add]
          unfold iL
          rw [List.map_append]; rfl
    rintro H6 ⟨g6, h6⟩
    generalize hth : ((List.range n).filter fun j => (r.getD j none).isSome) = th at h6
    have thm : ∀ j, j ∈ th ↔ j < n ∧ ∃ L, r[j]? = some (some L) := fun j => by
      rw [← hth, List.mem_filter, List.mem_range]
      constructor
      · rintro ⟨a, b⟩
        refine ⟨a, ?_⟩
        have hjrr : j < r.length := by rw [D.ok.len]; exact a
        have hri : r[j]? = some r[j] := List.getElem?_eq_getElem hjrr
        rw [List.getD_eq_getElem?_getD, hri] at b
        cases e : r[j] with
        | none => rw [e] at b; cases b
        | some L => exact ⟨L, by rw [hri, e]⟩
      · rintro ⟨a, L, b⟩
        exact ⟨a, by rw [List.getD_eq_getElem?_getD, b]; rfl⟩
    have thn : th.Nodup := by rw [← hth]; exact List.Pairwise.filter _ List.nodup_range
    have thl : th.length ≤ 5 := by
      rw [← hth]
      exact Nat.le_trans (List.length_filter_le _ _) (by rw [List.length_range]; exact h5)
    have hth0 : 0 < th.length := by
      cases seen with
      | nil => simp at hsl; omega
      | cons a b =>
        have ha : a ∈ a :: b := List.mem_cons_self
        exact List.length_pos_of_mem ((thm a).mpr ⟨D.lt a (List.mem_append_left _ ha), (D.has a).mp ha⟩)
    have g56 := g5.trans (.of g6)
    have hP6 := pot_sm g6 hP5
    have nDD := but_none g5 hP5 hDD
    have hrw6 := g6 _ _ hrw
    have hvs6 := hvs.same g6
    refine g_set ?_
    refine nx_in ?_
    refine seq_in ?_
    refine ⟨fun y H' => ∃ (zl : Addr) (zs : List Nat), y = .ref zl ∧ H' zl = some (.lst (iL zs)) ∧ (∀ x ∈ zs, x ∈ th) ∧ zs.length < th.length ∧ (wh = true → zs = []) ∧ But [p] H H' ∧ PotAt H' p (k + 20) ∧ rw ≠ zl ∧ H' rw = some (.lst vs) ∧ DVs H' vs (r.map oD), ?_, ?_⟩
    · refine ⟨_, rfl, wh, rfl, ite2 (fun c => ?_) (fun c => ?_)⟩
      · refine ⟨szl (by show 0 ≤ _; decide), fun zl nzl => ?_⟩
        have s7 := same_new nzl (.lst [])
        exact ⟨zl, [], rfl, upd_same, fun x hx => (by cases hx), hth0, fun _ => rfl, g56.trans (.of s7), (pot_sm s7 hP6).mono (by omega), ne_of_none hrw6 nzl, s7 _ _ hrw6, hvs6.same s7⟩
      · refine ⟨_, rfl, _, rfl, _, rfl, _, rfl, _, (iL th).length, rfl, .inl ⟨_, .of h6, rfl⟩, p, _, k + 6 + n, rfl, ?_, ?_, by omega, hP6, fun d H7 hd g7 hP7 => ?_⟩
        · rw [List.length_map]; omega
        · rw [List.length_map]; omega
        rw [List.length_map] at hd
        have h7 := g7 _ _ (by simpa using nDD.2) h6
        refine ⟨p, DD, iL th, d, k + 6 + n + 1, rfl, .inl (.of h7), by rw [List.length_map]; omega, by rw [List.length_map]; omega, by omega, hP7, fun zl ys zs H8 hyl hzp nzl hzl g8 hP8 => ?_⟩
        obtain ⟨y1, z1, rfl, rfl, hpz⟩ := perm_iL hzp
        have hrw7 := g7 _ _ (by simpa using rwp) hrw6
        have hvs7 := hvs6.kd (.pot g7 hP6 hP7)
        refine ⟨zl, y1, rfl, hzl, fun x hx => hpz.mem_iff.mp (List.mem_append_left _ hx), ?_, fun z => absurd z c, (g56.trans g7).trans g8, hP8.mono (by omega), ne_of_none hrw7 nzl, g8 _ _ (by simpa using rwp) hrw7, hvs7.kd (.pot g8 hP7 hP8)⟩
        rw [List.length_map] at hyl
        omega
    rintro y H7 ⟨zl, zs, rfl, hzl, hzth, hzlen, hwz, g7, hP7, rwzl, hrw7, hvs7⟩
    refine ⟨zl, rfl, ⟨_, .of hzl⟩, for_list (K := K) (a := zl) (xs := iL zs) (fun t σ H' => ∃ (u9 : Option V) (rt : RowO) (vt : List V), σ = [some (.ref p), some (.int n), some (.bl wh), some (.int m), some (.ref lf), some (.ref sn), some (.ref rw), u7, u8, u9, some (.ref DD)] ∧ But [p] H H' ∧ PotAt H' p (k + 20) ∧
      H' zl = some (.lst (iL zs)) ∧ H' rw = some (.lst vt) ∧ DVs H' vt (rt.map oD) ∧ rt.length = n ∧ (∀ j ∈ zs.take t, rt[j]? = some none) ∧ ∀ j, j ∉ zs.take t → rt[j]? = r[j]?) ?_ ?_ ?_ ?_⟩
    · exact ⟨_, r, vs, rfl, g7, hP7, hzl, hrw7, hvs7, D.ok.len, fun j hj => (by cases hj), fun _ _ => rfl⟩
    · rintro t σ H' ht ⟨u9, rt, vt, rfl, _, _, h, _⟩
      exact .of h
    · rintro t x σ H8 hx ⟨u9, rt, vt, rfl, g8, hP8, hzl8, hrw8, hvt, hrl, hin, hout⟩
      rw [List.getElem?_map] at hx
      obtain ⟨h, hh, rfl⟩ := Option.map_eq_some_iff.mp hx
      have hhn : h < n := ((thm h).mp (hzth h (List.mem_of_getElem? hh))).1
      have hvl : vt.length = n := by rw [hvt.len, List.length_map, hrl]
      refine g_set ?_
      refine ⟨_, rfl, _, rfl, rw, vt, _, h, rfl, rfl, hrw8, by rw [hvl]; exact ixN_nat hhn, ?_⟩
      have kp := DKp.put (ys := vt.set h .non) hrw8
      refine ⟨_, rt.set h none, _, rfl, but_put g8 nrw'.1, pot_put hP8 rwp, by rw [upd_ne (Ne.symm rwzl)]; exact hzl8, upd_same, ?_, by rw [List.length_set]; exact hrl, fun j hj => ?_, fun j hj => ?_⟩
      · rw [List.map_set]
        exact DVs.set DV.non (hvt.kd kp)
      · rw [List.take_add_one, hh, Option.toList_some, List.mem_append, List.mem_singleton] at hj
        by_cases e : h = j
        · subst e
          rw [List.getElem?_set_self (by rw [hrl]; exact hhn)]
        · rw [List.getElem?_set_ne e]
          exact hin j (hj.resolve_right (fun z => e z.symm))
      · rw [List.take_add_one, hh, Option.toList_some, List.mem_append, List.mem_singleton] at hj
        have e : h ≠ j := fun z => hj (.inr z.symm)
        rw [List.getElem?_set_ne e]
        exact hout j fun z => hj (.inl z)
    · rintro σ H8 ⟨u9, rt, vt, rfl, g8, hP8, hzl8, hrw8, hvt, hrl, hin, hout⟩
      have et : zs.take (iL zs).length = zs := by rw [List.length_map, List.take_length]
      rw [et] at hin hout
      refine nx_in ?_
      refine ret_in ?_
      refine ⟨_, rfl, rw, _, rfl, .inl ⟨.of hrw8, fun tp ntp => ?_⟩⟩
      have s9 := same_new ntp (.tup vt)
      have O : OkO n rt := D.ok.less hrl fun i L h => by
        by_cases c : i ∈ zs
        · rw [hin i c] at h; cases h
        · rw [hout i c] at h; exact h
      have h1' : 0 < n := h1
      refine q _ _ (rowOD rt) (g8.trans (.of s9)) (pot_sm s9 hP8) (.tup upd_same (hvt.same s9) (by rw [List.length_map]; omega)) (okO_at h1' O ?_) fun z => okO_whole h1' O fun i hi => ?_
      · have : ∃ j ∈ th, j ∉ zs := Classical.byContradiction fun c => by
          have := nodup_le thn fun x hx => Classical.byContradiction fun c2 => c ⟨x, hx, c2⟩
          omega
        obtain ⟨j, hj, hjz⟩ := this
        obtain ⟨_, L, hL⟩ := (thm j).mp hj
        exact ⟨j, L, by rw [hout j hjz]; exact hL⟩
      · have hm := hwm z
        have hsn : seen.length = n := by omega
        have his : i ∈ seen := Classical.byContradiction fun c => by
          have nds := (List.nodup_append.mp D.nd).1
          have := nodup_le (l := i :: seen) (m := List.range n) (List.nodup_cons.mpr ⟨c, nds⟩) fun x hx => by
            rcases List.mem_cons.mp hx with e | e
            · rw [e]; exact List.mem_range.mpr hi
            · exact List.mem_range.mpr (D.lt x (List.mem_append_left _ e))
          rw [List.length_cons, List.length_range] at this
          omega
        obtain ⟨L, hL⟩ := (D.has i).mp his
        exact ⟨L, by rw [hout i (by rw [hwz z]; simp)]; exact hL⟩
end
end Fp
namespace Fp
open PySem PySem.Spec PyProof.Rows L2
/-- a value, or a long tuple of values -/
def BV (H : Hp) (v : V) (d : Dt) : Prop := DV H v d ∨ ∃ (a : Addr) (xs : List V) (ds : List Dt), v = .ref a ∧ H a = some (.tup xs) ∧ DVs H xs ds ∧ ds.length ≤ 4000 ∧ d = .tup ds
theorem BV.ty {K : PySem.W.Frag} {H : Hp} {v : V} {d : Dt} (h : BV H v d) : ∃ t, TyX K H v t ∧ PySem.W.kitOne K t (.type "tuple") = some d.isTup := by
  rcases h with h | ⟨a, xs, ds, rfl, h, _, _, rfl⟩
  · obtain ⟨t, ty, _, _, k⟩ := h.ty (K := K)
    exact ⟨t, ty, k⟩
  · exact ⟨.type "tuple", .base (.tup h), by first | rfl | decide +kernel | kernel_rfl⟩
theorem BV.tup {H : Hp} {v : V} {ds : List Dt} (h : BV H v (.tup ds)) : ∃ (a : Addr) (xs : List V), v = .ref a ∧ H a = some (.tup xs) ∧ DVs H xs ds ∧ ds.length ≤ 4000 := by
  rcases h with h | ⟨a, xs, es, rfl, h, dv, hl, e⟩
  · cases h with
    | @tup a xs ds ha dv hl => exact ⟨a, xs, rfl, ha, dv, by omega⟩
  · cases e
    exact ⟨a, xs, rfl, h, dv, hl⟩
theorem BV.same {H H' : Hp} (g : Same H H') {v : V} {d : Dt} (h : BV H v d) : BV H' v d := by
  rcases h with h | ⟨a, xs, ds, rfl, h, dv, hl, rfl⟩
  · exact .inl (h.same g)
  · exact .inr ⟨a, xs, ds, rfl, g _ _ h, dv.same g, hl, rfl⟩
theorem BV.kd {H H' : Hp} (g : DKp H H') {v : V} {d : Dt} (h : BV H v d) : BV H' v d := by
  rcases h with h | ⟨a, xs, ds, rfl, h, dv, hl, rfl⟩
  · exact .inl (h.kd g)
  · exact .inr ⟨a, xs, ds, rfl, g.t h, dv.kd g, hl, rfl⟩
def belB (n : Int) (d : Dt) : Bool := d.isInt && decide (0 ≤ d.toInt ∧ d.toInt < n)
/-- what is a weaving of n hands -/
def weavB (n : Int) : Dt → Bool
  | .tup ds => decide (ds.length ≤ 3000) && ds.all (belB n)
  | _ => false
/-- its hands -/
def wvL : Dt → List Nat
  | .tup ds => ds.map fun d => d.toInt.toNat
  | _ => []
theorem belB_iff {n : Int} {d : Dt} : belB n d = true ↔ d.isInt = true ∧ 0 ≤ d.toInt ∧ d.toInt < n := by
  unfold belB
  rw [Bool.and_eq_true, decide_eq_true_iff]
theorem weavB_ok {n : Nat} {d : Dt} (h : weavB n d = true) : ∃ ds, d = .tup ds ∧ ds.length ≤ 3000 ∧ (∀ x ∈ ds, x.isInt = true ∧ 0 ≤ x.toInt ∧ x.toInt < n) := by
  cases d with
  | tup ds =>
    unfold weavB at h
    dsimp only at h
    rw [Bool.and_eq_true, decide_eq_true_eq, List.all_eq_true] at h
    exact ⟨ds, rfl, h.1, fun x hx => belB_iff.mp (h.2 x hx)⟩
  | _ => cases h
theorem BV.wv {H : Hp} {v : V} {d : Dt} {n : Nat} (h : BV H v d) (w : weavB n d = true) : ∃ a, v = .ref a ∧ H a = some (.tup (natV (wvL d))) ∧ (∀ p ∈ wvL d, p < n) ∧ (wvL d).length ≤ 3000 := by
  obtain ⟨ds, rfl, hl, hx⟩ := weavB_ok w
  obtain ⟨a, xs, rfl, ha, dv, _⟩ := h.tup
  have e := DVs.ints dv fun x hx' => (hx x hx').1
  have e2 : (ds.map Dt.toInt).map V.int = natV (wvL (.tup ds)) := by
    show _ = (ds.map fun d => d.toInt.toNat).map _
    rw [List.map_map, List.map_map]
    refine List.map_congr_left fun x hx' => ?_
    have := hx x hx'
    show V.int x.toInt = V.int ((x.toInt.toNat : Nat) : Int)
    congr 1
    omega
  rw [e, e2] at ha
  refine ⟨a, rfl, ha, fun p hp => ?_, ?_⟩
  · obtain ⟨x, hx', rfl⟩ := List.mem_map.mp (show p ∈ ds.map fun d => d.toInt.toNat from hp)
    have := hx x hx'
    omega
  · show (ds.map fun d => d.toInt.toNat).length ≤ 3000
    rw [List.length_map]; exact hl
def spBelD : Sp := fun vs H Q _ => ∃ (v : V) (d : Dt) (n : Int), vs = [v, .int n] ∧ DV H v d ∧ Q (.bl (belB n d)) H
def spWvgB : Sp := fun vs H Q _ => ∃ (v : V) (d : Dt) (n : Nat), vs = [v, .int n] ∧ BV H v d ∧ ∀ H', Same H H' → Q (.bl (weavB n d)) H'
def spWeavN : Sp := fun vs H Q _ => ∃ (a : Addr) (ws : List Nat) (n : Nat), vs = [.ref a, .int n] ∧ TT H a (natV ws) ∧ (∀ p ∈ ws, p < n) ∧ ws.length ≤ 3000 ∧ ∀ H', Same H H' → Q (.bl true) H'
def spWeaveN (K : PySem.W.Frag) (C : Addr) : Sp := fun vs H Q _ => ∃ (d a : Addr) (ws : List Nat) (s : LS), vs = [.ref d, .ref a] ∧ LvAt K C H d s ∧ s.WF ∧ TT H a (natV ws) ∧ (∀ p ∈ ws, p < s.n) ∧ ws.length ≤ 3000 ∧ s.run.length < 10000 ∧
  ∀ t ys ds H', But [d] H H' → LvAt K C H' d (s.woven ws) → H' t = some (.tup ys) → Paired (SD K H') ys ds → (s.woven ws).run = s.run ++ ds → Q (.ref t) H'
theorem TT.ty {K : PySem.W.Frag} {H : Hp} {a : Addr} {xs : List V} (h : TT H a xs) : TyX K H (.ref a) (.type "tuple") := by
  rcases h with h | ⟨o, h, _⟩
  · exact .base (.tup h)
  · exact .fTuple h
theorem natL (l : List Nat) : (natV l).length = l.length := by unfold natV; rw [List.length_map]
theorem natV_at {l : List Nat} {i p : Nat} (h : l[i]? = some p) : (natV l)[i]? = some (.int (p : Nat)) := by unfold natV; rw [List.getElem?_map, h]; rfl
def trues (n : Nat) : List V := (List.replicate n true).map V.bl
theorem trues_snoc (n : Nat) : trues (n + 1) = trues n ++ [.bl true] := by unfold trues; rw [List.replicate_succ', List.map_append]; rfl
theorem trues_len (n : Nat) : (trues n).length = n := by unfold trues; rw [List.length_map, List.length_replicate]
theorem trues_all (n : Nat) : (List.replicate n true).all id = true := by simp
/-- a row of Trues grows by one -/
theorem grow {H0 H : Hp} {D : Addr} {n : Nat} (g : Same H0 H) (hD0 : H0 D = none) (h : H D = some (.lst (trues n))) (hn : n < 100000) : ∃ acc, H D = some (.lst acc) ∧ acc.length < sizeLine ∧ (Same H0 (upd H D (.lst (acc ++ [.bl true]))) ∧ upd H D (.lst (acc ++ [.bl true])) D = some (.lst (trues (n + 1)))) :=
  ⟨_, h, szt (by rw [trues_len]; omega), fun o u q => by rw [upd_ne (ne_of_none q hD0)]; exact g _ _ q, by rw [upd_same, trues_snoc]⟩
theorem LS.wf_woven : ∀ {ws : List Nat} {s : LS}, s.WF → (∀ p ∈ ws, p < s.n) → (s.woven ws).WF
  | [], _, W, _ => W
  | p :: ws, s, W, h => LS.wf_woven (ws := ws) (s := s.step p) (W.step (h p List.mem_cons_self)) fun q hq => by rw [LS.n_step]; exact h q (List.mem_cons_of_mem _ hq)
theorem LvAt.put {K : PySem.W.Frag} {C : Addr} {H : Hp} {d D : Addr} {s : LS} {xs ys : List V} (h : LvAt K C H d s) (hD : H D = some (.lst xs)) : LvAt K C (upd H D (.lst ys)) d s := by
  refine h.off (S := [D]) ((But.refl _ H).put (by simp)) (TK.put hD fun z => z) fun x hx => ?_
  rw [List.mem_singleton.mp hx]
  refine ⟨fun z => ?_, fun z => by rw [z] at hD; cases hD⟩
  obtain ⟨dx, fs, e, _⟩ := h.ob
  rw [← z, hD] at e
  cases e
section
variable {P : Program} {w : World} {K : PySem.W.Frag} {mg : Str → Option Value} {base : Heap} {f : Addr} {fd : FuncData} {C : Addr}
abbrev s_is_below : Stmt := top 12
theorem sc_is_below : FnScope ["value", "many"] ["value", "many"] (defScope s_is_below) := ⟨rfl, rfl, rfl, by decide +kernel, rfl, by decide +kernel, by decide +kernel⟩
theorem ok_is_belowD (F : Fun K "is_below" "is_below" s_is_below f fd) (T : RTx mg) (G_is_whole : Fd P w K mg base CX0 "is_whole" 1 ["value"] spWhD) : FnOk P w K mg base CX0 2 f fd ["value", "many"] spBelD := by
  refine F.ok sc_is_below (fun vs H Q E h => ?_) (fun cdv A outer s H vs Q E hr h => ?_)
  · obtain ⟨v, d, n, rfl, _⟩ := h
    rfl
  obtain ⟨v, d, n, rfl, hd, q⟩ := h
  refine ⟨_, (pss_one (ps_ret (pe_and (pe_fd G_is_whole (hr.mono (by first | decide | omega)) rfl (pa_cons (pv 0) pa_nil)) (pe_one (pe_chain op_le op_lt pe_int (pv 0) (pv 1)))))), ?_⟩
  refine ⟨_, rfl, _, _, rfl, hd, _, rfl, ite2 (fun c => ?_) (fun c => ?_)⟩
  · cases hd with
    | int i =>
      refine ⟨_, rfl, _, _, rfl, rfl, _, rfl, ?_⟩
      refine ite2 (fun c => ?_) (fun c => ?_)
      · refine ⟨_, rfl, _, _, rfl, rfl, ?_⟩
        have c' : 0 ≤ i := of_decide_eq_true c
        have e : belB n (.int i) = decide (i < n) := by
          show (true && decide (0 ≤ i ∧ i < n)) = _
          simp [c']
        rw [e] at q
        exact q
      · have c' : ¬ 0 ≤ i := of_decide_eq_false (by simpa using c)
        have e : belB n (.int i) = false := by
          show (true && decide (0 ≤ i ∧ i < n)) = _
          rw [Bool.true_and]
          exact decide_eq_false (fun z => c' z.1)
        rw [e] at q
        exact q
    | _ => cases c
  · have e : belB n d = false := by cases d <;> first | rfl | exact absurd rfl c
    rw [e] at q
    exact q
theorem ok_is_below (F : Fun K "is_below" "is_below" s_is_below f fd) (T : RTx mg) (G_is_whole : Fd P w K mg base CX0 "is_whole" 1 ["value"] spWhD) : FnOk P w K mg base CX0 2 f fd ["value", "many"] spBelow :=
  (ok_is_belowD F T G_is_whole).imp fun vs H Q E h => by
    obtain ⟨i, n, rfl, q⟩ := h
    refine ⟨.int i, .int i, n, rfl, .int i, ?_⟩
    show Q (.bl (true && decide (0 ≤ i ∧ i < n))) H
    rw [Bool.true_and]; exact q
abbrev s_is_weaving : Stmt := top 13
theorem sc_is_weaving : FnScope ["value", "many", "thing"] ["value", "many"] (defScope s_is_weaving) := ⟨rfl, rfl, rfl, by decide +kernel, rfl, by decide +kernel, by decide +kernel⟩
theorem ok_is_weavingB (F : Fun K "is_weaving" "is_weaving" s_is_weaving f fd) (T : RTx mg) (G_is_below : Fd P w K mg base CX0 "is_below" 2 ["value", "many"] spBelD) : FnOk P w K mg base CX0 3 f fd ["value", "many"] spWvgB := by
  refine F.ok sc_is_weaving (fun vs H Q E h => ?_) (fun cdv A outer s H vs Q E hr h => ?_)
  · obtain ⟨v, d, n, rfl, _⟩ := h
    rfl
  obtain ⟨v, d, n, rfl, hd, k⟩ := h
  refine ⟨_, (pss_cons (ps_if (PW.pt (pw_or (pt_not (pt_val (pe_callB call_isi rfl T.isinstance (by decide +kernel) (pa_cons (pv 0) (pa_cons (pe_bltn (v := .ty "tuple") rfl T.tuple boot_tuple rfl) pa_nil))))) (pw_or1 (pt_cmpR op_gt (pe_callB call_len rfl T.len (by decide +kernel) (pa_cons (pv 0) pa_nil)) (pe_cI T.c_MOST_WEAVING) (nomark _))))) (pss_one (ps_ret pe_bl)) pss_nil)
  (pss_one (ps_ret (pe_callB (cr_all rfl) rfl T.all (by decide +kernel) (pa_cons (pe_lc (own := [("thing", 2)]) (g := (gName 2)) (tt := tYes) rfl sc_is_weaving.nd (pi_tup (pv 0)) (blkOk_by (own := [("thing", 2)]) (N := ["value", "many", "thing"]) (sc := defScope s_is_weaving) (by decide +kernel)) (fun _ _ _ _ _ => (pg_name (i := 2) sc_is_weaving.nd rfl (Or.inl rfl))) (fun _ _ _ _ _ => pts_nil) (fun _ _ _ _ _ => (pe_fd G_is_below (hr.mono (by first | decide | omega)) rfl (pa_cons (pv 2) (pa_cons (pv 1) pa_nil))))) pa_nil))))), ?_⟩
  obtain ⟨t, ty, kt⟩ := hd.ty (K := K)
  cases ed : d.isTup with
  | false =>
    rw [ed] at kt
    refine ⟨_, rfl, _, _, _, _, false, rfl, .ty "tuple", ty, kt, _, rfl, iteT ?_⟩
    refine iteT ?_
    have e : weavB n d = false := by cases d <;> first | rfl | cases ed
    rw [e] at k
    exact k _ (Same.refl _)
  | true =>
    rw [ed] at kt
    obtain ⟨ds, rfl⟩ : ∃ ds, d = .tup ds := by cases d <;> first | exact ⟨_, rfl⟩ | cases ed
    obtain ⟨a, xs, rfl, ha, dv, hl⟩ := hd.tup
    have hxl := dv.len
    refine ⟨_, rfl, _, _, _, _, true, rfl, .ty "tuple", ty, kt, _, rfl, iteF ?_⟩
    refine ⟨_, rfl, _, xs.length, rfl, (show LenV K (.ref a) H xs.length from .inr ⟨_, .of ha, rfl⟩), _, _, rfl, rfl, _, rfl, ite2 (fun c => ?_) (fun c => ?_)⟩
    · have c' : (3000 : Int) < (xs.length : Nat) := of_decide_eq_true c
      have e : weavB n (.tup ds) = false := by
        show (decide (ds.length ≤ 3000) && _) = false
        rw [decide_eq_false (by omega), Bool.false_and]
      rw [e] at k
      exact k _ (Same.refl _)
    have c' : ¬ (3000 : Int) < (xs.length : Nat) := fun z => c (decide_eq_true z)
    refine ⟨_, rfl, a, rfl, ⟨_, .of ha⟩, fun D hD => ?_⟩
    refine lc_bools walk_tup (fun i => belB n (ds.getD i .non)) hD (by omega) (fun H' g => .of (g _ _ ha)) (fun i x H1 H2 hi g y Q4 N kk => ?_) fun H1 g1 h1 => ?_
    · obtain ⟨rfl, hx⟩ := y
      obtain ⟨dx, hdx, vx⟩ := DVs.at_ dv hx
      have eg : ds.getD i .non = dx := by rw [List.getD_eq_getElem?_getD, hdx] <;> rfl
      rw [eg] at kk
      refine ⟨rfl, yes_in ?_⟩
      exact ⟨_, rfl, _, rfl, _, _, _, rfl, vx.same g, kk _ (Same.refl _)⟩
    refine ⟨D, _, rfl, .of h1, ?_⟩
    rw [all_id_map, hxl, all_getD]
    have e : weavB n (.tup ds) = ds.all (belB n) := by
      show (decide (ds.length ≤ 3000) && _) = _
      rw [decide_eq_true (by omega), Bool.true_and]
    rw [e] at k
    exact k _ g1
theorem ok_is_weaving (F : Fun K "is_weaving" "is_weaving" s_is_weaving f fd) (T : RTx mg) (G_is_below : Fd P w K mg base CX0 "is_below" 2 ["value", "many"] spBelow) : FnOk P w K mg base CX0 3 f fd ["value", "many"] spWeavN := by
  refine F.ok sc_is_weaving (fun vs H Q E h => ?_) (fun cdv A outer s H vs Q E hr h => ?_)
  · obtain ⟨a, ws, n, rfl, _⟩ := h
    rfl
  obtain ⟨a, ws, n, rfl, ha, hlt, hl, k⟩ := h
  refine ⟨_, (pss_cons (ps_if (PW.pt (pw_or (pt_not (pt_val (pe_callB call_isi rfl T.isinstance (by decide +kernel) (pa_cons (pv 0) (pa_cons (pe_bltn (v := .ty "tuple") rfl T.tuple boot_tuple rfl) pa_nil))))) (pw_or1 (pt_cmpR op_gt (pe_callB call_len rfl T.len (by decide +kernel) (pa_cons (pv 0) pa_nil)) (pe_cI T.c_MOST_WEAVING) (nomark _))))) (pss_one (ps_ret pe_bl)) pss_nil)
  (pss_one (ps_ret (pe_callB (cr_all rfl) rfl T.all (by decide +kernel) (pa_cons (pe_lc (own := [("thing", 2)]) (g := (gName 2)) (tt := tYes) rfl sc_is_weaving.nd (pi_tup (pv 0)) (blkOk_by (own := [("thing", 2)]) (N := ["value", "many", "thing"]) (sc := defScope s_is_weaving) (by decide +kernel)) (fun _ _ _ _ _ => (pg_name (i := 2) sc_is_weaving.nd rfl (Or.inl rfl))) (fun _ _ _ _ _ => pts_nil) (fun _ _ _ _ _ => (pe_fd G_is_below (hr.mono (by first | decide | omega)) rfl (pa_cons (pv 2) (pa_cons (pv 1) pa_nil))))) pa_nil))))), ?_⟩
  refine ⟨_, rfl, _, _, _, _, true, rfl, .ty "tuple", ha.ty, by first | rfl | decide +kernel | kernel_rfl, _, rfl, iteF ?_⟩
  refine ⟨_, rfl, _, ws.length, rfl, (show LenV K (.ref a) H ws.length from .inr ⟨_, ha.sq, (natL ws).symm⟩), _, _, rfl, rfl, _, rfl, ite_no (decide_eq_false (by omega)) ?_⟩
  refine ⟨_, rfl, a, rfl, ⟨_, ha.sq⟩, fun D hD => ?_⟩
  refine lc_tup (K := K) (a := a) (xs := natV ws) (fun i H' => Same H H' ∧ H' D = some (.lst (trues i))) ⟨same_new hD _, upd_same⟩ (fun i H' _ z => ha.sq.ext z.1) ?_ ?_
  · rintro i x H' hx ⟨g, h⟩
    obtain ⟨p, hp, rfl⟩ := natV_get hx
    have hi := get_lt hp
    have e : decide ((0 : Int) ≤ (p : Int) ∧ (p : Int) < (n : Int)) = true := decide_eq_true (by have := hlt p (List.mem_of_getElem? hp); omega)
    refine ⟨rfl, _, rfl, _, rfl, (p : Int), (n : Int), rfl, ?_⟩
    rw [e]
    exact grow g hD h (by omega)
  rintro H1 ⟨g1, h1⟩
  rw [natL] at h1
  refine ⟨D, _, rfl, .of h1, ?_⟩
  rw [trues_all]
  exact k _ g1
theorem ok_exchangedV (F : Fun K "exchanged" "exchanged" s_exchanged f fd) : FnOk P w K mg base CX0 1 f fd ["row", "at", "thing"] (spExch K) := by
  refine F.ok sc_exchanged (fun vs H Q E h => ?_) (fun cdv A outer s H vs Q E hr h => ?_)
  · obtain ⟨a, xs, p, v, rfl, _⟩ := h
    rfl
  obtain ⟨a, xs, p, v, rfl, ha, hp, hx, k⟩ := h
  refine ⟨_, (pss_one (ps_ret (pe_op op_catF (pe_mid (pe_op op_catF (pe_slice sl_tupA (pv 0) po_none (po_some (pv 1))) (pe_tupF (pa_cons (pv 2) pa_nil)))) (pe_slice sl_tupA (pv 0) (po_some (pe_op op_add (pv 1) pe_int)) po_none)))), ?_⟩
  have hs1 : HT.sIx xs.length xs.length (some (p : Int)) = p := by rw [HT.sIx_nat]; omega
  have hs0 : HT.sIx xs.length 0 none = 0 := rfl
  have hs2 : HT.sIx xs.length 0 (some ((p : Int) + 1)) = p + 1 := by rw [show (p : Int) + 1 = ((p + 1 : Nat) : Int) by omega, HT.sIx_nat]; omega
  have hs3 : HT.sIx xs.length xs.length none = xs.length := rfl
  have hz := sizeLine_eq
  have c1 : cutV xs none (some (p : Int)) = xs.take p := by unfold cutV; rw [hs0, hs1]; simp
  have c2 : cutV xs (some ((p : Int) + 1)) none = xs.drop (p + 1) := by unfold cutV; rw [hs2, hs3, List.take_of_length_le (by simp)]
  have es : xs.set p v = (xs.take p ++ [v]) ++ xs.drop (p + 1) := by rw [List.set_eq_take_append_cons_drop, if_pos hp]; simp
  refine ⟨fun y H' => ∃ q, y = .ref q ∧ Same H H' ∧ TF H' q (xs.take p ++ [v]), ?_, ?_⟩
  · refine ⟨_, rfl, _, rfl, _, rfl, a, xs, rfl, ha, fun z => ?_, fun _ q1 n1 => ?_⟩
    · rw [hs1] at z; omega
    rw [c1]
    have g1 := same_new n1 (.tup (xs.take p))
    refine ⟨_, rfl, (by show 1 ≤ sizeLine; omega), fun q2 o2 n2 d2 => ?_⟩
    have g2 := same_new n2 (.frz o2 (.tup [v]))
    refine ⟨q1, q2, _, _, rfl, rfl, .of (g2 _ _ upd_same), TF.sq ⟨o2, upd_same, d2⟩, ?_, ?_, ?_, ?_⟩
    · simp; omega
    · intro z
      exact ⟨q2, rfl, g1.trans g2, o2, by rw [upd_same, z]; rfl, d2⟩
    · intro _ z; cases z
    · intro z _ q3 o3 n3 d3
      exact ⟨q3, rfl, (g1.trans g2).trans (same_new n3 _), o3, upd_same, d3⟩
  · rintro y H1 ⟨q, rfl, g, hq⟩
    refine ⟨_, rfl, _, rfl, _, _, rfl, rfl, _, rfl, a, xs, rfl, ha.ext g, fun z => ?_, fun _ q1 n1 => ?_⟩
    · rw [hs2] at z; omega
    rw [c2]
    have g1 := same_new n1 (.tup (xs.drop (p + 1)))
    refine ⟨q, q1, _, _, rfl, rfl, ((TK.of g1).f hq).sq, .of upd_same, ?_, ?_, ?_, ?_⟩
    · simp; omega
    · intro z; simp at z
    · intro _ z
      rw [z, List.append_nil] at es
      exact k q _ (g.trans g1) (by rw [es]; exact (TK.of g1).f hq)
    · intro _ _ q3 o3 n3 d3
      exact k q3 _ ((g.trans g1).trans (same_new n3 _)) ⟨o3, by rw [upd_same, es], d3⟩
abbrev s_Levels_init : Stmt := inClass (top 20) 0
theorem sc_Levels_init : FnScope ["self", "many"] ["self", "many"] (defScope s_Levels_init) := ⟨rfl, rfl, rfl, by decide +kernel, rfl, by decide +kernel, by decide +kernel⟩
theorem ok_Levels_init (F : Fun K "__init__" "Levels.__init__" s_Levels_init f fd) (hC : LC K C) (G_check_many : Fd P w K mg base CX0 "check_many" 2 ["many"] spChkMany) : FnOk P w K mg base CX0 3 f fd ["self", "many"] (spLInit K C) := by
  refine F.ok sc_Levels_init (fun vs H Q E h => ?_) (fun cdv A outer s H vs Q E hr h => ?_)
  · obtain ⟨d, dx, n, rfl, _⟩ := h
    rfl
  obtain ⟨d, dx, n, rfl, h1, h5, hd, hx, k⟩ := h
  refine ⟨_, (pss_cons (ps_expr (pe_fd G_check_many (hr.mono (by first | decide | omega)) rfl (pa_cons (pv 1) pa_nil)))
  (pss_cons (ps_fld (pv 0) (pv 1) rfl)
  (pss_cons (ps_fld (pv 0) (pe_op op_repF (pe_tupF (pa_cons pe_non pa_nil)) (pv 1)) rfl)
  (pss_cons (ps_fld (pv 0) (pe_op op_repF (pe_tupF (pa_cons pe_non pa_nil)) (pv 1)) rfl)
  (pss_cons (ps_fld (pv 0) (pe_tup pa_nil) rfl)
  (pss_one (ps_fld (pv 0) (pe_op op_repF (pe_tupF (pa_cons pe_bl pa_nil)) (pv 1)) rfl))))))), ?_⟩
  refine ⟨_, rfl, n, rfl, h1, h5, ?_⟩
  have rep : ∀ (v : V) (H1 : Hp) (σ : L2.St) (Q1 : V → Hp → Prop), σ[1]? = some (some (.int n)) → (∀ q H', Same H1 H' → TF H' q (List.replicate n v) → Q1 (.ref q) H') → tOp (rRepF K) (tTupF (tCons (tC v) tNil)) (tVar 1) σ H1 Q1 := by
    intro v H1 σ Q1 hσ hq
    refine ⟨szl (by show 1 ≤ _; decide), fun t o nt dt => ⟨_, hσ, t, n, [v], rfl, rfl, TF.sq ⟨o, upd_same, dt⟩, by simp, by omega, by omega, by show 1 ≤ 1000; decide, fun z => ?_, fun z p o2 np d2 => ?_⟩⟩
    · have : n = 1 := by omega
      subst this
      exact hq t _ (same_new nt _) ⟨o, upd_same, dt⟩
    · refine hq p _ ((same_new nt _).trans (same_new np _)) ⟨o2, ?_, d2⟩
      rw [upd_same]
      simp
  refine ⟨_, rfl, _, rfl, d, C, dx, [], rfl, hd, hC.cl, hC.nM, by decide, ?_⟩
  have b1 : But [d] H (upd H d (.ins C dx (putF "many" (.int n) []))) := (But.refl _ H).put (by simp)
  have x1 : upd H d (.ins C dx (putF "many" (.int n) [])) dx = some (.own d) := by
    rw [upd_ne (fun z => by rw [z, hd] at hx; cases hx)]; exact hx
  refine rep _ _ _ _ rfl fun a H2 g2 h2 => ?_
  refine ⟨_, rfl, d, C, dx, _, rfl, g2 _ _ upd_same, hC.cl, hC.nL, by show 1 < 1000; decide, ?_⟩
  have nx : dx ≠ d := fun z => by rw [z, hd] at hx; cases hx
  have b2 := (b1.trans (.of g2)).put (p := d) (o := .ins C dx (putF "levels" (.ref a) (putF "many" (.int n) []))) (by simp)
  have ad : a ≠ d := fun z => by obtain ⟨o, z2, _⟩ := h2; have q := g2 _ _ upd_same; rw [← z, z2] at q; cases q
  refine rep _ _ _ _ rfl fun b H3 g3 h3 => ?_
  refine ⟨_, rfl, d, C, dx, _, rfl, g3 _ _ upd_same, hC.cl, hC.nV, by show 2 < 1000; decide, ?_⟩
  have b3 := (b2.trans (.of g3)).put (p := d) (o := .ins C dx (putF "views" (.ref b) (putF "levels" (.ref a) (putF "many" (.int n) [])))) (by simp)
  have bd : b ≠ d := fun z => by obtain ⟨o, z2, _⟩ := h3; have q := g3 _ _ upd_same; rw [← z, z2] at q; cases q
  refine ⟨szl (by decide), fun c nc => ?_⟩
  have cd : c ≠ d := fun z => by rw [z, upd_same] at nc; cases nc
  refine ⟨_, rfl, d, C, dx, _, rfl, by rw [upd_ne (Ne.symm cd)]; exact upd_same, hC.cl, hC.nR, by show 3 < 1000; decide, ?_⟩
  have b4 := (b3.new (o := .tup []) nc).put (p := d) (o := .ins C dx (putF "run" (.ref c) (putF "views" (.ref b) (putF "levels" (.ref a) (putF "many" (.int n) []))))) (by simp)
  refine rep _ _ _ _ rfl fun e H5 g5 h5' => ?_
  refine ⟨_, rfl, d, C, dx, _, rfl, g5 _ _ upd_same, hC.cl, hC.nK, by show 4 < 1000; decide, ?_⟩
  have ed : e ≠ d := fun z => by obtain ⟨o, z2, _⟩ := h5'; have q := g5 _ _ upd_same; rw [← z, z2] at q; cases q
  have b5 := (b4.trans (.of g5)).put (p := d) (o := .ins C dx (putF "looking" (.ref e) (putF "run" (.ref c) (putF "views" (.ref b) (putF "levels" (.ref a) (putF "many" (.int n) [])))))) (by simp)
  rw [l_all] at b5 ⊢
  have kp5 : ∀ {q : Addr} {o u : HO}, q ≠ d → H5 q = some o → upd H5 d u q = some o := fun {q o u} ne h => by rw [upd_ne ne]; exact h
  have k4 : ∀ {q : Addr} {o u : HO}, q ≠ d → H3 q = some o → upd (upd (upd H3 d u) c (.tup [])) d (.ins C dx (putF "run" (.ref c) (putF "views" (.ref b) (putF "levels" (.ref a) (putF "many" (.int n) []))))) q = some o := fun {q o u} ne h => by
    have qc : q ≠ c := fun z => by rw [← z, upd_ne ne] at nc; rw [h] at nc; cases nc
    rw [upd_ne ne, upd_ne qc, upd_ne ne]; exact h
  have k3 : ∀ {q : Addr} {o : HO}, q ≠ d → H2 q = some o → H3 q = some o := fun {q o} ne h => g3 _ _ (by rw [upd_ne ne]; exact h)
  have k35 : ∀ {q : Addr} {o : HO}, q ≠ d → H3 q = some o → H5 q = some o := fun {q o} ne h => g5 _ _ (k4 ne h)
  have tf : ∀ {q : Addr} {xs : List V} {Ha Hb : Hp}, TF Ha q xs → (∀ {o}, Ha q = some o → Hb q = some o) → TF Hb q xs := fun ⟨o, h, z⟩ f => ⟨o, f h, z⟩
  have rp : ∀ {β : Type} {F : V → Option β → Prop}, F .non none → Paired F (List.replicate n .non) (List.replicate n (none : Option β)) := fun h => pr_rep h n
  have hn : (LS.new n).n = n := by simp [LS.new, LS.n]
  refine k _ b5 ⟨dx, a, b, c, e, List.replicate n .non, [], ?_⟩
  refine ⟨by rw [upd_same, hn], ?_, ?_, tf h3 fun h => kp5 bd (k35 bd h), rp rfl, ?_, .nil, ?_⟩
  · exact kp5 nx (k35 nx (k3 nx (g2 _ _ x1)))
  · show TF _ a ((List.replicate n (none : Lv)).map lvV); rw [List.map_replicate]; exact tf h2 fun h => kp5 ad (k35 ad (k3 ad h))
  · exact kp5 cd (g5 _ _ (by rw [upd_ne cd]; exact upd_same))
  · show TF _ e ((List.replicate n false).map V.bl); rw [List.map_replicate]; exact tf h5' fun h => kp5 ed h
abbrev s_Levels_next : Stmt := inClass (top 20) 4
theorem sc_Levels_next : FnScope ["self", "hand", "level"] ["self", "hand"] (defScope s_Levels_next) := ⟨rfl, rfl, rfl, by decide +kernel, rfl, by decide +kernel, by decide +kernel⟩
theorem ok_Levels_next (F : Fun K "next" "Levels.next" s_Levels_next f fd) (hC : LC K C) (G_is_below : Fd P w K mg base CX0 "is_below" 2 ["value", "many"] spBelow) : FnOk P w K mg base CX0 3 f fd ["self", "hand"] (spLNext K C) := by
  refine F.ok sc_Levels_next (fun vs H Q E h => ?_) (fun cdv A outer s H vs Q E hr h => ?_)
  · obtain ⟨d, p, s, rfl, _⟩ := h
    rfl
  obtain ⟨d, p, s, rfl, hD, W, hp, k⟩ := h
  refine ⟨_, (pss_cons (ps_if (pt_not (pt_val (pe_fd G_is_below (hr.mono (by first | decide | omega)) rfl (pa_cons (pv 1) (pa_cons (pe_fld (pv 0) rfl) pa_nil))))) (pss_one (ps_no)) pss_nil)
  (pss_cons (ps_if (pt_cmpR op_notN (pe_ix ix_tup (pe_fld (pv 0) rfl) (pv 1) (fun _ _ => rfl)) pe_non (nomark _)) (pss_one (ps_ret pe_non)) pss_nil)
  (pss_cons (ps_if (pt_val (pe_ix ix_tup (pe_fld (pv 0) rfl) (pv 1) (fun _ _ => rfl))) (pss_one (ps_ret (pe_tup (pa_cons pe_str pa_nil)))) pss_nil)
  (pss_cons (ps_set (i := 2) sc_Levels_next.nd rfl (Or.inl rfl) (pe_ix ix_tup (pe_fld (pv 0) rfl) (pv 1) (fun _ _ => rfl)))
  (pss_one (ps_ret (pe_tup (pa_cons pe_str (pa_cons (pe_ifExp (pt_cmpR op_isN (pv 2) pe_non (nomark _)) (pe_fld (pv 0) rfl) (pe_op op_sub (pv 2) pe_int)) pa_nil))))))))), ?_⟩
  obtain ⟨dx, a, b, r, e, vv, rv, D⟩ := hD
  have ap : (0 : Int) ≤ (p : Int) ∧ (p : Int) < (s.n : Nat) := by omega
  refine ⟨_, rfl, _, rfl, d, C, dx, _, _, rfl, D.obj, hC.cl, hC.nM, l_many, _, _, rfl, _, rfl, ite_no (by rw [decide_eq_true ap]; rfl) ?_⟩
  obtain ⟨xv, hxv, ov⟩ := pr_at D.vwP (show s.vw[p]? = some (s.vi p) from getD_at (by rw [W.lw]; exact hp))
  refine ⟨_, rfl, d, C, dx, _, _, rfl, D.obj, hC.cl, hC.nV, l_vw, _, rfl, b, vv, _, _, rfl, rfl, D.vw.sq, atI_nat hxv, rfl, _, rfl, ?_⟩
  rw [ov.is]
  unfold LS.next at k
  cases hv : s.vi p with
  | some v => rw [hv] at k; exact iteT (k _ _ (.refl _) rfl)
  | none =>
    rw [hv] at k
    refine iteF ?_
    have hlk : (s.lk.map V.bl)[p]? = some (.bl (s.lo p)) := by
      have hl : p < s.lk.length := by rw [W.ll]; exact hp
      rw [List.getElem?_map, List.getElem?_eq_getElem hl]
      unfold LS.lo
      rw [List.getD_eq_getElem?_getD, List.getElem?_eq_getElem hl]; rfl
    refine ⟨_, rfl, d, C, dx, _, _, rfl, D.obj, hC.cl, hC.nK, l_lk, _, rfl, e, _, _, _, rfl, rfl, D.lk.sq, atI_nat hlk, _, rfl, ?_⟩
    cases hk : s.lo p with
    | true =>
      rw [hk] at k
      refine iteT ⟨szl (by show 1 ≤ _; decide), fun t nt => ?_⟩
      exact k _ _ (same_new nt _) ⟨t, rfl, upd_same⟩
    | false =>
      rw [hk] at k
      refine iteF ?_
      refine ⟨_, rfl, d, C, dx, _, _, rfl, D.obj, hC.cl, hC.nL, l_lev, _, rfl, a, _, _, _, rfl, rfl, D.lev.sq, atI_nat (show (s.lev.map lvV)[p]? = some (lvV (s.lv p)) by rw [List.getElem?_map, show s.lev[p]? = some (s.lv p) from getD_at hp]; rfl), ?_⟩
      refine ⟨_, rfl, rfl, _, rfl, ?_⟩
      cases hl : s.lv p with
      | none =>
        rw [hl] at k
        refine iteT ⟨_, rfl, d, C, dx, _, _, rfl, D.obj, hC.cl, hC.nM, l_many, szl (by show 2 ≤ _; decide), fun t nt => ?_⟩
        exact k _ _ (same_new nt _) ⟨t, rfl, upd_same⟩
      | some x =>
        rw [hl] at k
        refine iteF ⟨_, rfl, _, _, rfl, rfl, szl (by show 2 ≤ _; decide), fun t nt => ?_⟩
        exact k _ _ (same_new nt _) ⟨t, rfl, upd_same⟩
abbrev s_Levels_view_from : Stmt := inClass (top 20) 7
theorem sc_Levels_view_from : FnScope ["self", "hand", "own", "seen", "at", "level"] ["self", "hand"] (defScope s_Levels_view_from) := ⟨rfl, rfl, rfl, by decide +kernel, rfl, by decide +kernel, by decide +kernel⟩
theorem ok_Levels_view_from (F : Fun K "view_from" "Levels.view_from" s_Levels_view_from f fd) (T : RTx mg) (hC : LC K C) : FnOk P w K mg base CX0 1 f fd ["self", "hand"] (spLView K C) := by
  refine F.ok sc_Levels_view_from (fun vs H Q E h => ?_) (fun cdv A outer s H vs Q E hr h => ?_)
  · obtain ⟨d, p, s, rfl, _⟩ := h
    rfl
  obtain ⟨d, p, s, rfl, hD, W, hp, hlv, k⟩ := h
  refine ⟨_, (pss_cons (ps_set (i := 2) sc_Levels_view_from.nd rfl (Or.inr rfl) (pe_ix ix_tup (pe_fld (pv 0) rfl) (pv 1) (fun _ _ => rfl)))
  (pss_cons (ps_set (i := 3) sc_Levels_view_from.nd rfl (Or.inl rfl) (pe_callTy call_tuple_of rfl T.tuple (by decide +kernel) (pa_cons (pe_lc (own := [("at", 4), ("level", 5)]) (g := (gTup K 2 (gCons (gName 4) (gCons (gName 5) gNil))))  rfl sc_Levels_view_from.nd (pi_enumT rfl T.enumerate (pa_cons (pe_fld (pv 0) rfl) pa_nil)) (blkOk_by (own := [("at", 4), ("level", 5)]) (N := ["self", "hand", "own", "seen", "at", "level"]) (sc := defScope s_Levels_view_from) (by decide +kernel)) (fun _ _ _ _ _ => (pg_tup rfl (pgs_cons (pg_name (i := 4) sc_Levels_view_from.nd rfl (Or.inl rfl)) (pgs_cons (pg_name (i := 5) sc_Levels_view_from.nd rfl (Or.inl rfl)) pgs_nil)))) (fun _ _ _ _ _ => (pts_one (PW.pt (pw_and (pt_cmpR op_notN (pv 5) pe_non (nomark _)) (pw_and1 (pt_cmpR op_le (pv 5) (pv 2) (nomark _))))))) (fun _ _ _ _ _ => (pv 4))) pa_nil)))
  (pss_one (ps_ret (pe_ifExp (pt_cmpR op_ge (pe_callB call_len rfl T.len (by decide +kernel) (pa_cons (pv 3) pa_nil)) (pv 2) (nomark _)) (pv 3) pe_non))))), ?_⟩
  obtain ⟨dx, a, b, r, e, vv, rv, D⟩ := hD
  have n5 := W.n5
  obtain ⟨x, hx⟩ : ∃ x, s.lv p = some x := by
    cases q : s.lv p with
    | none => exact absurd q hlv
    | some x => exact ⟨x, rfl⟩
  have ho : s.own p = x := by unfold LS.own; rw [hx]; rfl
  refine ⟨_, rfl, d, C, dx, _, _, rfl, D.obj, hC.cl, hC.nL, l_lev, _, rfl, a, _, _, _, rfl, rfl, D.lev.sq, atI_nat (show (s.lev.map lvV)[p]? = some (.int x) by rw [List.getElem?_map, show s.lev[p]? = some (s.lv p) from getD_at hp, hx]; rfl), ?_⟩
  refine ⟨_, rfl, d, C, dx, _, _, rfl, D.obj, hC.cl, hC.nL, l_lev, a, _, rfl, D.lev.sq, fun D0 hD0 => ?_⟩
  have hll : (s.lev.map lvV).length = s.n := by rw [List.length_map]; rfl
  refine lc_it (walk_enumT (xs := s.lev.map lvV)) (fun i H' => Same H H' ∧ H' D0 = some (.lst (natV ((List.range i).filter fun q => LS.le (s.lv q) x)))) ⟨same_new hD0 _, upd_same⟩ (fun i H' _ z => D.lev.sq.ext z.1) ?_ ?_
  · rintro i y0 H1 H2 hi ⟨g1, h1⟩ ⟨T', y, rfl, hT, rfl, hy⟩
    have hi' : i < s.n := by rw [← hll]; exact hi
    have ey : y = lvV (s.lv i) := by
      rw [List.getElem?_map, show s.lev[i]? = some (s.lv i) from getD_at hi'] at hy
      exact (Option.some.inj hy).symm
    subst ey
    have g2 := same_new hT (.tup [.int (0 + (i : Nat)), lvV (s.lv i)])
    refine ⟨T', _, rfl, .of upd_same, rfl, _, _, rfl, _, _, rfl, rfl, rfl, ?_⟩
    have es : List.range (i + 1) = List.range i ++ [i] := List.range_succ
    have no : LS.le (s.lv i) x = false → Same H (upd H1 T' (.tup [.int (0 + (i : Nat)), lvV (s.lv i)])) ∧ upd H1 T' (.tup [.int (0 + (i : Nat)), lvV (s.lv i)]) D0 = some (.lst (natV ((List.range (i + 1)).filter fun q => LS.le (s.lv q) x))) := fun z => by
      refine ⟨g1.trans g2, ?_⟩
      rw [es, List.filter_append]
      simp only [List.filter_cons, z, List.filter_nil, List.append_nil, Bool.false_eq_true, if_false]
      exact g2 _ _ h1
    refine ⟨_, rfl, rfl, _, rfl, ?_⟩
    cases hli : s.lv i with
    | none =>
      refine ite_no rfl ?_
      have := no (by rw [hli]; rfl)
      rw [hli] at this; exact this
    | some z =>
      refine ite_yes rfl ⟨_, rfl, _, rfl, _, _, rfl, rfl, _, rfl, ?_⟩
      rw [hli] at no g2
      refine ite2 (fun w => ?_) (fun w => ?_)
      · refine ⟨_, rfl, _, g2 _ _ h1, szt ?_, fun o q hq => ?_, ?_⟩
        · unfold natV
          rw [List.length_map]
          have := List.length_filter_le (fun q => LS.le (s.lv q) x) (List.range i)
          rw [List.length_range] at this
          omega
        · rw [upd_ne (ne_of_none hq hD0)]; exact g2 _ _ (g1 _ _ hq)
        · rw [upd_same, es, List.filter_append]
          have wl : LS.le (s.lv i) x = true := by rw [hli]; exact w
          simp only [List.filter_cons, wl, if_true, List.filter_nil]
          unfold natV
          rw [List.map_append, Int.zero_add]
          rfl
      · have wl : LS.le (some z) x = false := by
          show decide (z ≤ x) = false
          simpa using w
        exact no wl
  rintro H1 ⟨g1, h1⟩
  rw [hll] at h1
  have h1 : H1 D0 = some (.lst (natV (s.below x))) := h1
  refine ⟨D0, _, rfl, .inl ⟨.of h1, fun t nt => ?_⟩⟩
  have gt := same_new nt (.tup (natV (s.below x)))
  have ht : upd H1 t (.tup (natV (s.below x))) t = some (.tup (natV (s.below x))) := upd_same
  have hbl : (natV (s.below x)).length = (s.below x).length := by unfold natV; rw [List.length_map]
  refine ⟨_, rfl, _, (natV (s.below x)).length, rfl, .inr ⟨_, .of ht, rfl⟩, _, rfl, _, _, rfl, rfl, _, rfl, ?_⟩
  unfold LS.seen at k
  rw [ho] at k
  refine ite2 (fun z => ?_) (fun z => ?_)
  · have z' := of_decide_eq_true z
    rw [if_pos (by omega)] at k
    exact ⟨_, rfl, k _ _ (g1.trans gt) ⟨t, rfl, .inl ht⟩⟩
  · have z' : ¬ ((x : Int) ≤ (s.below x).length) := fun y => z (decide_eq_true (by omega))
    rw [if_neg z'] at k
    exact k _ _ (g1.trans gt) rfl
abbrev s_Levels_step : Stmt := inClass (top 20) 5
theorem sc_Levels_step : FnScope ["self", "hand", "due", "step"] ["self", "hand"] (defScope s_Levels_step) := ⟨rfl, rfl, rfl, by decide +kernel, rfl, by decide +kernel, by decide +kernel⟩
theorem ok_Levels_step (F : Fun K "step" "Levels.step" s_Levels_step f fd) (hC : LC K C) (G_exchanged : Fd P w K mg base CX0 "exchanged" 1 ["row", "at", "thing"] (spExch K)) (M_next : Md P w K mg base CX0 C "next" 3 ["self", "hand"] (spLNext K C)) (M_view_from : Md P w K mg base CX0 C "view_from" 1 ["self", "hand"] (spLView K C)) : FnOk P w K mg base CX0 4 f fd ["self", "hand"] (spLStep K C) := by
  refine F.ok sc_Levels_step (fun vs H Q E h => ?_) (fun cdv A outer s H vs Q E hr h => ?_)
  · obtain ⟨d, p, s, rfl, _⟩ := h
    rfl
  obtain ⟨d, p, s, rfl, hD, W, hp, hnx, hrl, k⟩ := h
  refine ⟨_, (pss_cons (ps_set (i := 2) sc_Levels_step.nd rfl (Or.inl rfl) (pe_md (pv 0) hC.cl M_next (hr.mono (by first | decide | omega)) (pa_cons (pv 1) pa_nil)))
  (pss_cons (ps_if (pt_cmpR op_isN (pv 2) pe_non (nomark _)) (pss_one (ps_no)) pss_nil)
  (C8.pss_cut (ps_if (pt_cmpR op_eq (pe_ix ix_tup (pv 2) pe_int (fun _ _ => rfl)) pe_str (nomark _)) (pss_cons (ps_set (i := 3) sc_Levels_step.nd rfl (Or.inl rfl) (pe_tup (pa_cons (pv 1) (pa_cons pe_str (pa_cons (pe_ix ix_tup (pv 2) pe_int (fun _ _ => rfl)) pa_nil)))))
  (pss_one (ps_fld (pv 0) (pe_fd G_exchanged (hr.mono (by first | decide | omega)) rfl (pa_cons (pe_fld (pv 0) rfl) (pa_cons (pv 1) (pa_cons (pe_ix ix_tup (pv 2) pe_int (fun _ _ => rfl)) pa_nil)))) rfl))) (pss_cons (ps_set (i := 3) sc_Levels_step.nd rfl (Or.inl rfl) (pe_tup (pa_cons (pv 1) (pa_cons pe_str (pa_cons (pe_fld (pv 0) rfl) pa_nil)))))
  (pss_one (ps_fld (pv 0) (pe_fd G_exchanged (hr.mono (by first | decide | omega)) rfl (pa_cons (pe_fld (pv 0) rfl) (pa_cons (pv 1) (pa_cons (pe_md (pv 0) hC.cl M_view_from (hr.mono (by first | decide | omega)) (pa_cons (pv 1) pa_nil)) pa_nil)))) rfl))))
  (pss_cons (ps_fld (pv 0) (pe_fd G_exchanged (hr.mono (by first | decide | omega)) rfl (pa_cons (pe_fld (pv 0) rfl) (pa_cons (pv 1) (pa_cons (pe_cmpR op_eq (pe_ix ix_tup (pv 2) pe_int (fun _ _ => rfl)) pe_str (nomark _)) pa_nil)))) rfl)
  (pss_cons (ps_fld (pv 0) (pe_mid (pe_op op_catA (pe_fld (pv 0) rfl) (pe_tup (pa_cons (pv 3) pa_nil)))) rfl)
  (pss_one (ps_ret (pv 3)))))))), ?_⟩
  have hD0 := hD
  obtain ⟨dx, a, b, r, e, vv, rv, D⟩ := hD0
  have n5 := W.n5
  have ndx : dx ≠ d := fun z => by have := D.obj; rw [← z, D.own] at this; cases this
  refine ⟨_, rfl, d, dx, _, rfl, D.obj, ln_next, _, rfl, d, p, s, rfl, hD, W, hp, fun y H1 g1 hy => ?_⟩
  have D1 := D.same g1
  have hvl : s.vi p = none := Classical.byContradiction fun z => hnx (LS.next_none.mpr z)
  obtain ⟨du, hdu⟩ : ∃ du, s.next p = some du := by
    cases q : s.next p with
    | none => exact absurd q hnx
    | some du => exact ⟨du, rfl⟩
  rw [hdu] at hy
  obtain ⟨ty, rfl, kind, hty, hkind⟩ : ∃ ty, y = .ref ty ∧ ∃ kind : List V, H1 ty = some (.tup kind) ∧ (kind = [.str "look"] ∧ du = .look ∨ ∃ l, kind = [.str "write", .int l] ∧ du = .wr l) := by
    cases du with
    | wr l => obtain ⟨t, e, h⟩ := hy; exact ⟨t, e, _, h, .inr ⟨l, rfl, rfl⟩⟩
    | look => obtain ⟨t, e, h⟩ := hy; exact ⟨t, e, _, h, .inl ⟨rfl, rfl⟩⟩
  refine ⟨_, rfl, rfl, _, rfl, iteF ?_⟩
  -- behind the two ways: levels and views are told, the step stands at st
  refine ⟨fun σ H' => ∃ (st a' b' : Addr) (vv' : List V) (dd : PyData) (lev' : List Lv) (vw' : List (Option (List Nat))), σ = [some (.ref d), some (.int p), some (.ref ty), some (.ref st)] ∧ But [d] H H' ∧ TK H1 H' ∧ H' d = some (.ins C dx (lfl (s.n : Nat) a' b' r e)) ∧ H' dx = some (.own d) ∧ TF H' a' (lev'.map lvV) ∧ TF H' b' vv' ∧ Paired (ViewAt H') vv' vw' ∧ SD K H' (.ref st) dd ∧ lev'.length = s.n ∧ s.step p = ⟨lev', vw', s.lk.set p (decide (kind ≠ [.str "look"])), s.run ++ [dd]⟩, ?_, ?_⟩
  · rcases hkind with ⟨rfl, rfl⟩ | ⟨l, rfl, rfl⟩
    · refine ⟨_, rfl, ty, _, _, _, rfl, rfl, .of hty, atI_nat (j := 0) rfl, rfl, _, rfl, iteF ?_⟩
      refine ⟨_, rfl, _, rfl, d, C, dx, _, _, rfl, D1.obj, hC.cl, hC.nL, l_lev, szl (by show 3 ≤ _; decide), fun st nst => ?_⟩
      have g2 := same_new nst (.tup [.int (p : Nat), .str "look", .ref a])
      have hlo : s.lo p = true := by
        unfold LS.next at hdu
        rw [hvl] at hdu
        cases q : s.lo p with
        | true => rfl
        | false => rw [q] at hdu; cases hdu
      have D2 := D1.same g2
      refine ⟨_, rfl, d, C, dx, _, _, rfl, D2.obj, hC.cl, hC.nV, l_vw, _, rfl, _, rfl, d, dx, _, rfl, D2.obj, ln_view, _, rfl, d, p, s, rfl, ⟨dx, a, b, r, e, vv, rv, D2⟩, W, hp, W.lkl p hlo, fun y3 H3 g3 hy3 => ?_⟩
      have D3 := D2.same g3
      have hvlen : vv.length = s.n := by rw [pr_len D3.vwP, W.lw]
      refine ⟨b, vv, p, y3, rfl, D3.vw.sq, by rw [hvlen]; exact hp, by rw [hvlen]; omega, fun b' H4 g4 hb' => ?_⟩
      have D4 := D3.same g4
      refine ⟨_, rfl, d, C, dx, _, rfl, D4.obj, hC.cl, hC.nV, by show 5 < 1000; decide, ?_⟩
      rw [lp_vw]
      have gs := ((g1.trans g2).trans g3).trans g4
      have g14 := (g2.trans g3).trans g4
      have tk5 : TK H4 (upd H4 d (.ins C dx (lfl (s.n : Nat) a b' r e))) := .put D4.obj fun z => z
      have tk : TK H1 (upd H4 d (.ins C dx (lfl (s.n : Nat) a b' r e))) := (TK.of g14).trans tk5
      have hst : H4 st = some (.tup [.int (p : Nat), .str "look", .ref a]) := g4 _ _ (g3 _ _ upd_same)
      refine ⟨st, a, b', vv.set p y3, .tuple [.int (p : Nat), .str "look", .tuple (s.lev.map lvD)], s.lev, s.vw.set p (s.seen p), rfl, (But.of (S := [d]) gs).put (by simp), tk, upd_same, by rw [upd_ne ndx]; exact D4.own, tk.f D1.lev, tk5.f hb', pr_set (ViewAt.mono ((TK.of g4).trans tk5) hy3) p (pr_imp (fun _ _ => ViewAt.mono tk) D1.vwP), ?_, rfl, ?_⟩
      · intro H' g
        exact .tup (.of ((tk5.trans g).t hst)) (.cons (.int _) (.cons (.str _) (.cons (.tup ((tk5.trans g).f D4.lev).sq (lv_dp s.lev)) .nil)))
      · show (match s.next p with | none => s | some (.wr l) => s.wrote p l | some .look => s.looked p) = _
        rw [hdu, show decide (([.str "look"] : List V) ≠ [.str "look"]) = false from decide_eq_false (fun z => z rfl)]
        rfl
    · refine ⟨_, rfl, ty, _, _, _, rfl, rfl, .of hty, atI_nat (j := 0) rfl, rfl, _, rfl, iteT ?_⟩
      refine ⟨_, rfl, _, rfl, ty, _, _, _, rfl, rfl, .of hty, atI_nat (j := 1) rfl, szl (by show 3 ≤ _; decide), fun st nst => ?_⟩
      have g2 := same_new nst (.tup [.int (p : Nat), .str "write", .int l])
      have D2 := D1.same g2
      have hty2 := g2 _ _ hty
      have hll : (s.lev.map lvV).length = s.n := by rw [List.length_map]; rfl
      refine ⟨_, rfl, d, C, dx, _, _, rfl, D2.obj, hC.cl, hC.nL, l_lev, _, rfl, _, rfl, ty, _, _, _, rfl, rfl, .of hty2, atI_nat (j := 1) rfl, a, _, p, .int l, rfl, D2.lev.sq, by rw [hll]; exact hp, by rw [hll]; omega, fun a' H4 g4 ha' => ?_⟩
      have D4 := D2.same g4
      refine ⟨_, rfl, d, C, dx, _, rfl, D4.obj, hC.cl, hC.nL, by show 5 < 1000; decide, ?_⟩
      rw [lp_lev]
      have gs := (g1.trans g2).trans g4
      have g14 := g2.trans g4
      have tk5 : TK H4 (upd H4 d (.ins C dx (lfl (s.n : Nat) a' b r e))) := .put D4.obj fun z => z
      have tk : TK H1 (upd H4 d (.ins C dx (lfl (s.n : Nat) a' b r e))) := (TK.of g14).trans tk5
      have hst : H4 st = some (.tup [.int (p : Nat), .str "write", .int l]) := g4 _ _ upd_same
      refine ⟨st, a', b, vv, .tuple [.int (p : Nat), .str "write", .int l], s.lev.set p (some l), s.vw, rfl, (But.of (S := [d]) gs).put (by simp), tk, upd_same, by rw [upd_ne ndx]; exact D4.own, by rw [List.map_set]; exact tk5.f ha', tk.f D1.vw, pr_imp (fun _ _ => ViewAt.mono tk) D1.vwP, ?_, by rw [List.length_set]; rfl, ?_⟩
      · intro H' g
        exact .tup (.of ((tk5.trans g).t hst)) (.cons (.int _) (.cons (.str _) (.cons (.int _) .nil)))
      · show (match s.next p with | none => s | some (.wr l) => s.wrote p l | some .look => s.looked p) = _
        rw [hdu, show decide (([.str "write", .int l] : List V) ≠ [.str "look"]) = true from decide_eq_true (fun z => by simp at z)]
        rfl
  rintro σ H2 ⟨st, a', b', vv', dd, lev', vw', rfl, b2, tk2, hob, hox, ha', hb', hvp, hst, hln, est⟩
  have hty2 := tk2.t hty
  have elk : TF H2 e (s.lk.map V.bl) := tk2.f D1.lk
  have hkl : (s.lk.map V.bl).length = s.n := by rw [List.length_map, W.ll]
  have hk0 : ∃ x0 xs0, kind = .str x0 :: xs0 ∧ decide (V.str x0 = V.str "write") = decide (kind ≠ [.str "look"]) := by
    rcases hkind with ⟨rfl, _⟩ | ⟨l, rfl, _⟩
    · exact ⟨_, _, rfl, by rw [decide_eq_false (fun z => z rfl : ¬ (([.str "look"] : List V) ≠ [.str "look"]))]; decide +kernel⟩
    · exact ⟨_, _, rfl, by
      have ne : ([.str "write", .int l] : List V) ≠ [.str "look"] := fun z => by simp at z
      rw [decide_eq_true rfl, decide_eq_true ne]⟩
  obtain ⟨x0, xs0, ek, hk0⟩ := hk0
  refine ⟨_, rfl, d, C, dx, _, _, rfl, hob, hC.cl, hC.nK, l_lk, _, rfl, _, rfl, ty, _, _, _, rfl, rfl, .of hty2, atI_nat (show kind[0]? = some (.str x0) by rw [ek]; rfl), rfl, ?_⟩
  rw [hk0]
  refine ⟨e, _, p, _, rfl, elk.sq, by rw [hkl]; exact hp, by rw [hkl]; omega, fun e' H3 g3 he' => ?_⟩
  refine ⟨_, rfl, d, C, dx, _, rfl, g3 _ _ hob, hC.cl, hC.nK, by show 5 < 1000; decide, ?_⟩
  rw [lp_lk]
  have tk4 : TK H3 (upd H3 d (.ins C dx (lfl (s.n : Nat) a' b' r e'))) := .put (g3 _ _ hob) fun z => z
  have b4 : But [d] H (upd H3 d (.ins C dx (lfl (s.n : Nat) a' b' r e'))) := (b2.trans (.of g3)).put (by simp)
  have hob4 : upd H3 d (.ins C dx (lfl (s.n : Nat) a' b' r e')) d = some (.ins C dx (lfl (s.n : Nat) a' b' r e')) := upd_same
  have hox4 : upd H3 d (.ins C dx (lfl (s.n : Nat) a' b' r e')) dx = some (.own d) := by rw [upd_ne ndx]; exact g3 _ _ hox
  have he4 := tk4.f he'
  have tk24 : TK H2 (upd H3 d (.ins C dx (lfl (s.n : Nat) a' b' r e'))) := (TK.of g3).trans tk4
  generalize upd H3 d (.ins C dx (lfl (s.n : Nat) a' b' r e')) = H4 at tk4 b4 hob4 hox4 he4 tk24
  have ha4 := tk24.f ha'
  have hb4 := tk24.f hb'
  have hv4 := pr_imp (fun _ _ => ViewAt.mono tk24) hvp
  have hs4 := SD.mono hst tk24
  have hr4 := (tk2.trans tk24).t D1.run
  have hrp4 := SDs.mono D1.runP (tk2.trans tk24)
  refine ⟨fun y H' => ∃ q, y = .ref q ∧ Same H4 H' ∧ H' q = some (.tup (rv ++ [.ref st])), ?_, ?_⟩
  · refine ⟨_, rfl, d, C, dx, _, _, rfl, hob4, hC.cl, hC.nR, l_run, _, rfl, szl (by show 1 ≤ _; decide), fun t2 n2 => ?_⟩
    have gb := same_new n2 (.tup [.ref st])
    refine ⟨r, t2, rv, _, rfl, rfl, .of (gb _ _ hr4), .of upd_same, ?_, fun z => ?_, fun _ z => ?_, fun _ _ q nq => ?_⟩
    · rw [pr_len D1.runP]; exact szl (by show s.run.length + 1 ≤ _; omega)
    · exact ⟨t2, rfl, gb, by rw [z]; exact upd_same⟩
    · cases z
    · exact ⟨q, rfl, gb.trans (same_new nq _), upd_same⟩
  rintro y H5 ⟨r', rfl, g5, hr'⟩
  refine ⟨_, rfl, d, C, dx, _, rfl, g5 _ _ hob4, hC.cl, hC.nR, by show 5 < 1000; decide, ?_⟩
  rw [lp_run]
  have tk6 : TK H5 (upd H5 d (.ins C dx (lfl (s.n : Nat) a' b' r' e'))) := .put (g5 _ _ hob4) fun z => z
  have tk46 := (TK.of g5).trans tk6
  refine ⟨_, rfl, ?_⟩
  refine k _ dd _ ((b4.trans (.of g5)).put (by simp)) ⟨dx, a', b', r', e', vv', rv ++ [.ref st], ?_⟩ (by rw [est]) (SD.mono hs4 tk46)
  have en : (s.step p).n = s.n := LS.n_step
  rw [est] at en ⊢
  refine ⟨by rw [upd_same, en], by rw [upd_ne ndx]; exact g5 _ _ hox4, tk46.f ha4, tk46.f hb4, pr_imp (fun _ _ => ViewAt.mono tk46) hv4, tk6.t hr', SDs.mono (pr_snoc hs4 hrp4) tk46, ?_⟩
  rw [List.map_set]
  exact tk46.f he4
abbrev s_Levels_weave : Stmt := inClass (top 20) 6
theorem sc_Levels_weave : FnScope ["self", "weaving", "hand"] ["self", "weaving"] (defScope s_Levels_weave) := ⟨rfl, rfl, rfl, by decide +kernel, rfl, by decide +kernel, by decide +kernel⟩
theorem ok_Levels_weave (F : Fun K "weave" "Levels.weave" s_Levels_weave f fd) (T : RTx mg) (hC : LC K C) (G_is_weaving : Fd P w K mg base CX0 "is_weaving" 3 ["value", "many"] spWeavN) (M_next : Md P w K mg base CX0 C "next" 3 ["self", "hand"] (spLNext K C)) (M_step : Md P w K mg base CX0 C "step" 4 ["self", "hand"] (spLStep K C)) : FnOk P w K mg base CX0 5 f fd ["self", "weaving"] (spWeaveN K C) := by
  refine F.ok sc_Levels_weave (fun vs H Q E h => ?_) (fun cdv A outer s0 H vs Q E hr h => ?_)
  · obtain ⟨d, a, ws, s, rfl, _⟩ := h
    rfl
  obtain ⟨d, a, ws, s, rfl, hL, W, ha, hws, hwl, hrl, k⟩ := h
  refine ⟨_, (pss_cons (ps_if (pt_not (pt_val (pe_fd G_is_weaving (hr.mono (by first | decide | omega)) rfl (pa_cons (pv 1) (pa_cons (pe_fld (pv 0) rfl) pa_nil))))) (pss_one (ps_no)) pss_nil)
  (pss_one (ps_ret (pe_callTy call_tuple_of rfl T.tuple (by decide +kernel) (pa_cons (pe_lc (own := [("hand", 2)]) (g := (gName 2))  rfl sc_Levels_weave.nd (pi_tup (pv 1)) (blkOk_by (own := [("hand", 2)]) (N := ["self", "weaving", "hand"]) (sc := defScope s_Levels_weave) (by decide +kernel)) (fun _ _ _ _ _ => (pg_name (i := 2) sc_Levels_weave.nd rfl (Or.inl rfl))) (fun _ _ _ _ _ => (pts_one (pt_cmpR op_notN (pe_md (pv 0) hC.cl M_next (hr.mono (by first | decide | omega)) (pa_cons (pv 2) pa_nil)) pe_non (nomark _)))) (fun _ _ _ _ _ => (pe_md (pv 0) hC.cl M_step (hr.mono (by first | decide | omega)) (pa_cons (pv 2) pa_nil)))) pa_nil))))), ?_⟩
  have hL0 := hL
  obtain ⟨dx, la, lb, r, e, vv, rv, D⟩ := hL0
  refine ⟨_, rfl, _, rfl, d, C, dx, _, _, rfl, D.obj, hC.cl, hC.nM, l_many, a, ws, s.n, rfl, ha, hws, hwl, fun H1 g1 => ⟨_, rfl, iteF ?_⟩⟩
  have ha1 := (TK.of g1).tt ha
  have L1 := hL.same g1
  refine ⟨_, rfl, a, rfl, ⟨_, ha1.sq⟩, fun A0 hA0 => ?_⟩
  have hd1 : A0 ≠ d := fun z => by obtain ⟨_, _, o, _⟩ := L1.ob; rw [← z, hA0] at o; cases o
  refine lc_tup (K := K) (a := a) (xs := natV ws) (fun i H' => But [d] H1 H' ∧ LvAt K C H' d (s.woven (ws.take i)) ∧ ∃ acc ds, H' A0 = some (.lst acc) ∧ acc.length ≤ i ∧ Paired (SD K H') acc ds ∧ (s.woven (ws.take i)).run = s.run ++ ds)
    ⟨.of (same_new hA0 _), L1.same (same_new hA0 _), [], [], upd_same, Nat.le_refl _, .nil, by simp [LS.woven]⟩ (fun i H' _ z => ((L1.tk z.1).tt ha1).sq) ?_ ?_
  · rintro i x H' hx ⟨b1, Li, acc, ds, hA, hl, hp, er⟩
    obtain ⟨p, hpp, rfl⟩ := natV_get hx
    have hi := get_lt hpp
    have hps : p < s.n := hws p (List.mem_of_getElem? hpp)
    have Wi : (s.woven (ws.take i)).WF := LS.wf_woven W fun q hq => hws q (List.mem_of_mem_take hq)
    have hpn : p < (s.woven (ws.take i)).n := by rw [LS.n_woven]; exact hps
    have es : s.woven (ws.take (i + 1)) = (s.woven (ws.take i)).step p := by rw [List.take_succ, hpp]; exact LS.woven_snoc _ _
    have rl : (s.woven (ws.take i)).run.length < 100000 := by rw [er, List.length_append, ← pr_len hp]; omega
    rw [es]
    obtain ⟨dx1, fs1, ob1, nn1, ns1, _⟩ := Li.ob
    refine ⟨rfl, _, rfl, d, dx1, fs1, rfl, ob1, nn1, _, rfl, d, p, _, rfl, Li, Wi, hpn, fun y H2 g2 hy => ⟨rfl, _, rfl, ?_⟩⟩
    have L2' := Li.same g2
    have hA2 := g2 _ _ hA
    cases hn : (s.woven (ws.take i)).next p with
    | none =>
      rw [hn] at hy
      rw [show y = .non from hy]
      refine ite_no rfl ?_
      rw [LS.step_none hn]
      exact ⟨b1.trans (.of g2), L2', acc, ds, hA2, by omega, SDs.mono hp (.of g2), er⟩
    | some du =>
      have hne : (s.woven (ws.take i)).next p ≠ none := by rw [hn]; simp
      have hyn : (!decide (y = .non)) = true := by
        rw [hn] at hy
        cases du with
        | wr l => obtain ⟨t, rfl, _⟩ := hy; rfl
        | look => obtain ⟨t, rfl, _⟩ := hy; rfl
      refine ite_yes hyn ?_
      obtain ⟨dx2, fs2, ob2, nn2, ns2, _⟩ := L2'.ob
      refine ⟨_, rfl, d, dx2, fs2, rfl, ob2, ns2, _, rfl, d, p, _, rfl, L2', Wi, hpn, hne, rl, fun y3 dd H3 b3 L3 er3 hy3 => ?_⟩
      have hA3 := b3.at hA2 (by simpa using hd1)
      have tk : TK H' H3 := (TK.of g2).trans (L2'.tk b3)
      have tk2 : TK H3 (upd H3 A0 (.lst (acc ++ [y3]))) := TK.put hA3 fun z => z
      refine ⟨acc, hA3, szt (by omega), fun c o hc q => ?_, L3.put hA3, acc ++ [y3], ds ++ [dd], upd_same, by rw [List.length_append]; exact Nat.succ_le_succ hl, SDs.mono (pr_snoc hy3 (SDs.mono hp tk)) tk2, by rw [er3, er, List.append_assoc]⟩
      rw [upd_ne (ne_of_none q hA0)]
      exact ((b1.trans (.of g2)).trans b3) c o hc q
  rintro H2 ⟨b2, Lw, acc, ds, hA, hl, hp, er⟩
  rw [natL] at Lw hl er
  rw [List.take_length] at Lw er
  refine ⟨A0, _, rfl, .inl ⟨.of hA, fun t nt => ?_⟩⟩
  have gt := same_new nt (.tup acc)
  exact k t acc ds _ (((But.of g1).trans b2).trans (.of gt)) (Lw.same gt) upd_same (SDs.mono hp (.of gt)) er
end
end Fp
namespace Fp
open PySem PySem.Spec PyProof.Rows L2
/-- a reading that tells a value of some kind, all else staying -/
def OddE (te : TE) : Prop := ∀ (σ : L2.St) (H : Hp) (Q : VK), (∀ v H', Same H H' → (∃ d, DV H' v d) → Q v H') → te σ H Q
def OddA (n : Nat) (ta : TA) : Prop := ∀ (σ : L2.St) (H : Hp) (Q : List V → Hp → Prop), (∀ vs H', Same H H' → vs.length = n → (∃ ds, DVs H' vs ds) → Q vs H') → ta σ H Q
theorem odd_non : OddE (tC .non) := fun σ H Q k => k _ _ (Same.refl _) ⟨_, .non⟩
theorem odd_bl (b : Bool) : OddE (tC (.bl b)) := fun σ H Q k => k _ _ (Same.refl _) ⟨_, .bl b⟩
theorem odd_int (i : Int) : OddE (tC (.int i)) := fun σ H Q k => k _ _ (Same.refl _) ⟨_, .int i⟩
theorem odd_str (z : Str) : OddE (tC (.str z)) := fun σ H Q k => k _ _ (Same.refl _) ⟨_, .str z⟩
theorem odd_neg (i : Int) : OddE (tUn (rU fun i => .int (-i)) (tC (.int i))) := fun σ H Q k => ⟨i, rfl, k _ _ (Same.refl _) ⟨_, .int _⟩⟩
theorem odd_nil : OddA 0 tNil := fun σ H Q k => k _ _ (Same.refl _) rfl ⟨_, .nil⟩
theorem odd_cons {n : Nat} {te : TE} {ta : TA} (h : OddE te) (t : OddA n ta) : OddA (n + 1) (tCons te ta) := fun σ H Q k => by
  refine h σ H _ fun v H1 g1 ⟨d, dv⟩ => ?_
  exact t σ H1 _ fun vs H2 g2 hl ⟨ds, dvs⟩ => k _ _ (g1.trans g2) (by rw [List.length_cons, hl]) ⟨_, .cons (dv.same g2) dvs⟩
theorem odd_tup {n : Nat} {ta : TA} (h : OddA n ta) (hn : n ≤ 1000) : OddE (tTup ta) := fun σ H Q k => by
  refine h σ H _ fun vs H1 g1 hl ⟨ds, dvs⟩ => ⟨szl (by omega), fun p np => ?_⟩
  have g2 := same_new np (.tup vs)
  exact k _ _ (g1.trans g2) ⟨_, .tup upd_same (dvs.same g2) (by rw [← dvs.len]; omega)⟩
theorem odd_lst {n : Nat} {ta : TA} (h : OddA n ta) (hn : n ≤ 1000) : OddE (tLst ta) := fun σ H Q k => by
  refine h σ H _ fun vs H1 g1 hl ⟨ds, dvs⟩ => ⟨szl (by omega), fun p np => ?_⟩
  exact k _ _ (g1.trans (same_new np _)) ⟨_, .lst upd_same⟩
theorem odd_tup0 : OddE (tTup tNil) := odd_tup odd_nil (by decide)
theorem odd_tup1 {a : TE} (h : OddE a) : OddE (tTup (tCons a tNil)) := odd_tup (odd_cons h odd_nil) (by decide)
theorem odd_tup2 {a b : TE} (h : OddE a) (g : OddE b) : OddE (tTup (tCons a (tCons b tNil))) := odd_tup (odd_cons h (odd_cons g odd_nil)) (by decide)
theorem odd_lst0 : OddE (tLst tNil) := odd_lst odd_nil (by decide)
theorem odd_lst1 {a : TE} (h : OddE a) : OddE (tLst (tCons a tNil)) := odd_lst (odd_cons h odd_nil) (by decide)
theorem odd_dnew : OddE tDNewK := fun σ H Q k => fun p np => k _ _ (same_new np _) ⟨_, .dct upd_same⟩
theorem odd_pow : OddE (tOp (rI CPow fun i j => V.int (i ^ j.toNat)) (tC (.int 10)) (tC (.int 8))) := fun σ H Q k => ⟨10, 8, rfl, rfl, ⟨by decide, by decide, by decide⟩, k _ _ (Same.refl _) ⟨_, .int _⟩⟩
theorem odd_disp (a : Str) (i : Int) : OddE (tDisp [(tC (.str a), tC (.int i))]) := fun σ H Q k p np => by
  refine ⟨upd_same, [(Sum.inr a, .int i)], rfl, (by show 1 ≤ 15; decide), k _ _ (fun b o q => ?_) ⟨_, .dct upd_same⟩⟩
  have ne := ne_of_none q np
  rw [upd_ne ne, upd_ne ne]; exact q
/-- a list of such values -/
theorem odds_lst {n : Nat} {ta : TA} (h : OddA n ta) (hn : n ≤ 1000) {σ : L2.St} {H : Hp} {Q : VK} (k : ∀ l xs H', Same H H' → H' l = some (.lst xs) → xs.length = n → (∃ ds, DVs H' xs ds) → Q (.ref l) H') : tLst ta σ H Q := by
  refine h σ H _ fun vs H1 g1 hl ⟨ds, dvs⟩ => ⟨szl (by omega), fun p np => ?_⟩
  have g2 := same_new np (.lst vs)
  exact k _ _ _ (g1.trans g2) upd_same hl ⟨_, dvs.same g2⟩
def spOdd : Sp := fun vs H Q _ => ∃ (p : Addr) (k : Nat), vs = [.ref p] ∧ k < 100000 ∧ PotAt H p k ∧ ∀ v d H', But [p] H H' → PotAt H' p (k + 1) → DV H' v d → Q v H'
section
variable {P : Program} {w : World} {K : PySem.W.Frag} {mg : Str → Option Value} {base : Heap} {f : Addr} {fd : FuncData} {C : Addr}
abbrev s_law_odd : Stmt := top 34
theorem sc_law_odd : FnScope ["pot", "some"] ["pot"] (defScope s_law_odd) := ⟨rfl, rfl, rfl, by decide +kernel, rfl, by decide +kernel, by decide +kernel⟩
theorem ok_law_odd (F : Fun K "_law_odd" "_law_odd" s_law_odd f fd) (T : RTx mg) (G_law_of : Fd P w K mg base CX0 "_law_of" 2 ["pot", "some"] (spOf K)) : FnOk P w K mg base CX0 3 f fd ["pot"] spOdd := by
  refine F.ok sc_law_odd (fun vs H Q E h => ?_) (fun cdv A outer s H vs Q E hr h => ?_)
  · obtain ⟨p, k, rfl, _⟩ := h
    rfl
  obtain ⟨p, k, rfl, hk, hP, q⟩ := h
  refine ⟨_, (pss_cons (ps_set (i := 1) sc_law_odd.nd rfl (Or.inl rfl) (pe_lst (pa_cons pe_non (pa_cons pe_bl (pa_cons pe_bl (pa_cons pe_int (pa_cons pe_int (pa_cons (pe_un un_neg pe_int) (pa_cons pe_int (pa_cons pe_str (pa_cons pe_str (pa_cons (pe_tup pa_nil) (pa_cons (pe_lst pa_nil) (pa_cons pe_dnewK (pa_cons (pe_tup (pa_cons pe_int pa_nil)) (pa_cons (pe_tup (pa_cons (pe_tup pa_nil) pa_nil)) (pa_cons (pe_lst (pa_cons pe_int pa_nil)) (pa_cons (pe_tup (pa_cons pe_str pa_nil)) (pa_cons (pe_tup (pa_cons pe_int (pa_cons pe_int pa_nil))) (pa_cons (pe_tup (pa_cons pe_int (pa_cons pe_int pa_nil))) (pa_cons (pe_op op_pow pe_int pe_int) pa_nil)))))))))))))))))))))
  (pss_one (ps_ret (pe_fd G_law_of (hr.mono (by first | decide | omega)) rfl (pa_cons (pv 0) (pa_cons (pe_op op_cat (pv 1) (pe_lst (pa_cons (pe_tup (pa_cons (pe_tup (pa_cons pe_int pa_nil)) (pa_cons (pe_tup (pa_cons pe_int (pa_cons pe_int pa_nil))) pa_nil))) (pa_cons (pe_tup (pa_cons pe_non pa_nil)) (pa_cons (pe_disp (pps_cons pe_str pe_int pps_nil) (by rfl) (by rfl) (by simp) (by decide)) (pa_cons (pe_tup (pa_cons pe_bl pa_nil)) (pa_cons (pe_tup (pa_cons (pe_tup (pa_cons pe_int pa_nil)) (pa_cons pe_non pa_nil))) (pa_cons pe_int (pa_cons pe_int (pa_cons (pe_tup (pa_cons pe_non (pa_cons pe_non pa_nil))) (pa_cons pe_str pa_nil))))))))))) pa_nil)))))), ?_⟩
  refine seq_in ?_
  refine asg_in ?_
  refine odds_lst (n := 19) ?t1 (by decide) ?k1
  case t1 => repeat (first | exact odd_nil | refine odd_cons ?_ ?_ | exact odd_non | exact odd_bl _ | exact odd_int _ | exact odd_str _ | exact odd_neg _ | exact odd_dnew | exact odd_pow | exact odd_disp _ _ | exact odd_tup0 | exact odd_lst0 | refine odd_tup1 ?_ | refine odd_tup2 ?_ ?_ | refine odd_lst1 ?_)
  intro l1 xs1 H1 g1 hl1 n1 ⟨ds1, dv1⟩
  refine g_set ?_
  refine nx_in ?_
  refine ret_in ?_
  refine ⟨_, rfl, _, rfl, ?_⟩
  refine odds_lst (n := 9) ?t2 (by decide) ?k2
  case t2 => repeat (first | exact odd_nil | refine odd_cons ?_ ?_ | exact odd_non | exact odd_bl _ | exact odd_int _ | exact odd_str _ | exact odd_neg _ | exact odd_dnew | exact odd_pow | exact odd_disp _ _ | exact odd_tup0 | exact odd_lst0 | refine odd_tup1 ?_ | refine odd_tup2 ?_ ?_ | refine odd_lst1 ?_)
  intro l2 xs2 H2 g2 hl2 n2 ⟨ds2, dv2⟩
  refine ⟨l1, l2, _, _, rfl, rfl, g2 _ _ hl1, hl2, szl (by omega), fun l3 nl3 => ?_⟩
  have g3 := same_new nl3 (.lst (xs1 ++ xs2))
  have gg := (g1.trans g2).trans g3
  have hPn := pot_sm gg hP
  have nl3' := but_none (.of (g1.trans g2)) (pot_sm (g1.trans g2) hP) nl3
  refine ⟨p, l3, xs1 ++ xs2, k, rfl, .of upd_same, nl3'.2, fun z => ?_, by rw [List.length_append]; omega, by omega, hPn, fun d v H4 hv g4 hP4 => ?_⟩
  · have := congrArg List.length z
    rw [List.length_append, n1, n2] at this
    cases this
  · obtain ⟨e, he, dv⟩ := DVs.at_ ((dv1.same (g2.trans g3)).app (dv2.same g3)) hv
    exact q v e H4 ((But.of gg).trans g4) hP4 (dv.kd (.pot g4 hPn hP4))
end
end Fp
namespace Fp
open PySem PySem.Spec PyProof.Rows L2
/-- None, integers, tuples of such, at most so deep and not too long -/
def pb : Nat → Dt → Prop
  | _, .non => True
  | _, .int _ => True
  | k + 1, .tup ds => ds.length ≤ 900 ∧ ∀ d ∈ ds, pb k d
  | _, _ => False
theorem pb_pl : ∀ {k : Nat} {d : Dt}, pb k d → pl k d = true
  | 0, .non, _ => rfl
  | 0, .int _, _ => rfl
  | k + 1, .non, _ => rfl
  | k + 1, .int _, _ => rfl
  | k + 1, .tup ds, h => pl_tup.mpr fun d hd => pb_pl (h.2 d hd)
  | 0, .tup _, h => h.elim
  | 0, .bl _, h => h.elim
  | k + 1, .bl _, h => h.elim
  | 0, .oth, h => h.elim
  | k + 1, .oth, h => h.elim
theorem pl_3 {k : Nat} {d : Dt} (hk : k ≤ 3) (h : pl k d = true) : pl 3 d = true := by
  rcases (show k = 0 ∨ k = 1 ∨ k = 2 ∨ k = 3 by omega) with rfl | rfl | rfl | rfl
  · exact pl_up (pl_up (pl_up h))
  · exact pl_up (pl_up h)
  · exact pl_up h
  · exact h
/-- readings at one place that tell some value, all else staying -/
def OddS (σ : L2.St) (H0 : Hp) (te : TE) : Prop := ∀ (H : Hp) (Q : VK), Same H0 H → (∀ v H', Same H H' → (∃ d, DV H' v d) → Q v H') → te σ H Q
def OddSA (σ : L2.St) (H0 : Hp) (n : Nat) (ta : TA) : Prop := ∀ (H : Hp) (Q : List V → Hp → Prop), Same H0 H → (∀ vs H', Same H H' → vs.length = n → (∃ ds, DVs H' vs ds) → Q vs H') → ta σ H Q
section
variable {σ : L2.St} {H0 : Hp}
theorem OddE.s {te : TE} (h : OddE te) : OddS σ H0 te := fun H Q _ k => h σ H Q k
theorem odds_nil : OddSA σ H0 0 tNil := fun H Q _ k => k _ _ (Same.refl _) rfl ⟨_, .nil⟩
theorem odds_cons {n : Nat} {te : TE} {ta : TA} (h : OddS σ H0 te) (t : OddSA σ H0 n ta) : OddSA σ H0 (n + 1) (tCons te ta) := fun H Q g k => by
  refine h H _ g fun v H1 g1 ⟨d, dv⟩ => ?_
  exact t H1 _ (g.trans g1) fun vs H2 g2 hl ⟨ds, dvs⟩ => k _ _ (g1.trans g2) (by rw [List.length_cons, hl]) ⟨_, .cons (dv.same g2) dvs⟩
theorem oddsS_lst {n : Nat} {ta : TA} (h : OddSA σ H0 n ta) (hn : n ≤ 1000) {Q : VK} (k : ∀ l xs H', Same H0 H' → H0 l = none → H' l = some (.lst xs) → xs.length = n → (∃ ds, DVs H' xs ds) → Q (.ref l) H') : tLst ta σ H0 Q := by
  refine h H0 _ (Same.refl _) fun vs H1 g1 hl ⟨ds, dvs⟩ => ⟨szl (by omega), fun p np => ?_⟩
  have g2 := same_new np (.lst vs)
  have n0 : H0 p = none := by
    cases e : H0 p with
    | none => rfl
    | some o => rw [g1 _ _ e] at np; cases np
  exact k _ _ _ (g1.trans g2) n0 upd_same hl ⟨_, dvs.same g2⟩
section
variable {i : Int} (h1 : σ[1]? = some (some (.int i)))
include h1
theorem odd_add (j : Int) : OddS σ H0 (tOp (rI0 fun i j => V.int (i + j)) (tVar 1) (tC (.int j))) := fun H Q _ k => ⟨_, h1, _, _, rfl, rfl, k _ _ (Same.refl _) ⟨_, .int _⟩⟩
theorem odd_sub (j : Int) : OddS σ H0 (tOp (rI0 fun i j => V.int (i - j)) (tVar 1) (tC (.int j))) := fun H Q _ k => ⟨_, h1, _, _, rfl, rfl, k _ _ (Same.refl _) ⟨_, .int _⟩⟩
theorem odd_ngv : OddS σ H0 (tUn (rU fun i => .int (-i)) (tVar 1)) := fun H Q _ k => ⟨_, h1, _, rfl, k _ _ (Same.refl _) ⟨_, .int _⟩⟩
theorem odd_one : OddS σ H0 (tTup (tCons (tVar 1) tNil)) := fun H Q _ k => ⟨_, h1, szl (by show 1 ≤ _; decide), fun p np => k _ _ (same_new np _) ⟨.tup [.int i], .tup upd_same (.cons (.int i) .nil) (by show 1 ≤ 1000; decide)⟩⟩
theorem odd_eq (j : Int) : OddS σ H0 (tOp rEq (tVar 1) (tC (.int j))) := fun H Q _ k => ⟨_, h1, rfl, k _ _ (Same.refl _) ⟨_, .bl _⟩⟩
end
theorem dvs_cut {H : Hp} {xs : List V} {ds : List Dt} {lo hi : Option Int} (h : DVs H xs ds) : ∃ es, DVs H (cutV xs lo hi) es ∧ es.length ≤ ds.length := by
  unfold cutV
  refine ⟨_, (h.drop).take, ?_⟩
  rw [List.length_take, List.length_drop]
  omega
section
variable {K : PySem.W.Frag} {a : Addr} {xs : List V} {ds : List Dt} (h1 : σ[1]? = some (some (.ref a))) (ha : H0 a = some (.tup xs)) (hd : DVs H0 xs ds) (hl : ds.length ≤ 900)
include h1 ha hd hl
theorem odd_list : OddS σ H0 (tCB (fun xs H Q => ∃ p ys, xs = [V.ref p] ∧ (SqL K H p ys ∨ SqT K H p ys) ∧ ∀ l, H l = none → Q (.ref l) (upd H l (.lst ys))) (tCons (tVar 1) tNil)) := fun H Q g k =>
  ⟨_, h1, a, xs, rfl, .inr (.of (g _ _ ha)), fun l nl => k _ _ (same_new nl _) ⟨_, .lst upd_same⟩⟩
theorem odd_from : OddS σ H0 (tSl (rSlA K) (tVar 1) (tPart (tC (.int 1))) tNoPart) := fun H Q g k => ⟨_, h1, 1, rfl, slA_any (g _ _ ha) fun b H1 g1 hb => by
  obtain ⟨es, e1, e2⟩ := dvs_cut (hd.same (g.trans g1))
  exact k _ _ g1 ⟨_, .tup hb e1 (by omega)⟩⟩
theorem odd_but : OddS σ H0 (tSl (rSlA K) (tVar 1) tNoPart (tPart (tUn (rU fun i => .int (-i)) (tC (.int 1))))) := fun H Q g k => ⟨_, h1, 1, rfl, -1, rfl, slA_any (g _ _ ha) fun b H1 g1 hb => by
  obtain ⟨es, e1, e2⟩ := dvs_cut (hd.same (g.trans g1))
  exact k _ _ g1 ⟨_, .tup hb e1 (by omega)⟩⟩
theorem odd_rev : OddS σ H0 (tRevT K (tVar 1)) := fun H Q g k => ⟨_, h1, a, xs, rfl, .of (g _ _ ha), fun p np => by
  have g1 := same_new np (.tup xs.reverse)
  exact k _ _ g1 ⟨_, .tup upd_same (hd.same (g.trans g1)).rev (by rw [List.length_reverse]; omega)⟩⟩
theorem odd_cat2 : OddS σ H0 (tOp (rCatA K) (tVar 1) (tSl (rSlA K) (tVar 1) (tPart (tUn (rU fun i => .int (-i)) (tC (.int 1)))) tNoPart)) := fun H Q g k => by
  refine ⟨_, h1, _, h1, 1, rfl, -1, rfl, ?_⟩
  refine noP_in ?_
  refine slA_any (g _ _ ha) fun b H1 g1 hb => ?_
  rw [cut_last] at hb
  have hx := hd.len
  refine catA_any (g1 _ _ (g _ _ ha)) hb (by rw [List.length_drop]; omega) fun c H2 g2 hc => ?_
  have gg := g.trans (g1.trans g2)
  exact k _ _ (g1.trans g2) ⟨_, .tup hc ((hd.same gg).app ((hd.same gg).drop (n := xs.length - 1))) (by rw [List.length_append, List.length_drop]; omega)⟩
theorem odd_cat0 : OddS σ H0 (tOp (rCatA K) (tVar 1) (tTup (tCons (tC (.int 0)) tNil))) := fun H Q g k => by
  refine ⟨_, h1, szl (by show 1 ≤ _; decide), fun t nt => ?_⟩
  have g1 := same_new nt (.tup [.int 0])
  have hx := hd.len
  refine catA_any (g1 _ _ (g _ _ ha)) upd_same (by show xs.length + 1 ≤ _; omega) fun c H2 g2 hc => ?_
  have gg := g.trans (g1.trans g2)
  exact k _ _ (g1.trans g2) ⟨_, .tup hc ((hd.same gg).app (.cons (.int 0) .nil)) (by rw [List.length_append, List.length_singleton]; omega)⟩
end
end
def spBent (n : Nat) : Sp := fun vs H Q _ => ∃ (p : Addr) (k m : Nat) (v : V) (d : Dt), vs = [.ref p, v] ∧ m < n ∧ m ≤ 3 ∧ k + 10 * m < 90000 ∧ PotAt H p k ∧ DV H v d ∧ pb m d ∧ ∀ v' d' H', But [p] H H' → PotAt H' p (k + 4 * m + 4) → DV H' v' d' → Q v' H'
section
variable {P : Program} {w : World} {K : PySem.W.Frag} {mg : Str → Option Value} {base : Heap} {f : Addr} {fd : FuncData} {C : Addr}
abbrev s_law_bent : Stmt := top 35
theorem sc_law_bent : FnScope ["pot", "value", "at", "some"] ["pot", "value"] (defScope s_law_bent) := ⟨rfl, rfl, rfl, by decide +kernel, rfl, by decide +kernel, by decide +kernel⟩
theorem ok_law_bent {n : Nat} (F : Fun K "_law_bent" "_law_bent" s_law_bent f fd) (T : RTx mg) (hstr : mg "str" = none) (G_law_take : Fd P w K mg base CX0 "_law_take" 1 ["pot", "upto"] spTake) (G_law_of : Fd P w K mg base CX0 "_law_of" 2 ["pot", "some"] (spOf K)) (G_law_odd : Fd P w K mg base CX0 "_law_odd" 3 ["pot"] spOdd) (G_law_bent : Fd P w K mg base CX0 "_law_bent" (n + 3) ["pot", "value"] (spBent n)) : FnOk P w K mg base CX0 (n + 4) f fd ["pot", "value"] (spBent (n + 1)) := by
  refine F.ok sc_law_bent (fun vs H Q E h => ?_) (fun cdv A outer s H vs Q E hr h => ?_)
  · obtain ⟨p, k, m, v, d, rfl, _⟩ := h
    rfl
  obtain ⟨p, k, m, v, d, rfl, hm, hm3, hk, hP, hd, hpb, q⟩ := h
  refine ⟨_, (pss_cons (ps_if (PW.pt (pw_and (pt_val (pe_callB call_isi rfl T.isinstance (by decide +kernel) (pa_cons (pv 1) (pa_cons (pe_bltn (v := .ty "tuple") rfl T.tuple boot_tuple rfl) pa_nil)))) (pw_and (pt_cmpR (op_neP (u64 hr)) (pv 1) (pe_tup pa_nil) (nomark _)) (pw_and1 (pt_cmpR op_gt (pe_fd G_law_take (hr.mono (by first | decide | omega)) rfl (pa_cons (pv 0) (pa_cons pe_int pa_nil))) pe_int (nomark _)))))) (pss_cons (ps_set (i := 2) sc_law_bent.nd rfl (Or.inl rfl) (pe_fd G_law_take (hr.mono (by first | decide | omega)) rfl (pa_cons (pv 0) (pa_cons (pe_callB call_len rfl T.len (by decide +kernel) (pa_cons (pv 1) pa_nil)) pa_nil))))
  (pss_one (ps_ret (pe_op op_catA (pe_op op_catA (pe_slice sl_tupA (pv 1) po_none (po_some (pv 2))) (pe_tup (pa_cons (pe_fd G_law_bent (hr.mono (by first | decide | omega)) rfl (pa_cons (pv 0) (pa_cons (pe_ix ix_tup (pv 1) (pv 2) (fun _ _ => rfl)) pa_nil))) pa_nil))) (pe_slice sl_tupA (pv 1) (po_some (pe_op op_add (pv 2) pe_int)) po_none))))) pss_nil)
  (pss_cons (ps_if (pt_val (pe_callB call_isi rfl T.isinstance (by decide +kernel) (pa_cons (pv 1) (pa_cons (pe_bltn (v := .ty "tuple") rfl T.tuple boot_tuple rfl) pa_nil)))) (pss_cons (ps_set (i := 3) sc_law_bent.nd rfl (Or.inl rfl) (pe_lst (pa_cons (pe_callTy call_list_of rfl T.list (by decide +kernel) (pa_cons (pv 1) pa_nil)) (pa_cons (pe_slice sl_tupA (pv 1) (po_some pe_int) po_none) (pa_cons (pe_slice sl_tupA (pv 1) po_none (po_some (pe_un un_neg pe_int))) (pa_cons (pe_revT (pv 1)) (pa_cons (pe_op op_catA (pv 1) (pe_slice sl_tupA (pv 1) (po_some (pe_un un_neg pe_int)) po_none)) (pa_cons (pe_tup pa_nil) (pa_cons pe_non (pa_cons (pe_op op_catA (pv 1) (pe_tup (pa_cons pe_int pa_nil))) pa_nil))))))))))
  (pss_one (ps_ret (pe_fd G_law_of (hr.mono (by first | decide | omega)) rfl (pa_cons (pv 0) (pa_cons (pv 3) pa_nil)))))) pss_nil)
  (pss_cons (ps_if (pt_val (pe_callB call_isi rfl T.isinstance (by decide +kernel) (pa_cons (pv 1) (pa_cons (pe_bltn (v := .ty "bool") rfl T.bool boot_bool rfl) pa_nil)))) (pss_one (ps_ret (pe_fd G_law_of (hr.mono (by first | decide | omega)) rfl (pa_cons (pv 0) (pa_cons (pe_lst (pa_cons (pe_notT (pv 1)) (pa_cons (pe_callTy call_int1 rfl T.int (by decide +kernel) (pa_cons (pv 1) pa_nil)) (pa_cons pe_non pa_nil)))) pa_nil))))) pss_nil)
  (pss_cons (ps_if (pt_val (pe_callB call_isi rfl T.isinstance (by decide +kernel) (pa_cons (pv 1) (pa_cons (pe_bltn (v := .ty "int") rfl T.int boot_int rfl) pa_nil)))) (pss_one (ps_ret (pe_fd G_law_of (hr.mono (by first | decide | omega)) rfl (pa_cons (pv 0) (pa_cons (pe_lst (pa_cons (pe_op op_add (pv 1) pe_int) (pa_cons (pe_op op_sub (pv 1) pe_int) (pa_cons (pe_cmpR op_eq (pv 1) pe_int (nomark _)) (pa_cons (pe_un un_neg (pv 1)) (pa_cons pe_non (pa_cons (pe_tup (pa_cons (pv 1) pa_nil)) pa_nil))))))) pa_nil))))) pss_nil)
  (pss_one (ps_ret (pe_ifExp (pt_val (pe_callB call_isi rfl T.isinstance (by decide +kernel) (pa_cons (pv 1) (pa_cons (pe_bltn (v := .ty "str") rfl hstr boot_str rfl) pa_nil)))) (pe_fd G_law_of (hr.mono (by first | decide | omega)) rfl (pa_cons (pv 0) (pa_cons (pe_lst (pa_cons (pe_op op_add_str (pv 1) pe_str) (pa_cons pe_non (pa_cons (pe_tup (pa_cons (pv 1) pa_nil)) pa_nil)))) pa_nil))) (pe_fd G_law_odd (hr.mono (by first | decide | omega)) rfl (pa_cons (pv 0) pa_nil))))))))), ?_⟩
  -- what is drawn of a list of values
  have draw : ∀ {H1 H2 : Hp} {l : Addr} {xs : List V} {ds : List Dt} {j : Nat} {σ : L2.St} {te : TE}, But [p] H H1 → Same H1 H2 → H1 l = none → H2 l = some (.lst xs) → xs ≠ [] → xs.length ≤ 1000 → DVs H2 xs ds → PotAt H1 p j → j ≤ k + 4 * m + 3 → spOf K [.ref p, .ref l] H2 Q E0 := fun {H1 H2 l xs ds j σ te} g1 g2 nl hl hne hlen hds hPj hj => by
    have hP2 := pot_sm g2 hPj
    refine ⟨p, l, xs, j, rfl, .of hl, (but_none g1 hPj nl).2, hne, by omega, by omega, hP2, fun i v H3 hv g3 hP3 => ?_⟩
    obtain ⟨e, _, dv⟩ := DVs.at_ hds hv
    exact q v e H3 ((g1.trans (.of g2)).trans g3) (hP3.mono (by omega)) (dv.kd (.pot g3 hP2 hP3))
  refine seq_in ?_
  refine cut_nx (fun H' => But [p] H H' ∧ PotAt H' p (k + 1) ∧ DV H' v d) ?_ fun rest => ?_
  rotate_left
  · obtain ⟨t, ty, _, _, k3⟩ := hd.ty (K := K)
    refine ⟨_, rfl, _, _, _, _, _, rfl, .ty "tuple", ty, k3, _, rfl, ite2 (fun c => ?_) (fun c => ?_)⟩
    rotate_left
    · exact iteF (rest _ ⟨But.refl _ _, hP.mono (by omega), hd⟩)
    refine ⟨_, rfl, szl (by show 0 ≤ _; decide), fun e0 ne0 => ?_⟩
    have g0 := same_new ne0 (.tup [])
    have hP0 := pot_sm g0 hP
    have hd0 := hd.same g0
    refine ⟨d, .tup [], hd0, .tup upd_same .nil (by show 0 ≤ 1000; decide), pl_3 hm3 (pb_pl hpb), rfl, fun t1 ht1 => ⟨_, rfl, ite2 (fun c1 => ?_) (fun c1 => ?_)⟩⟩
    rotate_left
    · exact iteF (rest _ ⟨.of g0, hP0.mono (by omega), hd0⟩)
    refine ⟨_, rfl, p, 6, k, rfl, by decide, by decide, by omega, hP0, fun dd H1 hdd g1 hP1 => ⟨_, _, rfl, rfl, _, rfl, ite2 (fun c2 => ?_) (fun c2 => ?_)⟩⟩
    rotate_left
    · exact rest _ ⟨(But.of g0).trans g1, hP1, hd0.kd (.pot g1 hP0 hP1)⟩
    have gd : But [p] H H1 := (But.of g0).trans g1
    have hd1 := hd0.kd (.pot g1 hP0 hP1)
    cases hd1 with
    | @tup a xs ds ha hds hl =>
      have hne : ds ≠ [] := fun z => ht1.mp c1 (congrArg Dt.tup z)
      have hxl := hds.len
      have hpos : 0 < ds.length := List.length_pos_iff.mpr hne
      obtain ⟨m', rfl⟩ : ∃ m', m = m' + 1 := by
        cases m with
        | zero => exact hpb.elim
        | succ m' => exact ⟨m', rfl⟩
      refine seq_in ?_
      refine ⟨_, rfl, _, rfl, _, xs.length, rfl, .inr ⟨_, .of ha, rfl⟩, p, _, k + 1, rfl, by omega, by omega, by omega, hP1, fun at_ H2 hat g2 hP2 => ?_⟩
      have ka2 := DKp.pot g2 hP1 hP2
      have ha2 := ka2.t ha
      have hds2 := hds.kd ka2
      refine g_set ?_
      refine nx_in ?_
      refine ret_in ?_
      refine ⟨_, rfl, ?_⟩
      refine noP_in ?_
      refine ⟨_, rfl, _, rfl, ?_⟩
      refine slA_any ha2 fun b H3 g3 hb => ?_
      rw [cutA_to] at hb
      have hat' : at_ < ds.length := by omega
      have hx : xs[at_]? = some (xs[at_]'(by omega)) := List.getElem?_eq_getElem _
      obtain ⟨dx, hdx, dv⟩ := DVs.at_ (hds2.same g3) hx
      have hP3 := pot_sm g3 hP2
      refine ⟨_, rfl, _, rfl, _, rfl, a, xs, _, _, rfl, rfl, .of (g3 _ _ ha2), atI_nat hx, p, k + 1 + 1, m', _, dx, rfl, by omega, by omega, by omega, hP3, dv, hpb.2 dx (List.mem_of_getElem? hdx), fun v' d' H4 g4 hP4 dv' => ⟨szl (by show 1 ≤ _; decide), fun tp ntp => ?_⟩⟩
      have k4 := DKp.pot g4 hP3 hP4
      have s5 := same_new ntp (.tup [v'])
      have hds4 := (hds2.same g3).kd k4
      refine catA_any (s5 _ _ (k4.t hb)) upd_same (by rw [List.length_take]; show _ + 1 ≤ _; omega) fun c5 H5 g5 hc5 => ?_
      have s45 := s5.trans g5
      refine ⟨_, rfl, _, rfl, _, _, rfl, rfl, _, rfl, ?_⟩
      refine noP_in ?_
      refine slA_any (s45 _ _ (k4.t (g3 _ _ ha2))) fun b6 H6 g6 hb6 => ?_
      rw [show ((at_ : Int) + 1) = ((at_ + 1 : Nat) : Int) by omega, cutA_from] at hb6
      refine catA_any (g6 _ _ hc5) hb6 (by simp only [List.length_append, List.length_take, List.length_drop, List.length_singleton]; omega) fun c7 H7 g7 hc7 => ?_
      have s47 := (s45.trans g6).trans g7
      refine q _ (.tup (ds.take at_ ++ [d'] ++ ds.drop (at_ + 1))) H7 (((gd.trans g2).trans (.of g3)).trans (g4.trans (.of s47))) ((pot_sm s47 hP4).mono (by omega)) (.tup hc7 ?_ (by simp only [List.length_append, List.length_take, List.length_drop, List.length_singleton]; omega))
      have hh := hds4.same s47
      exact ((hh.take).app (.cons (dv'.same s47) .nil)).app hh.drop
    | _ => cases c
  · rintro H1 ⟨g1, hP1, hd1⟩
    obtain ⟨t, ty, kk1, kk2, k3⟩ := hd1.ty (K := K)
    refine nx_in ?_
    refine seq_in ?_
    refine ⟨_, rfl, _, _, _, _, _, rfl, .ty "tuple", ty, k3, _, rfl, ite2 (fun c => ?_) (fun c => ?_)⟩
    · cases hd1 with
      | @tup a xs ds ha hds hl =>
        have hl9 : ds.length ≤ 900 := by
          cases m with
          | zero => exact hpb.elim
          | succ m' => exact hpb.1
        refine seq_in ?_
        refine asg_in ?_
        refine oddsS_lst (n := 8) (odds_cons (odd_list rfl ha hds hl9) (odds_cons (odd_from rfl ha hds hl9) (odds_cons (odd_but rfl ha hds hl9) (odds_cons (odd_rev rfl ha hds hl9) (odds_cons (odd_cat2 rfl ha hds hl9) (odds_cons odd_tup0.s (odds_cons odd_non.s (odds_cons (odd_cat0 rfl ha hds hl9) odds_nil)))))))) (by decide) fun l ys H2 g2 nl hl2 hyl ⟨es, hes⟩ => ?_
        refine g_set ?_
        refine nx_in ?_
        refine ret_in ?_
        exact ⟨_, rfl, _, rfl, draw (σ := []) (te := tC .non) g1 g2 nl hl2 (fun z => by rw [z] at hyl; cases hyl) (by omega) hes hP1 (by omega)⟩
      | _ => cases c
    · refine next_in ?_
      refine nx_in ?_
      refine seq_in ?_
      refine ⟨_, rfl, _, _, _, _, _, rfl, .ty "bool", ty, kk2, _, rfl, ite2 (fun c2 => ?_) (fun c2 => ?_)⟩
      · cases hd1 with
        | bl b =>
          cases m <;> exact hpb.elim
        | _ => cases c2
      refine next_in ?_
      refine nx_in ?_
      refine seq_in ?_
      refine ⟨_, rfl, _, _, _, _, _, rfl, .ty "int", ty, kk1, _, rfl, ite2 (fun c3 => ?_) (fun c3 => ?_)⟩
      · cases hd1 with
        | int i =>
          refine ret_in ?_
          refine ⟨_, rfl, ?_⟩
          refine oddsS_lst (n := 6) (odds_cons (odd_add rfl 1) (odds_cons (odd_sub rfl 1) (odds_cons (odd_eq rfl 1) (odds_cons (odd_ngv rfl) (odds_cons odd_non.s (odds_cons (odd_one rfl) odds_nil)))))) (by decide) fun l ys H2 g2 nl hl2 hyl ⟨es, hes⟩ => ?_
          exact draw (σ := []) (te := tC .non) g1 g2 nl hl2 (fun z => by rw [z] at hyl; cases hyl) (by omega) hes hP1 (by omega)
        | bl b => cases m <;> exact hpb.elim
        | _ => cases c3
      refine next_in ?_
      refine nx_in ?_
      refine ret_in ?_
      cases hd1 with
      | non =>
        refine ⟨_, rfl, _, _, _, _, false, rfl, .ty "str", .base .non, by first | rfl | decide +kernel | kernel_rfl, _, rfl, iteF ?_⟩
        exact ⟨_, rfl, p, k + 1, rfl, by omega, hP1, fun v' d' H2 g2 hP2 dv => q v' d' H2 (g1.trans g2) (hP2.mono (by omega)) dv⟩
      | int i => exact absurd rfl c3
      | bl b => exact absurd rfl c2
      | tup _ _ _ => exact absurd rfl c
      | _ => cases m <;> exact hpb.elim
theorem all_law_bent (F : Fun K "_law_bent" "_law_bent" s_law_bent f fd) (b : Binds K fd ["pot", "value"] []) (mm : mg "_law_bent" = some (.ref f)) (T : RTx mg) (hstr : mg "str" = none) (G_law_take : Fd P w K mg base CX0 "_law_take" 1 ["pot", "upto"] spTake) (G_law_of : Fd P w K mg base CX0 "_law_of" 2 ["pot", "some"] (spOf K)) (G_law_odd : Fd P w K mg base CX0 "_law_odd" 3 ["pot"] spOdd) : ∀ n : Nat, Fd P w K mg base CX0 "_law_bent" (n + 3) ["pot", "value"] (spBent n)
  | 0 => ⟨f, fd, mm, F.kp, b, (none0 (fun vs H Q E h => by obtain ⟨p, k, m, v, d, _, hm, _⟩ := h; omega)).mono (Nat.zero_le _)⟩
  | n + 1 => ⟨f, fd, mm, F.kp, b, ok_law_bent F T hstr G_law_take G_law_of G_law_odd (all_law_bent F b mm T hstr G_law_take G_law_of G_law_odd n)⟩
end
end Fp
namespace Fp
open PySem PySem.Spec PyProof.Rows L2
/-! ### f(k = v, ..) -/
def tCallKW (n : Nat) (sp : Sp) (gV : List V → List V) (tk : TA) : TE := fun σ H Q => tk σ H fun zs H2 => zs.length = n ∧ sp (gV zs) H2 Q E0
structure FdKw (P : Program) (w : World) (K : PySem.W.Frag) (mg : Str → Option Value) (base : Heap) (CX : CXT) (x : Str) (k : Nat) (ps ks : List Str) (g : List Value → List Value) (gV : List V → List V) (sp : Sp) : Prop where
  ex : ∃ (f : Addr) (fd : FuncData), mg x = some (.ref f) ∧ PySem.W.keepIn K (.ref f) = true ∧ KBn K fd ps 0 ks (fun _ => g) (fun _ => gV) ∧ FnOk P w K mg base CX k f fd ps sp
section
variable {X : Cx} {k : Nat} {x : Str} {ps ks : List Str} {sp : Sp} {p pos : Pos} {kws : List Keyword} {tk : TA} {g : List Value → List Value} {gV : List V → List V}
theorem pe_fdKw (M : FdKw X.prog X.w X.K X.mg X.base CX0 x k ps ks g gV sp) (hr : Room k X.A) (hg : Gl X x) (hkw : PK X kws tk)
    (hall : (backToKw pos (keywordEach kws X.env)).all (·.1.isSome) = true := by rfl) (hks : (backToKw pos (keywordEach kws X.env)).filterMap (·.1) = ks := by rfl) (hdb : (x == ("__debug__" : Str)) = false := by decide)
    (hpl : ((backTo pos (starEach [] X.env)).any (·.1) || (backToKw pos (keywordEach kws X.env)).any (·.1.isNone)) = false := by rfl) :
    PE X (.Call (.Name x p) [] kws pos) (tCallKW ks.length sp gV tk) := by
  obtain ⟨f, fd, hm, hk, hb, F⟩ := M.ex
  refine ⟨fun pins s σ H Q I h => ?_⟩
  refine wpAny_Call_Name_kw (ld_glob I hg hm ?_ hdb)
  refine PySem.W.callWith_KW0 (first := []) (h₀ := X.base) I.ok.mod.kin hk hall ?_ hpl
  refine thn (hkw.run pos pins s σ H _ I h) fun ws s2 ⟨zs, H2, I2, rz, l2, q2⟩ => ⟨I2.kIn, ?_⟩
  rw [hks]
  have r2 := hb.rel (vs := []) (us := []) .nil rz
  refine wpAny_call (codeAny_mono (F.run X.A X.stack s2 H2 ⟨[], ks.zip ws⟩ (g ws) (gV zs) Q E0 hr I2.env0 (hb.to s2 [] ws I2.kIn rfl (rz.length.symm.trans l2)) r2 q2) fun r s' hq => ?_)
  cases r with
  | error e => exact pass0 pins σ H2 s2 e s' I2 hq
  | ok fl =>
    cases fl with
    | ret u => exact I2.after hq
    | next => exact False.elim hq
    | brk => exact False.elim hq
    | cont => exact False.elim hq
end
end Fp
namespace Fp
open PySem PySem.Spec PyProof.Rows L2
/-! ### repr of a truth -/
def rReprB : List V → Hp → VK → Prop := fun xs H Q => ∃ b : Bool, xs = [.bl b] ∧ Q (.str (if b then "True" else "False")) H
theorem call_reprB {X : Cx} : CallR X (.builtin "repr") rReprB := by
  intro pins s σ H xs us Q I r h
  obtain ⟨b, rfl, q⟩ := h
  obtain ⟨u, rfl, rx⟩ := vals1 r
  cases (show u = Value.bool b from rx)
  exact PySem.P.repr_of_bool ⟨.str (if b then "True" else "False"), H, I.tok _, ⟨_, rfl⟩, q⟩
end Fp
namespace Fp
open PySem PySem.Spec PyProof.Rows L2
/-! ### what is told is a chain -/
theorem unl_one {r s : Row'} (h : Unl r s) : unlD (rowD r) (rowD s) = 1 := by
  obtain ⟨hl, a, ha, hne, heq⟩ := h
  show ((List.range (r.map lotD).length).filter (neI (r.map lotD) (s.map lotD))).length = 1
  rw [List.length_map]
  have key : ∀ j, j < r.length → (neI (r.map lotD) (s.map lotD) j = true ↔ j = a) := fun j hj => by
    have e1 : r[j]? = some r[j] := List.getElem?_eq_getElem hj
    have e2 : s[j]? = some (s[j]'(by omega)) := List.getElem?_eq_getElem _
    have p1 : pl 2 (lotD r[j]) = true := pl_up (pl_tup.mpr fun d hd => by obtain ⟨i, _, rfl⟩ := List.mem_map.mp hd; rfl)
    have p2 : pl 2 (lotD (s[j]'(by omega))) = true := pl_up (pl_tup.mpr fun d hd => by obtain ⟨i, _, rfl⟩ := List.mem_map.mp hd; rfl)
    unfold neI
    rw [(vwAt_row e1).2, (vwAt_row e2).2, Bool.not_eq_true', ← Bool.not_eq_true, eqv_iff p1 p2]
    constructor
    · intro z
      exact Classical.byContradiction fun c => z (by
        have := heq j c
        rw [e1, e2] at this
        rw [Option.some.inj this])
    · rintro rfl z
      exact hne (by rw [e1, e2, lotD_inj z])
  have nd : ((List.range r.length).filter (neI (r.map lotD) (s.map lotD))).Nodup := List.Pairwise.filter _ List.nodup_range
  have u := nodup_le (m := [a]) nd fun x hx => by
    obtain ⟨h1, h2⟩ := List.mem_filter.mp hx
    exact List.mem_singleton.mpr ((key x (List.mem_range.mp h1)).mp h2)
  have l := nodup_le (l := [a]) (m := (List.range r.length).filter (neI (r.map lotD) (s.map lotD))) (List.nodup_cons.mpr ⟨by simp, List.nodup_nil⟩) fun x hx => by
    rw [List.mem_singleton.mp hx]
    exact List.mem_filter.mpr ⟨List.mem_range.mpr ha, (key a ha).mpr rfl⟩
  rw [List.length_singleton] at u l
  omega
theorem ch_is {n : Nat} (hn : 0 < n) {a b : Row'} {ls : List Row'} (h : ChOk n a b ls) : IsCh n a b (.tup (ls.map rowD)) := by
  refine ⟨_, rfl, fun x hx => ?_, ?_, ?_, fun i hi => ?_⟩
  · obtain ⟨r, hr, rfl⟩ := List.mem_map.mp hx
    exact (rowok_iff hn).mpr (h.ok r hr)
  · cases ls with
    | nil => have := h.head; cases this
    | cons x t =>
      have := h.head
      cases this
      rfl
  · rcases List.eq_nil_or_concat ls with rfl | ⟨l0, z, e⟩
    · have := h.last; cases this
    rw [List.concat_eq_append] at e
    subst e
    have := h.last
    rw [List.getLast?_append] at this
    have ez : z = b := by simpa using this
    subst ez
    rw [List.map_append, List.length_append, List.length_map]
    show (List.map rowD l0 ++ [rowD z]).drop (l0.length + 1 - 1) = _
    rw [Nat.add_sub_cancel, List.drop_left' (by rw [List.length_map])]
  · rw [List.length_map] at hi
    have e1 : ls[i]? = some ls[i] := List.getElem?_eq_getElem (by omega)
    have e2 : ls[i + 1]? = some ls[i + 1] := List.getElem?_eq_getElem hi
    rw [List.getD_eq_getElem?_getD, List.getD_eq_getElem?_getD, List.getElem?_map, List.getElem?_map, e1, e2]
    exact unl_one (h.lnk i _ _ e1 e2)
theorem lot_pb {n : Nat} {r : Row'} (R : RowOk n r) (h5 : n ≤ 5) {l : List Int} (hl : l ∈ r) : pb 1 (lotD l) := by
  obtain ⟨i, hi⟩ := List.mem_iff_getElem?.mp hl
  refine ⟨?_, fun d hd => ?_⟩
  · rw [List.length_map]
    have := nodup_le (m := (List.range n).map fun a : Nat => (a : Int)) (srt_nodup (R.up i l hi)) fun x hx => by
      obtain ⟨h1, h2⟩ := R.rng i l hi x hx
      exact List.mem_map.mpr ⟨x.toNat, List.mem_range.mpr (by omega), by omega⟩
    rw [List.length_map, List.length_range] at this
    omega
  · obtain ⟨i, _, rfl⟩ := List.mem_map.mp hd
    trivial
theorem ch_pb {n : Nat} (h5 : n ≤ 5) {a b : Row'} {ls : List Row'} (h : ChOk n a b ls) (hl : ls.length ≤ 22) : pb 3 (.tup (ls.map rowD)) := by
  refine ⟨by rw [List.length_map]; omega, fun d hd => ?_⟩
  obtain ⟨r, hr, rfl⟩ := List.mem_map.mp hd
  have R := h.ok r hr
  refine ⟨by rw [List.length_map, R.len]; omega, fun e he => ?_⟩
  obtain ⟨l, hl2, rfl⟩ := List.mem_map.mp he
  exact lot_pb R h5 hl2
/-! ### readings of tuples -/
def OddT (σ : L2.St) (H0 : Hp) (m : Nat) (te : TE) : Prop := ∀ (H : Hp) (Q : VK), Same H0 H → (∀ b xs ds H', Same H H' → H' b = some (.tup xs) → DVs H' xs ds → ds.length ≤ m → Q (.ref b) H') → te σ H Q
def PartE (σ : L2.St) (to : TO) : Prop := ∀ (H : Hp) (k : Option Int → Hp → Prop), (∀ o, k o H) → to σ H k
section
variable {σ : L2.St} {H0 : Hp}
theorem part_none : PartE σ tNoPart := fun H k q => q none
theorem part_int (i : Int) : PartE σ (tPart (tC (.int i))) := fun H k q => ⟨i, rfl, q _⟩
theorem part_neg (i : Int) : PartE σ (tPart (tUn (rU fun i => .int (-i)) (tC (.int i)))) := fun H k q => ⟨i, rfl, -i, rfl, q _⟩
theorem part_var {j : Nat} {i : Int} (h : σ[j]? = some (some (.int i))) : PartE σ (tPart (tVar j)) := fun H k q => ⟨_, h, i, rfl, q _⟩
theorem part_add {j : Nat} {i c : Int} (h : σ[j]? = some (some (.int i))) : PartE σ (tPart (tOp (rI0 fun i j => V.int (i + j)) (tVar j) (tC (.int c)))) := fun H k q => ⟨_, h, i, c, rfl, rfl, _, rfl, q _⟩
theorem oddt_var {j : Nat} {a : Addr} {xs : List V} {ds : List Dt} {m : Nat} (h : σ[j]? = some (some (.ref a))) (ha : H0 a = some (.tup xs)) (hd : DVs H0 xs ds) (hm : ds.length ≤ m) : OddT σ H0 m (tVar j) := fun H Q g k =>
  ⟨_, h, k _ _ _ _ (Same.refl _) (g _ _ ha) (hd.same g) hm⟩
theorem oddt_sl {K : PySem.W.Frag} {te : TE} {tl th : TO} {m : Nat} (h : OddT σ H0 m te) (hl : PartE σ tl) (hh : PartE σ th) : OddT σ H0 m (tSl (rSlA K) te tl th) := fun H Q g k => by
  refine h H _ g fun b xs ds H1 g1 hb hd hm => ?_
  refine hl H1 _ fun lo => ?_
  refine hh H1 _ fun hi => ?_
  refine slA_any hb fun c H2 g2 hc => ?_
  obtain ⟨es, e1, e2⟩ := dvs_cut (lo := lo) (hi := hi) (hd.same g2)
  exact k _ _ _ _ (g1.trans g2) hc e1 (by omega)
theorem oddt_cat {K : PySem.W.Frag} {ta tb : TE} {m n : Nat} (h : OddT σ H0 m ta) (g : OddT σ H0 n tb) (hm : m + n ≤ 1000) : OddT σ H0 (m + n) (tOp (rCatA K) ta tb) := fun H Q g0 k => by
  refine h H _ g0 fun b xs ds H1 g1 hb hd hl => ?_
  refine g H1 _ (g0.trans g1) fun c ys es H2 g2 hc he hl2 => ?_
  refine catA_any (g2 _ _ hb) hc (by rw [hd.len, he.len]; omega) fun e H3 g3 hx => ?_
  exact k _ _ _ _ ((g1.trans g2).trans g3) hx ((hd.same (g2.trans g3)).app (he.same g3)) (by rw [List.length_append]; omega)
theorem oddt_rev {K : PySem.W.Frag} {te : TE} {m : Nat} (h : OddT σ H0 m te) : OddT σ H0 m (tRevT K te) := fun H Q g k => by
  refine h H _ g fun b xs ds H1 g1 hb hd hm => ⟨b, xs, rfl, .of hb, fun p np => ?_⟩
  have g2 := same_new np (.tup xs.reverse)
  exact k _ _ _ _ (g1.trans g2) upd_same (hd.same g2).rev (by rw [List.length_reverse]; exact hm)
theorem OddT.s {te : TE} {m : Nat} (h : OddT σ H0 m te) (hm : m ≤ 1000) : OddS σ H0 te := fun H Q g k => by
  refine h H _ g fun b xs ds H1 g1 hb hd hl => k _ _ g1 ⟨_, .tup hb hd (by omega)⟩
theorem odds_var {j : Nat} {v : V} {d : Dt} (h : σ[j]? = some (some v)) (hd : DV H0 v d) : OddS σ H0 (tVar j) := fun H Q g k => ⟨_, h, k _ _ (Same.refl _) ⟨_, hd.same g⟩⟩
theorem odds_tup {n : Nat} {ta : TA} (h : OddSA σ H0 n ta) (hn : n ≤ 1000) : OddS σ H0 (tTup ta) := fun H Q g k => by
  refine h H _ g fun vs H1 g1 hl ⟨ds, dvs⟩ => ⟨szl (by omega), fun p np => ?_⟩
  have g2 := same_new np (.tup vs)
  exact k _ _ (g1.trans g2) ⟨_, .tup upd_same (dvs.same g2) (by rw [← dvs.len]; omega)⟩
theorem odds_list {K : PySem.W.Frag} {te : TE} {m : Nat} (h : OddT σ H0 m te) : OddS σ H0 (tCB (fun xs H Q => ∃ p ys, xs = [V.ref p] ∧ (SqL K H p ys ∨ SqT K H p ys) ∧ ∀ l, H l = none → Q (.ref l) (upd H l (.lst ys))) (tCons te tNil)) := fun H Q g k => by
  refine h H _ g fun b xs ds H1 g1 hb hd hl => ?_
  exact ⟨b, xs, rfl, .inr (.of hb), fun l nl => k _ _ (g1.trans (same_new nl _)) ⟨_, .lst upd_same⟩⟩
end
/-- one, other, many  ->  many, one, other -/
def kwC {α : Type} : List α → List α
  | [a, b, c] => [c, a, b]
  | _ => []
/-- value, other, one, many  ->  many, one, other, value -/
def kwS {α : Type} : List α → List α
  | [a, b, c, d] => [d, c, b, a]
  | _ => []
theorem kwC_rel {zs : List V} {ws : List Value} (h : Vals zs ws) : Vals (kwC zs) (kwC ws) := by
  cases h with
  | nil => exact .nil
  | cons a h => cases h with
    | nil => exact .nil
    | cons b h => cases h with
      | nil => exact .nil
      | cons c h => cases h with
        | nil => exact .cons c (.cons a (.cons b .nil))
        | cons d h => exact .nil
theorem kwS_rel {zs : List V} {ws : List Value} (h : Vals zs ws) : Vals (kwS zs) (kwS ws) := by
  cases h with
  | nil => exact .nil
  | cons a h => cases h with
    | nil => exact .nil
    | cons b h => cases h with
      | nil => exact .nil
      | cons c h => cases h with
        | nil => exact .nil
        | cons d h => cases h with
          | nil => exact .cons d (.cons c (.cons b (.cons a .nil)))
          | cons e h => exact .nil
end Fp
namespace Fp
open PySem PySem.Spec PyProof.Rows L2
def spSWovN (K : PySem.W.Frag) : Sp := fun vs H Q _ => ∃ (o a : Addr) (L : List Addr) (ws : List Nat) (s : LS), vs = [.ref o, .ref a] ∧ StAt H o L s ∧ s.WF ∧ TT H a (natV ws) ∧ (∀ p ∈ ws, p < s.n) ∧ ws.length ≤ 3000 ∧
  ∀ t ys ds H', But L H H' → StAt H' o L (s.woven ws) → H' t = some (.tup ys) → Paired (SD K H') ys ds → (s.woven ws).run = s.run ++ ds → Q (.ref t) H'
def spWvg9 : Sp := fun vs H Q _ => ∃ (pt : Addr) (n k m : Nat), vs = [.ref pt, .int n, .int k] ∧ 1 ≤ n ∧ n ≤ 5 ∧ k ≤ 90 ∧ PotAt H pt m ∧ m < 800000 ∧ ∀ t ws H', But [pt] H H' → PotAt H' pt (m + 200) → H' t = some (.tup (natV ws)) → (∀ p ∈ ws, p < n) → ws.length ≤ 100 → Q (.ref t) H'
theorem StIn.same {H H' : Hp} {o l1 l2 l3 : Addr} {s : LS} {vv : List V} (h : StIn H o l1 l2 l3 s vv) (g : Same H H') : StIn H' o l1 l2 l3 s vv :=
  ⟨g _ _ h.dict, g _ _ h.shown, g _ _ h.looks, g _ _ h.views, pr_imp (fun _ _ => ViewAt.mono (.of g)) h.vwP, h.nd⟩
section
variable {P : Program} {w : World} {K : PySem.W.Frag} {mg : Str → Option Value} {base : Heap} {f : Addr} {fd : FuncData} {C : Addr}
abbrev s_law_fresh : Stmt := top 37
theorem sc_law_fresh : FnScope ["many"] ["many"] (defScope s_law_fresh) := ⟨rfl, rfl, rfl, by decide +kernel, rfl, by decide +kernel, by decide +kernel⟩
theorem ok_law_fresh (F : Fun K "_law_fresh" "_law_fresh" s_law_fresh f fd) : FnOk P w K mg base CX0 1 f fd ["many"] spSFresh := by
  refine F.ok sc_law_fresh (fun vs H Q E h => ?_) (fun cdv A outer s H vs Q E hr h => ?_)
  · obtain ⟨n, rfl, _⟩ := h
    rfl
  obtain ⟨n, rfl, h1, h5, k⟩ := h
  refine ⟨_, (pss_one (ps_ret (pe_disp (pps_cons pe_str (pv 0) (pps_cons pe_str (pe_op op_rep (pe_lst (pa_cons pe_non pa_nil)) (pv 0)) (pps_cons pe_str (pe_op op_rep (pe_lst (pa_cons pe_bl pa_nil)) (pv 0)) (pps_cons pe_str (pe_op op_rep (pe_lst (pa_cons pe_non pa_nil)) (pv 0)) pps_nil)))) (by rfl) (by rfl) (by simp) (by decide)))), ?_⟩
  have rep : ∀ (H1 : Hp) (v : V) (Q1 : V → Hp → Prop), (∀ l H', Same H1 H' → H1 l = none → H' l = some (.lst (List.replicate n v)) → Q1 (.ref l) H') → tOp rRep (tLst (tCons (tC v) tNil)) (tVar 0) [some (.int n)] H1 Q1 := by
    intro H1 v Q1 hq
    refine ⟨szl (by show 1 ≤ _; decide), fun t nt => ⟨_, rfl, t, n, [v], rfl, rfl, upd_same, by omega, by omega, szl (by show 1 * _ ≤ _; omega), fun l nl => ?_⟩⟩
    refine hq l _ ((same_new nt _).trans (same_new nl _)) ((same_new nt _).free nl) ?_
    rw [upd_same]
    simp
  refine fun o no => ⟨_, rfl, ?_⟩
  refine rep _ _ _ fun l1 H1 g1 n1 h1 => rep _ _ _ fun l2 H2 g2 n2 h2 => rep _ _ _ fun l3 H3 g3 n3 h3 => ?_
  have g0 := same_new no (.dK [])
  have ho5 : H3 o = some (.dK []) := g3 _ _ (g2 _ _ (g1 _ _ upd_same))
  refine ⟨ho5, sdict n l1 l2 l3, rfl, by show 4 ≤ 15; decide, ?_⟩
  rw [st_merge]
  have gs : Same H (upd H3 o (.dK (sdict n l1 l2 l3))) := fun a u e => by
    rw [upd_ne (ne_of_none e no)]; exact g3 _ _ (g2 _ _ (g1 _ _ (g0 _ _ e)))
  have ol : ∀ {l : Addr} {xs : List V}, H3 l = some (.lst xs) → l ≠ o := fun h z => by rw [z, ho5] at h; cases h
  have a1 := g3 _ _ (g2 _ _ h1)
  have a2 := g3 _ _ h2
  have m2 : H l2 = none := g0.free (g1.free n2)
  have m3 : H l3 = none := g0.free (g1.free (g2.free n3))
  have d12 : l1 ≠ l2 := ne_of_none h1 n2
  have d13 : l1 ≠ l3 := ne_of_none (g2 _ _ h1) n3
  have d23 : l2 ≠ l3 := ne_of_none h2 n3
  have hn : (LS.new n).n = n := by simp [LS.new, LS.n]
  refine k o [o, l1, l2, l3] _ gs (fun x hx => ?_) ⟨l1, l2, l3, List.replicate n .non, rfl, by rw [upd_same, hn], ?_, ?_, by rw [upd_ne (ol h3)]; exact h3, pr_rep (show ViewAt _ .non none from rfl) n, ?_⟩
  · simp only [List.mem_cons, List.not_mem_nil, or_false] at hx
    rcases hx with rfl | rfl | rfl | rfl
    · exact no
    · exact g0.free n1
    · exact m2
    · exact m3
  · rw [upd_ne (ol a1), a1]; show _ = some (HO.lst ((List.replicate n (none : Lv)).map lvV)); rw [List.map_replicate]; rfl
  · rw [upd_ne (ol a2), a2]; show _ = some (HO.lst ((List.replicate n false).map V.bl)); rw [List.map_replicate]
  · simp only [List.nodup_cons, List.mem_cons, List.not_mem_nil, or_false, not_or, not_false_eq_true, List.nodup_nil, and_true]
    exact ⟨⟨(ol a1).symm, (ol a2).symm, (ol h3).symm⟩, ⟨d12, d13⟩, d23⟩
abbrev s_law_next : Stmt := top 38
theorem sc_law_next : FnScope ["stair", "hand", "shown"] ["stair", "hand"] (defScope s_law_next) := ⟨rfl, rfl, rfl, by decide +kernel, rfl, by decide +kernel, by decide +kernel⟩
theorem ok_law_next (F : Fun K "_law_next" "_law_next" s_law_next f fd) : FnOk P w K mg base CX0 1 f fd ["stair", "hand"] spSNext := by
  refine F.ok sc_law_next (fun vs H Q E h => ?_) (fun cdv A outer s0 H vs Q E hr h => ?_)
  · obtain ⟨o, L, p, s, rfl, _⟩ := h
    rfl
  obtain ⟨o, L, p, s, rfl, hS, W, hp, k⟩ := h
  refine ⟨_, (pss_cons (ps_if (pt_cmpR op_notN (pe_ix ix_list (pe_dget (hu_of hr) (pv 0) pe_str (fun _ _ => rfl)) (pv 1) (fun _ _ => rfl)) pe_non (nomark _)) (pss_one (ps_ret pe_non)) pss_nil)
  (pss_cons (ps_set (i := 2) sc_law_next.nd rfl (Or.inl rfl) (pe_ix ix_list (pe_dget (hu_of hr) (pv 0) pe_str (fun _ _ => rfl)) (pv 1) (fun _ _ => rfl)))
  (pss_one (ps_ret (pe_ifExp (pt_val (pe_ix ix_list (pe_dget (hu_of hr) (pv 0) pe_str (fun _ _ => rfl)) (pv 1) (fun _ _ => rfl))) (pe_tup (pa_cons pe_str pa_nil)) (pe_tup (pa_cons pe_str (pa_cons (pe_op op_sub (pe_ifExp (pt_cmpR op_isN (pv 2) pe_non (nomark _)) (pe_op op_add (pe_dget (hu_of hr) (pv 0) pe_str (fun _ _ => rfl)) pe_int) (pv 2)) pe_int) pa_nil)))))))), ?_⟩
  obtain ⟨l1, l2, l3, vv, rfl, D⟩ := hS
  obtain ⟨xv, hxv, ov⟩ := pr_at D.vwP (show s.vw[p]? = some (s.vi p) from getD_at (by rw [W.lw]; exact hp))
  refine ⟨_, rfl, o, _, rfl, sg_views D.dict, _, rfl, l3, _, _, _, rfl, rfl, .of D.views, atI_nat hxv, rfl, _, rfl, ?_⟩
  rw [ov.is]
  unfold LS.next at k
  cases hv : s.vi p with
  | some v => rw [hv] at k; exact iteT (k _ _ (.refl _) rfl)
  | none =>
    rw [hv] at k
    refine iteF ?_
    have hlev : (s.lev.map lvV)[p]? = some (lvV (s.lv p)) := by rw [List.getElem?_map, show s.lev[p]? = some (s.lv p) from getD_at hp]; rfl
    refine ⟨_, rfl, o, _, rfl, sg_shown D.dict, _, rfl, l1, _, _, _, rfl, rfl, .of D.shown, atI_nat hlev, ?_⟩
    have hlk : (s.lk.map V.bl)[p]? = some (.bl (s.lo p)) := by
      have hl : p < s.lk.length := by rw [W.ll]; exact hp
      rw [List.getElem?_map, List.getElem?_eq_getElem hl]
      unfold LS.lo
      rw [List.getD_eq_getElem?_getD, List.getElem?_eq_getElem hl]; rfl
    refine ⟨_, rfl, o, _, rfl, sg_looks D.dict, _, rfl, l2, _, _, _, rfl, rfl, .of D.looks, atI_nat hlk, _, rfl, ?_⟩
    cases hk : s.lo p with
    | true =>
      rw [hk] at k
      refine iteT ⟨szl (by show 1 ≤ _; decide), fun t nt => ?_⟩
      exact k _ _ (same_new nt _) ⟨t, rfl, upd_same⟩
    | false =>
      rw [hk] at k
      refine iteF ?_
      refine ⟨_, rfl, rfl, _, rfl, ?_⟩
      cases hl : s.lv p with
      | none =>
        rw [hl] at k
        refine iteT ⟨_, rfl, o, _, rfl, sg_many D.dict, _, _, rfl, rfl, _, _, rfl, rfl, szl (by show 2 ≤ _; decide), fun t nt => ?_⟩
        refine k _ _ (same_new nt _) ⟨t, rfl, ?_⟩
        rw [upd_same]
        show some (HO.tup [.str "write", .int (((s.n : Nat) : Int) + 1 - 1)]) = some (HO.tup [.str "write", .int (s.n : Nat)])
        rw [show ((s.n : Nat) : Int) + 1 - 1 = (s.n : Nat) by omega]
      | some x =>
        rw [hl] at k
        refine iteF ⟨_, rfl, _, _, rfl, rfl, szl (by show 2 ≤ _; decide), fun t nt => ?_⟩
        exact k _ _ (same_new nt _) ⟨t, rfl, upd_same⟩
abbrev s_law_step : Stmt := top 39
theorem sc_law_step : FnScope ["stair", "hand", "kind", "shown", "below", "at", "level"] ["stair", "hand"] (defScope s_law_step) := ⟨rfl, rfl, rfl, by decide +kernel, rfl, by decide +kernel, by decide +kernel⟩
theorem ok_law_step (F : Fun K "_law_step" "_law_step" s_law_step f fd) (T : RTx mg) (G_law_next : Fd P w K mg base CX0 "_law_next" 1 ["stair", "hand"] spSNext) : FnOk P w K mg base CX0 2 f fd ["stair", "hand"] (spSStep K) := by
  refine F.ok sc_law_step (fun vs H Q E h => ?_) (fun cdv A outer s0 H vs Q E hr h => ?_)
  · obtain ⟨o, L, p, s, rfl, _⟩ := h
    rfl
  obtain ⟨o, L, p, s, rfl, hS, W, hp, hnx, k⟩ := h
  refine ⟨_, (pss_cons (ps_asg (pe_tup (pa_cons (pe_ix ix_tup (pe_fd G_law_next (hr.mono (by first | decide | omega)) rfl (pa_cons (pv 0) (pa_cons (pv 1) pa_nil))) pe_int (fun _ _ => rfl)) (pa_cons (pe_dget (hu_of hr) (pv 0) pe_str (fun _ _ => rfl)) pa_nil))) (pg_tup rfl (pgs_cons (pg_name (i := 2) sc_law_step.nd rfl (Or.inl rfl)) (pgs_cons (pg_name (i := 3) sc_law_step.nd rfl (Or.inr rfl)) pgs_nil))))
  (pss_cons (ps_if (pt_cmpR op_eq (pv 2) pe_str (nomark _)) (pss_cons (ps_asg (pe_ix ix_tup (pe_fd G_law_next (hr.mono (by first | decide | omega)) rfl (pa_cons (pv 0) (pa_cons (pv 1) pa_nil))) pe_int (fun _ _ => rfl)) (pg_sub (pv 3) (pv 1) set_list))
  (pss_cons (ps_asg pe_bl (pg_sub (pe_dget (hu_of hr) (pv 0) pe_str (fun _ _ => rfl)) (pv 1) set_list))
  (pss_one (ps_ret (pe_tup (pa_cons (pv 1) (pa_cons pe_str (pa_cons (pe_ix ix_listK (pv 3) (pv 1) (fun _ _ => rfl)) pa_nil)))))))) pss_nil)
  (pss_cons (ps_set (i := 4) sc_law_step.nd rfl (Or.inl rfl) (pe_callTy call_tuple_of rfl T.tuple (by decide +kernel) (pa_cons (pe_lc (own := [("at", 5), ("level", 6)]) (g := (gTup K 2 (gCons (gName 5) (gCons (gName 6) gNil))))  rfl sc_law_step.nd (pi_enum rfl T.enumerate (pa_cons (pv 3) pa_nil)) (blkOk_by (own := [("at", 5), ("level", 6)]) (N := ["stair", "hand", "kind", "shown", "below", "at", "level"]) (sc := defScope s_law_step) (by decide +kernel)) (fun _ _ _ _ _ => (pg_tup rfl (pgs_cons (pg_name (i := 5) sc_law_step.nd rfl (Or.inl rfl)) (pgs_cons (pg_name (i := 6) sc_law_step.nd rfl (Or.inl rfl)) pgs_nil)))) (fun _ _ _ _ _ => (pts_one (PW.pt (pw_and (pt_cmpR op_notN (pv 6) pe_non (nomark _)) (pw_and1 (pt_cmpR op_le (pv 6) (pe_ix ix_listK (pv 3) (pv 1) (fun _ _ => rfl)) (nomark _))))))) (fun _ _ _ _ _ => (pv 5))) pa_nil)))
  (pss_cons (ps_asg pe_bl (pg_sub (pe_dget (hu_of hr) (pv 0) pe_str (fun _ _ => rfl)) (pv 1) set_list))
  (pss_cons (ps_if (pt_cmpR op_ge (pe_callB call_len rfl T.len (by decide +kernel) (pa_cons (pv 4) pa_nil)) (pe_ix ix_listK (pv 3) (pv 1) (fun _ _ => rfl)) (nomark _)) (pss_one (ps_asg (pv 4) (pg_sub (pe_dget (hu_of hr) (pv 0) pe_str (fun _ _ => rfl)) (pv 1) set_list))) pss_nil)
  (pss_one (ps_ret (pe_tup (pa_cons (pv 1) (pa_cons pe_str (pa_cons (pe_callTy call_tuple_of rfl T.tuple (by decide +kernel) (pa_cons (pv 3) pa_nil)) pa_nil))))))))))), ?_⟩
  obtain ⟨l1, l2, l3, vv, rfl, D⟩ := hS
  have nd := D.nd
  simp only [List.nodup_cons, List.mem_cons, List.not_mem_nil, or_false, not_or, not_false_eq_true, List.nodup_nil, and_true] at nd
  obtain ⟨⟨o1, o2, o3⟩, ⟨d12, d13⟩, d23⟩ := nd
  have n5 := W.n5
  have hvl : vv.length = s.n := by rw [pr_len D.vwP, W.lw]
  have hvi : s.vi p = none := Classical.byContradiction fun z => hnx (LS.next_none.mpr z)
  have hkl : p < s.lk.length := by rw [W.ll]; exact hp
  refine ⟨_, rfl, _, rfl, o, _, p, s, rfl, ⟨l1, l2, l3, vv, rfl, D⟩, W, hp, fun y H1 g1 hy => ?_⟩
  obtain ⟨du, hdu⟩ : ∃ du, s.next p = some du := by
    cases q : s.next p with
    | none => exact absurd q hnx
    | some du => exact ⟨du, rfl⟩
  rw [hdu] at hy
  cases du with
  | wr l =>
    have estep : s.step p = s.wrote p l := by simp only [LS.step, hdu]
    obtain ⟨ty, rfl, hty⟩ := hy
    have D1 := D.same g1
    refine ⟨ty, _, _, _, rfl, rfl, .of hty, atI_nat (j := 0) rfl, _, rfl, o, _, rfl, sg_shown D1.dict, szl (by show 2 ≤ _; decide), fun tt ntt => ?_⟩
    have g2 := same_new ntt (.tup [.str "write", .ref l1])
    refine ⟨tt, _, rfl, .of upd_same, rfl, _, _, rfl, _, _, rfl, rfl, ?_⟩
    refine ⟨_, rfl, rfl, _, rfl, iteT ?_⟩
    refine ⟨_, rfl, _, rfl, o, _, p, s, rfl, ⟨l1, l2, l3, vv, rfl, D1.same g2⟩, W, hp, fun y H3 g3 hy => ?_⟩
    rw [hdu] at hy
    obtain ⟨ty2, rfl, hty2⟩ := hy
    have D3 := (D1.same g2).same g3
    refine ⟨ty2, _, _, _, rfl, rfl, .of hty2, atI_nat (j := 1) rfl, _, rfl, _, rfl, l1, _, p, p, rfl, rfl, D3.shown, ixn (by rw [List.length_map]; exact hp), ?_⟩
    have e1 : upd H3 l1 (.lst ((s.lev.map lvV).set p (.int l))) l1 = some (.lst ((s.lev.map lvV).set p (.int l))) := upd_same
    refine ⟨_, rfl, o, _, rfl, sg_looks (by rw [upd_ne o1]; exact D3.dict), _, rfl, l2, _, p, p, rfl, rfl, by rw [upd_ne (Ne.symm d12)]; exact D3.looks, ixn (by rw [List.length_map]; exact hkl), ?_⟩
    refine ⟨_, rfl, _, rfl, _, rfl, l1, _, _, .int l, rfl, rfl, .of (by rw [upd_ne d12]; exact e1), atI_nat (by rw [List.getElem?_set, if_pos rfl, if_pos (by rw [List.length_map]; exact hp)]), szl (by show 3 ≤ _; decide), fun t nt => ?_⟩
    have gt := same_new nt (.tup [.int (p : Nat), .str "write", .int l])
    have b0 : But [o, l1, l2, l3] H H3 := .of ((g1.trans g2).trans g3)
    have tk1 := TK.put (u := .lst ((s.lev.map lvV).set p (.int l))) D3.shown (fun z => z)
    have tk2 := TK.put (H := upd H3 l1 (.lst ((s.lev.map lvV).set p (.int l)))) (o := .lst (s.lk.map V.bl)) (u := .lst ((s.lk.map V.bl).set p (.bl true))) (by rw [upd_ne (Ne.symm d12)]; exact D3.looks) (fun z => z)
    have b2 := (b0.put (p := l1) (o := .lst ((s.lev.map lvV).set p (.int l))) (by simp)).put (p := l2) (o := .lst ((s.lk.map V.bl).set p (.bl true))) (by simp)
    refine k t _ _ (b2.trans (.of gt)) (StAt.same ⟨l1, l2, l3, vv, rfl, ?_⟩ gt) (by rw [estep]; rfl) (fun H' g => .tup (.of (g.t upd_same)) (.cons (.int _) (.cons (.str _) (.cons (.int _) .nil))))
    have en : (s.step p).n = s.n := LS.n_step
    rw [estep] at en ⊢
    refine ⟨by rw [upd_ne o2, upd_ne o1, en]; exact D3.dict, ?_, ?_, by rw [upd_ne (Ne.symm d23), upd_ne (Ne.symm d13)]; exact D3.views, pr_imp (fun _ _ => ViewAt.mono (tk1.trans tk2)) D3.vwP, D.nd⟩
    · rw [upd_ne d12, upd_same]; show _ = some (HO.lst ((s.lev.set p (some l)).map lvV)); rw [List.map_set]; rfl
    · rw [upd_same]; show _ = some (HO.lst ((s.lk.set p true).map V.bl)); rw [List.map_set]
  | look =>
    have estep : s.step p = s.looked p := by simp only [LS.step, hdu]
    obtain ⟨ty, rfl, hty⟩ := hy
    have D1 := D.same g1
    have hlo : s.lo p = true := by
      unfold LS.next at hdu
      rw [hvi] at hdu
      cases q : s.lo p with
      | true => rfl
      | false => rw [q] at hdu; cases hdu
    obtain ⟨x, hx⟩ : ∃ x, s.lv p = some x := by
      cases q : s.lv p with
      | none => exact absurd q (W.lkl p hlo)
      | some x => exact ⟨x, rfl⟩
    have ho : s.own p = x := by unfold LS.own; rw [hx]; rfl
    have hlev : (s.lev.map lvV)[p]? = some (.int x) := by rw [List.getElem?_map, show s.lev[p]? = some (s.lv p) from getD_at hp, hx]; rfl
    refine ⟨ty, _, _, _, rfl, rfl, .of hty, atI_nat (j := 0) rfl, _, rfl, o, _, rfl, sg_shown D1.dict, szl (by show 2 ≤ _; decide), fun tt ntt => ?_⟩
    have g2 := same_new ntt (.tup [.str "look", .ref l1])
    refine ⟨tt, _, rfl, .of upd_same, rfl, _, _, rfl, _, _, rfl, rfl, ?_⟩
    refine ⟨_, rfl, rfl, _, rfl, iteF ?_⟩
    have D2 := D1.same g2
    refine ⟨_, rfl, l1, _, rfl, .of D2.shown, fun D0 hD0 => ?_⟩
    have hll : (s.lev.map lvV).length = s.n := by rw [List.length_map]; rfl
    refine lc_it (walk_enum (xs := s.lev.map lvV)) (fun i H' => Same _ H' ∧ H' D0 = some (.lst (natV ((List.range i).filter fun q => LS.le (s.lv q) x)))) ⟨same_new hD0 _, upd_same⟩ (fun i H' _ z => .of (z.1 _ _ D2.shown)) ?_ ?_
    · rintro i y0 H3 H4 hi ⟨g3, h3⟩ ⟨T', i0, y, rfl, hT, rfl, ei, hy⟩
      cases ei
      have hi' : i < s.n := by rw [← hll]; exact hi
      have hy : (s.lev.map lvV)[i]? = some y := hy
      have ey : y = lvV (s.lv i) := by
        rw [List.getElem?_map, show s.lev[i]? = some (s.lv i) from getD_at hi'] at hy
        exact (Option.some.inj hy).symm
      subst ey
      have g4 := same_new hT (.tup [.int (i : Nat), lvV (s.lv i)])
      refine ⟨T', _, rfl, .of upd_same, rfl, _, _, rfl, _, _, rfl, rfl, rfl, ?_⟩
      have es : List.range (i + 1) = List.range i ++ [i] := List.range_succ
      have no : LS.le (s.lv i) x = false → Same _ (upd H3 T' (.tup [.int (i : Nat), lvV (s.lv i)])) ∧ upd H3 T' (.tup [.int (i : Nat), lvV (s.lv i)]) D0 = some (.lst (natV ((List.range (i + 1)).filter fun q => LS.le (s.lv q) x))) := fun z => by
        refine ⟨g3.trans g4, ?_⟩
        rw [es, List.filter_append]
        simp only [List.filter_cons, z, List.filter_nil, List.append_nil, Bool.false_eq_true, if_false]
        exact g4 _ _ h3
      refine ⟨_, rfl, rfl, _, rfl, ?_⟩
      cases hli : s.lv i with
      | none =>
        refine ite_no rfl ?_
        have := no (by rw [hli]; rfl)
        rw [hli] at this; exact this
      | some z =>
        rw [hli] at no g4
        refine ite_yes rfl ⟨_, rfl, _, rfl, _, rfl, l1, _, _, _, rfl, rfl, .of (g4 _ _ (g3 _ _ D2.shown)), atI_nat hlev, _, _, rfl, rfl, _, rfl, ?_⟩
        refine ite2 (fun w => ?_) (fun w => ?_)
        · refine ⟨_, rfl, _, g4 _ _ h3, szt ?_, fun o u hq => ?_, ?_⟩
          · unfold natV
            rw [List.length_map]
            have := List.length_filter_le (fun q => LS.le (s.lv q) x) (List.range i)
            rw [List.length_range] at this
            omega
          · rw [upd_ne (ne_of_none hq hD0)]; exact g4 _ _ (g3 _ _ hq)
          · rw [upd_same, es, List.filter_append]
            have wl : LS.le (s.lv i) x = true := by rw [hli]; exact w
            simp only [List.filter_cons, wl, if_true, List.filter_nil]
            unfold natV
            rw [List.map_append]
            rfl
        · have wl : LS.le (some z) x = false := by
            show decide (z ≤ x) = false
            simpa using w
          exact no wl
    rintro H3 ⟨g3, h3⟩
    rw [hll] at h3
    have h3 : H3 D0 = some (.lst (natV (s.below x))) := h3
    refine ⟨D0, _, rfl, .inl ⟨.of h3, fun bt nbt => ?_⟩⟩
    have gb := same_new nbt (.tup (natV (s.below x)))
    have hbt : upd H3 bt (.tup (natV (s.below x))) bt = some (.tup (natV (s.below x))) := upd_same
    have D4 := (D2.same g3).same gb
    have b4 : But [o, l1, l2, l3] H (upd H3 bt (.tup (natV (s.below x)))) := .of (((g1.trans g2).trans g3).trans gb)
    generalize upd H3 bt (.tup (natV (s.below x))) = H4 at hbt D4 b4
    refine ⟨_, rfl, o, _, rfl, sg_looks D4.dict, _, rfl, l2, _, p, p, rfl, rfl, D4.looks, ixn (by rw [List.length_map]; exact hkl), ?_⟩
    have tk5 := TK.put (u := .lst ((s.lk.map V.bl).set p (.bl false))) D4.looks (fun z => z)
    have b5 := b4.put (p := l2) (o := .lst ((s.lk.map V.bl).set p (.bl false))) (by simp)
    have e5 : upd H4 l2 (.lst ((s.lk.map V.bl).set p (.bl false))) l2 = some (.lst ((s.lk.map V.bl).set p (.bl false))) := upd_same
    have c5 : ∀ {l : Addr} {u : HO}, l ≠ l2 → H4 l = some u → upd H4 l2 (.lst ((s.lk.map V.bl).set p (.bl false))) l = some u := fun ne h => by rw [upd_ne ne]; exact h
    have f5 := c5 o2 D4.dict
    have s5 := c5 d12 D4.shown
    have v5 := c5 (Ne.symm d23) D4.views
    have w5 := pr_imp (fun _ _ => ViewAt.mono tk5) D4.vwP
    have t5 := tk5.t hbt
    generalize upd H4 l2 (.lst ((s.lk.map V.bl).set p (.bl false))) = H5 at tk5 b5 e5 f5 s5 v5 w5 t5
    refine ⟨_, rfl, _, (s.below x).length, rfl, (show LenV K (.ref bt) H5 (s.below x).length from .inr ⟨_, .of t5, (natL _).symm⟩), _, rfl, _, rfl, l1, _, _, _, rfl, rfl, .of s5, atI_nat hlev, _, _, rfl, rfl, _, rfl, ?_⟩
    have en : (s.step p).n = s.n := LS.n_step
    -- the end: views told
    have fin : ∀ (vv' : List V) (H6 : Hp), But [o, l1, l2, l3] H H6 → H6 o = some (.dK (sdict (s.n : Nat) l1 l2 l3)) → H6 l1 = some (.lst (s.lev.map lvV)) → H6 l2 = some (.lst ((s.lk.map V.bl).set p (.bl false))) → H6 l3 = some (.lst vv') → Paired (ViewAt H6) vv' (s.vw.set p (s.seen p)) → ∀ σ : L2.St, σ[1]? = some (some (.int (p : Nat))) → σ[3]? = some (some (.ref l1)) → True := fun _ _ _ _ _ _ _ _ _ _ _ => trivial
    clear fin
    have fin : ∀ (vv' : List V) (H6 : Hp) (r t : Addr), But [o, l1, l2, l3] H H6 → H6 o = some (.dK (sdict (s.n : Nat) l1 l2 l3)) → H6 l1 = some (.lst (s.lev.map lvV)) → H6 l2 = some (.lst ((s.lk.map V.bl).set p (.bl false))) → H6 l3 = some (.lst vv') → Paired (ViewAt H6) vv' (s.vw.set p (s.seen p)) → H6 r = none → upd H6 r (.tup (s.lev.map lvV)) t = none → Q (.ref t) (upd (upd H6 r (.tup (s.lev.map lvV))) t (.tup [.int (p : Nat), .str "look", .ref r])) := by
      intro vv' H6 r t b6 f6 s6 k6 v6 w6 nr nt
      have gr := same_new nr (.tup (s.lev.map lvV))
      have gt := same_new nt (.tup [.int (p : Nat), .str "look", .ref r])
      have hr' : upd (upd H6 r (.tup (s.lev.map lvV))) t (.tup [.int (p : Nat), .str "look", .ref r]) r = some (.tup (s.lev.map lvV)) := gt _ _ upd_same
      refine k t _ _ (b6.trans (.of (gr.trans gt))) (StAt.same ⟨l1, l2, l3, vv', rfl, ?_⟩ (gr.trans gt)) (by rw [estep]; rfl) (fun H' g => .tup (.of (g.t upd_same)) (.cons (.int _) (.cons (.str _) (.cons (.tup (.of (g.t hr')) (lv_dp s.lev)) .nil))))
      rw [estep] at en ⊢
      refine ⟨by rw [en]; exact f6, s6, ?_, v6, w6, D.nd⟩
      rw [k6]; show _ = some (HO.lst ((s.lk.set p false).map V.bl)); rw [List.map_set]
    have hseen : s.seen p = if x ≤ (s.below x).length then some (s.below x) else none := by unfold LS.seen; rw [ho]
    refine ite2 (fun z => ?_) (fun z => ?_)
    · have z' := of_decide_eq_true z
      rw [if_pos (by omega)] at hseen
      refine ⟨_, rfl, _, rfl, o, _, rfl, sg_views f5, _, rfl, l3, _, p, p, rfl, rfl, v5, ixn (by rw [hvl]; exact hp), ?_⟩
      have tk6 := TK.put (u := .lst (vv.set p (.ref bt))) v5 (fun z => z)
      refine ⟨_, rfl, _, rfl, l1, _, rfl, .inl ⟨.of (by rw [upd_ne d13]; exact s5), fun r nr => ?_⟩⟩
      refine ⟨szl (by show 3 ≤ _; decide), fun t nt => ?_⟩
      refine fin (vv.set p (.ref bt)) _ r t (b5.put (by simp)) (by rw [upd_ne o3]; exact f5) (by rw [upd_ne d13]; exact s5) (by rw [upd_ne d23]; exact e5) upd_same ?_ nr nt
      rw [hseen]
      exact pr_set (show ViewAt _ (.ref bt) (some (s.below x)) from ⟨bt, rfl, tk6.tt (.inl t5)⟩) p (pr_imp (fun _ _ => ViewAt.mono tk6) w5)
    · have z' : ¬ (x ≤ (s.below x).length) := fun y => z (decide_eq_true (by omega))
      rw [if_neg z'] at hseen
      refine ⟨_, rfl, _, rfl, l1, _, rfl, .inl ⟨.of s5, fun r nr => ?_⟩⟩
      refine ⟨szl (by show 3 ≤ _; decide), fun t nt => ?_⟩
      refine fin vv H5 r t b5 f5 s5 e5 v5 ?_ nr nt
      rw [hseen, LS.set_same W hp hvi]
      exact w5
abbrev s_law_woven : Stmt := top 40
theorem sc_law_woven : FnScope ["stair", "weaving", "found", "hand"] ["stair", "weaving"] (defScope s_law_woven) := ⟨rfl, rfl, rfl, by decide +kernel, rfl, by decide +kernel, by decide +kernel⟩
theorem ok_law_woven (F : Fun K "_law_woven" "_law_woven" s_law_woven f fd) (T : RTx mg) (G_law_next : Fd P w K mg base CX0 "_law_next" 1 ["stair", "hand"] spSNext) (G_law_step : Fd P w K mg base CX0 "_law_step" 2 ["stair", "hand"] (spSStep K)) : FnOk P w K mg base CX0 3 f fd ["stair", "weaving"] (spSWovN K) := by
  refine F.ok sc_law_woven (fun vs H Q E h => ?_) (fun cdv A outer s0 H vs Q E hr h => ?_)
  · obtain ⟨o, a, L, ws, s, rfl, _⟩ := h
    rfl
  obtain ⟨o, a, L, ws, s, rfl, hS, W, ha, hws, hwl, k⟩ := h
  refine ⟨_, (pss_cons (ps_set (i := 2) sc_law_woven.nd rfl (Or.inl rfl) (pe_lst pa_nil))
  (pss_cons (ps_for PassesOwn.never rfl (pi_tup (pv 1)) (pg_name (i := 3) sc_law_woven.nd rfl (Or.inl rfl)) (pss_one (ps_expr (pe_bm PySem.F.plainAttrs_list PySem.F.slot_list_extend PySem.F.type_list_extend mt_extend (pv 2) (pa_cons (pe_ifExp (pt_cmpR op_notN (pe_fd G_law_next (hr.mono (by first | decide | omega)) rfl (pa_cons (pv 0) (pa_cons (pv 3) pa_nil))) pe_non (nomark _)) (pe_lst (pa_cons (pe_fd G_law_step (hr.mono (by first | decide | omega)) rfl (pa_cons (pv 0) (pa_cons (pv 3) pa_nil))) pa_nil)) (pe_lst pa_nil)) pa_nil)))))
  (pss_one (ps_ret (pe_callTy call_tuple_of rfl T.tuple (by decide +kernel) (pa_cons (pv 2) pa_nil)))))), ?_⟩
  have hx : ∀ x ∈ L, ∃ u, H x = some u := fun x hx => by
    rcases hS.kind x hx with ⟨xs, e⟩ | ⟨xs, e⟩ <;> exact ⟨_, e⟩
  refine ⟨szl (by decide), fun A0 nA => ?_⟩
  have g0 := same_new nA (.lst [])
  have A0L : A0 ∉ L := fun m => by obtain ⟨u, e⟩ := hx A0 m; rw [nA] at e; cases e
  have tkS : ∀ {H'}, But L H H' → TK H H' := fun g => hS.tk g
  refine ⟨_, rfl, a, rfl, ⟨_, ((TK.of g0).tt ha).sq⟩, ?_⟩
  refine for_tup (K := K) (a := a) (xs := natV ws) (fun i σ H' => ∃ u3, σ = [some (.ref o), some (.ref a), some (.ref A0), u3] ∧ But L H H' ∧ StAt H' o L (s.woven (ws.take i)) ∧ ∃ acc ds, H' A0 = some (.lst acc) ∧ acc.length ≤ i ∧ Paired (SD K H') acc ds ∧ (s.woven (ws.take i)).run = s.run ++ ds)
    ⟨_, rfl, .of g0, hS.same g0, [], [], upd_same, Nat.le_refl _, .nil, by simp [LS.woven]⟩ (fun i σ H' _ z => by obtain ⟨_, _, b1, _⟩ := z; exact ((tkS b1).tt ha).sq) ?_ ?_
  · rintro i x σ H' hx' ⟨u3, rfl, b1, Si, acc, ds, hA, hl, hp, er⟩
    obtain ⟨p, hpp, rfl⟩ := natV_get hx'
    have hi := get_lt hpp
    have hps : p < s.n := hws p (List.mem_of_getElem? hpp)
    have Wi : (s.woven (ws.take i)).WF := LS.wf_woven W fun q hq => hws q (List.mem_of_mem_take hq)
    have hpn : p < (s.woven (ws.take i)).n := by rw [LS.n_woven]; exact hps
    have es : s.woven (ws.take (i + 1)) = (s.woven (ws.take i)).step p := by rw [List.take_succ, hpp]; exact LS.woven_snoc _ _
    rw [es]
    have put : ∀ {H2 : Hp} {s2 : LS} {xs ys : List V}, StAt H2 o L s2 → H2 A0 = some (.lst xs) → StAt (upd H2 A0 (.lst ys)) o L s2 := fun S2 e =>
      S2.but (S := [A0]) ((But.refl _ _).put (by simp)) (fun x hx => by rw [List.mem_singleton.mp hx]; exact A0L) (TK.put e fun z => z)
    have bput : ∀ {H2 : Hp} {ys : List V}, But L H H2 → But L H (upd H2 A0 (.lst ys)) := fun b c u hc q => by rw [upd_ne (ne_of_none q nA)]; exact b c u hc q
    refine ⟨_, rfl, .inl ⟨rfl, _, .of hA⟩, _, rfl, _, rfl, o, L, p, _, rfl, Si, Wi, hpn, fun y H1 g1 hy => ⟨rfl, _, rfl, ?_⟩⟩
    have S1 := Si.same g1
    have hA1 := g1 _ _ hA
    have hp1 := SDs.mono hp (.of g1)
    cases hn : (s.woven (ws.take i)).next p with
    | none =>
      rw [hn] at hy
      rw [show y = .non from hy]
      refine ite_no rfl ⟨szl (by decide), fun lt nl => ⟨A0, lt, acc, [], rfl, rfl, same_new nl _ _ _ hA1, upd_same, szl (by rw [List.length_nil]; omega), ?_⟩⟩
      rw [LS.step_none hn]
      have gl := same_new nl (.lst [])
      have tk := TK.put (u := .lst (acc ++ [])) (gl _ _ hA1) (fun z => z)
      exact ⟨_, rfl, bput ((b1.trans (.of g1)).trans (.of gl)), put (S1.same gl) (gl _ _ hA1), acc, ds, by rw [upd_same, List.append_nil], by omega, SDs.mono (SDs.mono hp1 (.of gl)) tk, er⟩
    | some du =>
      have hne : (s.woven (ws.take i)).next p ≠ none := by rw [hn]; simp
      have hyn : (!decide (y = .non)) = true := by
        rw [hn] at hy
        cases du with
        | wr l => obtain ⟨t, rfl, _⟩ := hy; rfl
        | look => obtain ⟨t, rfl, _⟩ := hy; rfl
      refine ite_yes hyn ?_
      refine ⟨_, rfl, _, rfl, o, L, p, _, rfl, S1, Wi, hpn, hne, fun t dd H2 b2 S2 er2 sd2 => ⟨szl (by show 1 ≤ _; decide), fun lt nl => ?_⟩⟩
      have gl := same_new nl (.lst [.ref t])
      have hA2 := gl _ _ (b2.at hA1 A0L)
      refine ⟨A0, lt, acc, [.ref t], rfl, rfl, hA2, upd_same, szl (by show acc.length + 1 ≤ _; omega), ?_⟩
      have tk : TK H1 H2 := S1.tk b2
      have tk2 := TK.put (u := .lst (acc ++ [.ref t])) hA2 (fun z => z)
      have tk3 := (TK.of gl).trans tk2
      exact ⟨_, rfl, bput (((b1.trans (.of g1)).trans b2).trans (.of gl)), put (S2.same gl) hA2, acc ++ [.ref t], ds ++ [dd], upd_same, by rw [List.length_append]; exact Nat.succ_le_succ hl, SDs.mono (pr_snoc sd2 (SDs.mono hp1 tk)) tk3, by rw [er2, er, List.append_assoc]⟩
  · rintro σ H' ⟨u3, rfl, b1, Si, acc, ds, hA, hl, hp, er⟩
    rw [natL] at Si hl er
    rw [List.take_length] at Si er
    refine ⟨_, rfl, A0, _, rfl, .inl ⟨.of hA, fun t nt => ?_⟩⟩
    have gt := same_new nt (.tup acc)
    exact k t acc ds _ (b1.trans (.of gt)) (Si.same gt) upd_same (SDs.mono hp (.of gt)) er
abbrev s_law_weaving : Stmt := top 41
theorem sc_law_weaving : FnScope ["pot", "many", "steps", "pool", "found", "lap", "hand", "times"] ["pot", "many", "steps"] (defScope s_law_weaving) := ⟨rfl, rfl, rfl, by decide +kernel, rfl, by decide +kernel, by decide +kernel⟩
theorem ok_law_weaving (F : Fun K "_law_weaving" "_law_weaving" s_law_weaving f fd) (T : LTx mg) (G_law_take : Fd P w K mg base CX0 "_law_take" 1 ["pot", "upto"] spTake) (G_law_of : Fd P w K mg base CX0 "_law_of" 2 ["pot", "some"] (spOf K)) : FnOk P w K mg base CX0 3 f fd ["pot", "many", "steps"] spWvg9 := by
  refine F.ok sc_law_weaving (fun vs H Q E h => ?_) (fun cdv A outer s0 H vs Q E hr h => ?_)
  · obtain ⟨pt, n, k, m, rfl, _⟩ := h
    rfl
  obtain ⟨pt, n, k, m, rfl, h1, h5, hk, hP, hm, q⟩ := h
  refine ⟨_, (pss_cons (ps_par (i := 3) (j := 4) (by rfl) sc_law_weaving.nd rfl rfl (by decide) rfl rfl (pa_cons (pe_op op_cat (pe_listRg rfl rfl T.list (prg_1 rfl T.range (pv 1))) (pe_op op_rep (pe_lst (pa_cons (pe_fd G_law_take (hr.mono (by first | decide | omega)) rfl (pa_cons (pv 0) (pa_cons (pv 1) pa_nil))) pa_nil)) pe_int)) (pa_cons (pe_lst pa_nil) pa_nil)) (by rfl))
  (pss_cons (ps_for PassesOwn.never rfl (pi_range1 rfl T.range (pa_cons (pv 2) pa_nil)) (pg_name (i := 5) sc_law_weaving.nd rfl (Or.inl rfl)) (pss_cons (ps_par (i := 6) (j := 7) (by rfl) sc_law_weaving.nd rfl rfl (by decide) rfl rfl (pa_cons (pe_fd G_law_of (hr.mono (by first | decide | omega)) rfl (pa_cons (pv 0) (pa_cons (pv 3) pa_nil))) (pa_cons (pe_fd G_law_of (hr.mono (by first | decide | omega)) rfl (pa_cons (pv 0) (pa_cons (pe_lst (pa_cons pe_int (pa_cons pe_int (pa_cons pe_int (pa_cons pe_int pa_nil))))) pa_nil))) pa_nil)) (by rfl))
  (pss_one (ps_expr (pe_bm PySem.F.plainAttrs_list PySem.F.slot_list_extend PySem.F.type_list_extend mt_extend (pv 4) (pa_cons (pe_op op_rep (pe_lst (pa_cons (pv 6) pa_nil)) (pv 7)) pa_nil))))))
  (pss_one (ps_ret (pe_callTy call_tuple_of rfl T.tuple (by decide +kernel) (pa_cons (pe_slice sl_list (pv 4) po_none (po_some (pv 2))) pa_nil)))))), ?_⟩
  refine ⟨_, rfl, n, rfl, .of_le (by omega) (by omega) (by omega) (by omega), fun lr nlr => ?_⟩
  have er : rgV 0 (n : Nat) = natV (List.range n) := by
    unfold rgV natV
    rw [show ((n : Nat) - (0 : Int)).toNat = n by omega]
    exact List.map_congr_left fun i _ => by rw [Int.zero_add]
  rw [er]
  have g1 := same_new nlr (.lst (natV (List.range n)))
  have npr : pt ≠ lr := fun z => hP.ne0 (by rw [z]; exact nlr)
  have hP1 := hP.but (.of (S := []) g1) (by simp)
  refine ⟨_, rfl, _, rfl, pt, n, m, rfl, by omega, by omega, by omega, hP1, fun d H2 hd g2 hP2 => ⟨szl (by show 1 ≤ _; decide), fun ls nls => ?_⟩⟩
  have g3 := same_new nls (.lst [.int (d : Nat)])
  have hlr2 : H2 lr = some (.lst (natV (List.range n))) := g2.at upd_same (by simpa using Ne.symm npr)
  refine ⟨ls, 2, [.int (d : Nat)], rfl, rfl, upd_same, by decide, by decide, szl (by show 1 * 2 ≤ _; decide), fun lx nlx => ?_⟩
  have g4 := same_new nlx (.lst (List.replicate (2 : Int).toNat [V.int (d : Nat)]).flatten)
  have lrn : (natV (List.range n)).length = n := by rw [natL, List.length_range]
  refine ⟨lr, lx, natV (List.range n), _, rfl, rfl, g4 _ _ (g3 _ _ hlr2), upd_same, szl (by rw [lrn]; show n + 2 ≤ _; omega), fun pl npl => ?_⟩
  have epl : natV (List.range n) ++ (List.replicate (2 : Int).toNat [V.int (d : Nat)]).flatten = natV (List.range n ++ [d, d]) := by unfold natV; rw [List.map_append]; rfl
  rw [epl]
  have g5 := same_new npl (.lst (natV (List.range n ++ [d, d])))
  refine ⟨szl (by decide), fun fo nfo => ⟨_, _, rfl, ?_⟩⟩
  have g6 := same_new nfo (.lst [])
  have pool : ∀ x ∈ List.range n ++ [d, d], x < n := fun x hx => by
    simp only [List.mem_append, List.mem_range, List.mem_cons, List.not_mem_nil, or_false] at hx
    omega
  have pll : (natV (List.range n ++ [d, d])).length = n + 2 := by rw [natL, List.length_append, List.length_range]; rfl
  have b6 : But [pt] H _ := ((((But.of g1).trans g2).trans (.of g3)).trans (.of g4)).trans ((But.of g5).trans (.of g6))
  have hP6 := hP2.but (.of (S := []) (((g3.trans g4).trans g5).trans g6)) (by simp)
  have b5 : But [pt] H _ := ((((But.of g1).trans g2).trans (.of g3)).trans (.of g4)).trans (.of g5)
  have hP4 := hP2.but (.of (S := []) (g3.trans g4)) (by simp)
  have hP5 := hP4.but (.of (S := []) g5) (by simp)
  have npl' : pl ≠ pt := fun z => hP4.ne0 (by rw [← z]; exact npl)
  have nfp : fo ≠ pt := fun z => hP5.ne0 (by rw [← z]; exact nfo)
  have nfl : fo ≠ pl := fun z => by rw [z, upd_same] at nfo; cases nfo
  have Hfo : H fo = none := b5.free hP5.ne0 nfo
  have hpl6 := g6 pl (.lst (natV (List.range n ++ [d, d]))) upd_same
  refine ⟨_, rfl, _, rfl, by omega, by omega, for_range (lo := 0) (n := k) (fun i σ H' => ∃ u5 u6 u7 fl, σ = [some (.ref pt), some (.int n), some (.int k), some (.ref pl), some (.ref fo), u5, u6, u7] ∧ But [pt] H H' ∧ H' pl = some (.lst (natV (List.range n ++ [d, d]))) ∧ H' fo = some (.lst (natV fl)) ∧ (∀ p ∈ fl, p < n) ∧ fl.length ≤ 3 * i ∧ PotAt H' pt (m + 1 + 2 * i)) ?_ ?_ ?_⟩
  · exact ⟨_, _, _, [], rfl, b6, hpl6, upd_same, fun p hp => (nomatch hp), Nat.le_refl _, hP6⟩
  · rintro i σ H' hi ⟨u5, u6, u7, fl, rfl, b1, hpl, hfo, hfl, hll, hPi⟩
    refine ⟨_, rfl, _, rfl, pt, pl, _, m + 1 + 2 * i, rfl, .of hpl, npl', (fun z => by rw [z] at pll; exact absurd pll (by simp)), by omega, by omega, hPi, fun d1 v1 H2 hv1 g2 hP2 => ?_⟩
    obtain ⟨h, hh, rfl⟩ := natV_get hv1
    have hhn := pool h (List.mem_of_getElem? hh)
    have hfo2 := g2.at hfo (by simpa using nfp)
    have hpl2 := g2.at hpl (by simpa using npl')
    refine ⟨_, rfl, szl (by show 4 ≤ _; decide), fun l4 n4 => ?_⟩
    have n4p : l4 ≠ pt := fun z => hP2.ne0 (by rw [← z]; exact n4)
    have ga := same_new n4 (.lst [.int 1, .int 1, .int 2, .int 3])
    refine ⟨pt, l4, _, m + 1 + 2 * i + 1, rfl, .of upd_same, n4p, (fun z => by simp at z), by show 4 < 1000000; decide, by omega, hP2.but (.of (S := []) ga) (by simp), fun d2 v2 H3 hv2 g3 hP3 => ⟨_, _, rfl, ?_⟩⟩
    obtain ⟨t, rfl, t1, t3⟩ : ∃ t : Nat, v2 = .int (t : Nat) ∧ 1 ≤ t ∧ t ≤ 3 := by
      rcases d2 with _ | _ | _ | _ | d2
      · exact ⟨1, (Option.some.inj hv2).symm, by decide, by decide⟩
      · exact ⟨1, (Option.some.inj hv2).symm, by decide, by decide⟩
      · exact ⟨2, (Option.some.inj hv2).symm, by decide, by decide⟩
      · exact ⟨3, (Option.some.inj hv2).symm, by decide, by decide⟩
      · cases hv2
    have hfo3 := g3.at (ga _ _ hfo2) (by simpa using nfp)
    have hpl3 := g3.at (ga _ _ hpl2) (by simpa using npl')
    refine ⟨_, rfl, .inl ⟨rfl, _, .of hfo3⟩, _, rfl, szl (by show 1 ≤ _; decide), fun l5 n5 => ⟨_, rfl, l5, t, [.int (h : Nat)], rfl, rfl, upd_same, by omega, by omega, szl (by show 1 * _ ≤ _; omega), fun l6 n6 => ?_⟩⟩
    have gb := same_new n5 (.lst [.int (h : Nat)])
    have gc := same_new n6 (.lst (List.replicate (t : Int).toNat [V.int (h : Nat)]).flatten)
    have er : (List.replicate (t : Int).toNat [V.int (h : Nat)]).flatten = natV (List.replicate t h) := by
      unfold natV
      rw [show (t : Int).toNat = t by omega, List.map_replicate]
      simp
    refine ⟨fo, l6, natV fl, _, rfl, rfl, gc _ _ (gb _ _ hfo3), upd_same, szl (by rw [er, natL, natL, List.length_replicate]; omega), ?_⟩
    rw [er] at gc ⊢
    have b3 : But [pt] H _ := ((((b1.trans g2).trans (.of ga)).trans g3).trans (.of gb)).trans (.of gc)
    refine ⟨_, _, _, fl ++ List.replicate t h, rfl, ?_, ?_, ?_, ?_, ?_, ?_⟩
    · intro c u hc e
      rw [upd_ne (ne_of_none e Hfo)]
      exact b3 c u hc e
    · rw [upd_ne (Ne.symm nfl)]; exact gc _ _ (gb _ _ hpl3)
    · rw [upd_same]; unfold natV; rw [List.map_append]
    · intro p hp
      rcases List.mem_append.mp hp with z | z
      · exact hfl p z
      · rw [List.eq_of_mem_replicate z]; exact hhn
    · rw [List.length_append, List.length_replicate]; omega
    · exact ((hP3.but (.of (S := []) (gb.trans gc)) (by simp)).but (S := [fo]) ((But.refl _ _).put (by simp)) (by simpa using Ne.symm nfp)).mono (by omega)
  · rintro σ H' ⟨u5, u6, u7, fl, rfl, b1, hpl, hfo, hfl, hll, hPi⟩
    refine ⟨_, rfl, _, rfl, _, rfl, fo, natV fl, rfl, .of hfo, fun p np => ?_⟩
    have hs0 : HT.sIx (natV fl).length 0 none = 0 := rfl
    have hs1 : HT.sIx (natV fl).length (natV fl).length (some (k : Int)) = min k (natV fl).length := HT.sIx_nat _ _ k
    have ec : cutV (natV fl) none (some (k : Int)) = natV (fl.take (min k fl.length)) := by
      unfold cutV
      rw [hs0, hs1, natL]
      unfold natV
      simp [List.map_take]
    rw [ec]
    have ga := same_new np (.lst (natV (fl.take (min k fl.length))))
    refine ⟨p, _, rfl, .inl ⟨.of upd_same, fun t nt => ?_⟩⟩
    have gb := same_new nt (.tup (natV (fl.take (min k fl.length))))
    refine q t (fl.take (min k fl.length)) _ (b1.trans (.of (ga.trans gb))) ?_ upd_same (fun p hp => hfl p (List.mem_of_mem_take hp)) (by rw [List.length_take]; omega)
    exact (hPi.but (.of (S := []) (ga.trans gb)) (by simp)).mono (by omega)
end
end Fp
/-! a weaving to each row: the mathematics -/
namespace Fp
open PySem PySem.Spec PyProof.Rows L2
abbrev RowN := List (Option (List Nat))
structure OkN (n : Nat) (r : RowN) : Prop where
  len : r.length = n
  up : ∀ (i : Nat) (l : List Nat), r[i]? = some (some l) → List.Pairwise (· < ·) l
  rng : ∀ (i : Nat) (l : List Nat), r[i]? = some (some l) → ∀ x ∈ l, x < n
  self : ∀ (i : Nat) (l : List Nat), r[i]? = some (some l) → i ∈ l
  cmp : ∀ (i j : Nat) (l m : List Nat), r[i]? = some (some l) → r[j]? = some (some m) → (∀ x ∈ l, x ∈ m) ∨ ∀ x ∈ m, x ∈ l
  fit : ∀ (i j : Nat) (l m : List Nat), r[i]? = some (some l) → r[j]? = some (some m) → i ∈ m → ∀ x ∈ l, x ∈ m
abbrev natI (l : List Nat) : List Int := l.map fun p : Nat => (p : Int)
def nD : Option (List Nat) → Dt
  | none => .non
  | some l => lotD (natI l)
def rowND (r : RowN) : Dt := .tup (r.map nD)
theorem natI_inj {l m : List Nat} (h : natI l = natI m) : l = m := List.map_inj_right (fun a b e => by omega) |>.mp h
theorem nD_inj {a b : Option (List Nat)} (h : nD a = nD b) : a = b := by
  cases a <;> cases b
  · rfl
  · cases h
  · cases h
  · exact congrArg some (natI_inj (lotD_inj h))
theorem rowND_inj {r s : RowN} (h : rowND r = rowND s) : r = s := by
  have h : r.map nD = s.map nD := by injection h
  exact List.map_inj_right (fun a b e => nD_inj e) |>.mp h
theorem natI_back {l : List Int} (h : ∀ x ∈ l, 0 ≤ x) : natI (l.map Int.toNat) = l := by
  unfold natI
  rw [List.map_map]
  refine (List.map_congr_left fun x hx => ?_).trans (List.map_id l)
  have := h x hx
  show ((x.toNat : Nat) : Int) = x
  omega
theorem lotOfB_lotB {n : Int} {d : Dt} (h : lotOfB n d = true) : lotB d = true := by
  cases d with
  | tup es =>
    obtain ⟨h1, h2⟩ := lotOfB_tup.mp h
    exact lotB_tup.mpr ⟨fun x hx => ⟨(h1 x hx).1, (h1 x hx).2.1⟩, h2⟩
  | _ => cases h
/-- a row that can be told is one of views -/
theorem at_row {n : Nat} (hn : 0 < n) {d : Dt} (h : atB n d = true) : ∃ r : RowN, d = rowND r ∧ OkN n r ∧ ∃ (i : Nat) (l : List Nat), r[i]? = some (some l) := by
  obtain ⟨ds, rfl, hl, hv⟩ := at_tup h
  have hr := h
  rw [← law_row hn] at hr
  unfold lawRowB at hr
  dsimp only at hr
  rw [Bool.and_eq_true, Bool.and_eq_true, Bool.and_eq_true, decide_eq_true_eq, List.all_eq_true, List.all_eq_true] at hr
  obtain ⟨⟨_, hsome⟩, h2, h3⟩ := hr
  let f : Dt → Option (List Nat) := fun d => if d.isNon then none else some ((lotOf d).map Int.toNat)
  -- one view
  have one : ∀ (i : Nat) (l : List Nat), (ds.map f)[i]? = some (some l) → i ∈ thr ds ∧ vwAt ds i = natI l ∧ (natI l).Pairwise (· < ·) ∧ (∀ x ∈ natI l, 0 ≤ x ∧ x < n) ∧ (i : Int) ∈ natI l := fun i l hi => by
    rw [List.getElem?_map] at hi
    obtain ⟨d, hd, e⟩ := Option.map_eq_some_iff.mp hi
    have hil := (List.getElem?_eq_some_iff.mp hd).1
    have eg : ds.getD i .non = d := by rw [List.getD_eq_getElem?_getD, hd]; rfl
    have hnn : d.isNon = false := by
      cases c : d.isNon with
      | false => rfl
      | true =>
        have e : (if d.isNon then none else some ((lotOf d).map Int.toNat)) = some l := e
        rw [c] at e; cases e
    have el : (lotOf d).map Int.toNat = l := by
      have e : (if d.isNon then none else some ((lotOf d).map Int.toNat)) = some l := e
      rw [hnn] at e
      exact Option.some.inj e
    have hit : i ∈ thr ds := mem_thr.mpr ⟨hil, by rw [eg]; exact hnn⟩
    have vw := lawVw_iff.mp (h2 i hit)
    rw [eg] at vw
    have ed := (lot_data (lotOfB_lotB vw.1)).1
    have hb : lotOfB n (lotD (lotOf d)) = true := by rw [show lotD (lotOf d) = d from ed.symm]; exact vw.1
    have hb := lotOfB_lotD.mp hb
    have en : natI l = lotOf d := by rw [← el]; exact natI_back fun x hx => (hb.1 x hx).1
    refine ⟨hit, by rw [en]; unfold vwAt; rw [eg], ?_, ?_, ?_⟩
    · rw [en]; exact hb.2
    · rw [en]; exact hb.1
    · rw [en]; exact vw.2
  have pr : ∀ (i j : Nat) (l m : List Nat), (ds.map f)[i]? = some (some l) → (ds.map f)[j]? = some (some m) → ((∀ x ∈ l, x ∈ m) ∨ ∀ x ∈ m, x ∈ l) ∧ (i ∈ m → ∀ x ∈ l, x ∈ m) := fun i j l m hi hj => by
    obtain ⟨a1, a2, _⟩ := one i l hi
    obtain ⟨b1, b2, _⟩ := one j m hj
    have := h3 i a1
    rw [List.all_eq_true] at this
    have := pair_iff.mp (this j b1)
    rw [a2, b2] at this
    have cast : ∀ {u v : List Nat}, (∀ x ∈ natI u, x ∈ natI v) → ∀ x ∈ u, x ∈ v := fun hh x hx => by
      obtain ⟨y, hy, e⟩ := List.mem_map.mp (hh _ (List.mem_map.mpr ⟨x, hx, rfl⟩))
      have : x = y := by omega
      rw [this]; exact hy
    refine ⟨this.1.imp cast cast, fun him => cast (this.2 (List.mem_map.mpr ⟨i, him, rfl⟩))⟩
  refine ⟨ds.map f, ?_, ⟨by rw [List.length_map]; exact hl, fun i l hi => ?_, fun i l hi x hx => ?_, fun i l hi => ?_, fun i j l m hi hj => (pr i j l m hi hj).1, fun i j l m hi hj => (pr i j l m hi hj).2⟩, ?_⟩
  · unfold rowND
    rw [List.map_map]
    congr 1
    refine ((List.map_congr_left fun d hd => ?_).trans (List.map_id ds)).symm
    obtain ⟨i, hi⟩ := List.mem_iff_getElem?.mp hd
    show nD (f d) = d
    cases c : d.isNon with
    | true =>
      have : f d = none := by show (if d.isNon then none else _) = none; rw [c]; rfl
      rw [this]
      cases d <;> first | rfl | cases c
    | false =>
      have e : f d = some ((lotOf d).map Int.toNat) := by show (if d.isNon then none else _) = _; rw [c]; rfl
      obtain ⟨a1, a2, a3, a4, a5⟩ := one i _ (by rw [List.getElem?_map, hi]; exact congrArg some e)
      rw [e]
      have eg : ds.getD i .non = d := by rw [List.getD_eq_getElem?_getD, hi]; rfl
      have vw := lawVw_iff.mp (h2 i a1)
      rw [eg] at vw
      have ed := (lot_data (lotOfB_lotB vw.1)).1
      show lotD (natI ((lotOf d).map Int.toNat)) = d
      rw [← a2]
      unfold vwAt
      rw [eg]
      exact ed.symm
  · obtain ⟨_, _, a3, _⟩ := one i l hi
    rw [List.pairwise_map] at a3
    exact a3.imp fun h => by omega
  · obtain ⟨_, _, _, a4, _⟩ := one i l hi
    have := a4 _ (List.mem_map.mpr ⟨x, hx, rfl⟩)
    omega
  · obtain ⟨_, _, _, _, a5⟩ := one i l hi
    obtain ⟨y, hy, e⟩ := List.mem_map.mp a5
    have : i = y := by omega
    rw [this]; exact hy
  · rw [Bool.not_eq_true', List.all_eq_false] at hsome
    obtain ⟨d, hd, hn'⟩ := hsome
    obtain ⟨i, hi⟩ := List.mem_iff_getElem?.mp hd
    refine ⟨i, (lotOf d).map Int.toNat, ?_⟩
    rw [List.getElem?_map, hi]
    show some (if d.isNon then none else some ((lotOf d).map Int.toNat)) = _
    rw [if_neg hn']
/-! ### the weaving -/
def wdown (n : Nat) (r : RowN) (came V : List Nat) : List Nat := (List.replicate (2 * (n - V.length) + 1) (V.filter fun h => decide (h ∉ came))).flatten ++ (V.filter fun h => decide (h ∉ came)).filter fun h => (r.getD h none).isSome
def wto (n : Nat) (r : RowN) : List Nat → List (List Nat) → List Nat
  | _, [] => []
  | came, V :: Vs => wdown n r came V ++ wto n r V Vs
theorem srt_eqN : ∀ {l m : List Nat}, l.Pairwise (· < ·) → m.Pairwise (· < ·) → (∀ x, x ∈ l ↔ x ∈ m) → l = m := fun {l m} h1 h2 h => by
  refine natI_inj (srt_eq ?_ ?_ fun x => ?_)
  · unfold natI
    rw [List.pairwise_map]; exact h1.imp fun h => by omega
  · unfold natI
    rw [List.pairwise_map]; exact h2.imp fun h => by omega
  · unfold natI
    rw [List.mem_map, List.mem_map]
    exact ⟨fun ⟨y, hy, e⟩ => ⟨y, (h y).mp hy, e⟩, fun ⟨y, hy, e⟩ => ⟨y, (h y).mpr hy, e⟩⟩
theorem nodup_up {l : List Nat} (h : l.Pairwise (· < ·)) : l.Nodup := h.imp fun h => by omega
namespace LS
section
variable {s : LS} {p q : Nat}
theorem woven_app (a b : List Nat) : s.woven (a ++ b) = (s.woven a).woven b := List.foldl_append
theorem next_congr {t : LS} (h1 : t.vi q = s.vi q) (h2 : t.lo q = s.lo q) (h3 : t.lv q = s.lv q) (h4 : t.n = s.n) : t.next q = s.next q := by
  unfold LS.next
  rw [h1, h2, h3, h4]
theorem step_wr {l : Int} (h : s.next p = some (.wr l)) : s.step p = s.wrote p l := by simp only [LS.step, h]
theorem step_lk (h : s.next p = some .look) : s.step p = s.looked p := by simp only [LS.step, h]
/-- a round in which each writes -/
theorem round_w {l : Int} : ∀ {hs : List Nat} {s : LS}, s.WF → hs.Nodup → (∀ q ∈ hs, q < s.n ∧ s.next q = some (.wr l)) →
    (s.woven hs).WF ∧ (s.woven hs).n = s.n ∧ (∀ q, (s.woven hs).lv q = if q ∈ hs then some l else s.lv q) ∧ (∀ q, (s.woven hs).lo q = if q ∈ hs then true else s.lo q) ∧ ∀ q, (s.woven hs).vi q = s.vi q
  | [], s, W, _, _ => ⟨W, rfl, fun q => by rw [if_neg (by simp)]; rfl, fun q => by rw [if_neg (by simp)]; rfl, fun q => rfl⟩
  | p :: hs, s, W, hd, h => by
    obtain ⟨d1, d2⟩ := List.nodup_cons.mp hd
    obtain ⟨hp, hn⟩ := h p List.mem_cons_self
    have e1 := step_wr hn
    have W1 := W.step hp
    have L := fun q => lv_wrote (s := s) (l := l) (q := q) hp
    have K := fun q => lo_wrote (l := l) (q := q) W hp
    rw [e1] at W1
    obtain ⟨a1, a2, a3, a4, a5⟩ := round_w (l := l) (hs := hs) (s := s.wrote p l) W1 d2 fun q hq => by
      have pq : p ≠ q := fun z => d1 (by rw [z]; exact hq)
      obtain ⟨b1, b2⟩ := h q (List.mem_cons_of_mem _ hq)
      refine ⟨by rw [n_wrote]; exact b1, ?_⟩
      rw [next_congr (s := s) vi_wrote (by rw [K, if_neg pq]) (by rw [L, if_neg pq]) n_wrote]
      exact b2
    have e : s.woven (p :: hs) = (s.wrote p l).woven hs := by
      show (s.step p).woven hs = _
      rw [e1]
    rw [e]
    refine ⟨a1, a2.trans n_wrote, fun q => ?_, fun q => ?_, fun q => (a5 q).trans vi_wrote⟩
    · rw [a3, L]
      by_cases c : q ∈ hs
      · rw [if_pos c, if_pos (List.mem_cons_of_mem _ c)]
      · rw [if_neg c]
        by_cases z : p = q
        · rw [if_pos z, if_pos (by rw [z]; exact List.mem_cons_self)]
        · rw [if_neg z, if_neg (fun m => (List.mem_cons.mp m).elim (fun y => z y.symm) c)]
    · rw [a4, K]
      by_cases c : q ∈ hs
      · rw [if_pos c, if_pos (List.mem_cons_of_mem _ c)]
      · rw [if_neg c]
        by_cases z : p = q
        · rw [if_pos z, if_pos (by rw [z]; exact List.mem_cons_self)]
        · rw [if_neg z, if_neg (fun m => (List.mem_cons.mp m).elim (fun y => z y.symm) c)]
/-- a round in which each looks -/
theorem round_l : ∀ {hs : List Nat} {s : LS}, s.WF → hs.Nodup → (∀ q ∈ hs, q < s.n ∧ s.next q = some .look) →
    (s.woven hs).WF ∧ (s.woven hs).n = s.n ∧ (s.woven hs).lev = s.lev ∧ (∀ q, (s.woven hs).lo q = if q ∈ hs then false else s.lo q) ∧ ∀ q, (s.woven hs).vi q = if q ∈ hs then s.seen q else s.vi q
  | [], s, W, _, _ => ⟨W, rfl, rfl, fun q => by rw [if_neg (by simp)]; rfl, fun q => by rw [if_neg (by simp)]; rfl⟩
  | p :: hs, s, W, hd, h => by
    obtain ⟨d1, d2⟩ := List.nodup_cons.mp hd
    obtain ⟨hp, hn⟩ := h p List.mem_cons_self
    have e1 := step_lk hn
    have W1 := W.step hp
    have V := fun q => vi_looked (q := q) W hp
    have K := fun q => lo_looked (q := q) W hp
    rw [e1] at W1
    obtain ⟨a1, a2, a3, a4, a5⟩ := round_l (hs := hs) (s := s.looked p) W1 d2 fun q hq => by
      have pq : p ≠ q := fun z => d1 (by rw [z]; exact hq)
      obtain ⟨b1, b2⟩ := h q (List.mem_cons_of_mem _ hq)
      refine ⟨b1, ?_⟩
      rw [next_congr (s := s) (by rw [V, if_neg pq]) (by rw [K, if_neg pq]) lv_looked n_looked]
      exact b2
    have e : s.woven (p :: hs) = (s.looked p).woven hs := by
      show (s.step p).woven hs = _
      rw [e1]
    rw [e]
    refine ⟨a1, a2, a3, fun q => ?_, fun q => ?_⟩
    · rw [a4, K]
      by_cases c : q ∈ hs
      · rw [if_pos c, if_pos (List.mem_cons_of_mem _ c)]
      · rw [if_neg c]
        by_cases z : p = q
        · rw [if_pos z, if_pos (by rw [z]; exact List.mem_cons_self)]
        · rw [if_neg z, if_neg (fun m => (List.mem_cons.mp m).elim (fun y => z y.symm) c)]
    · rw [a5, V]
      have es : (s.looked p).seen q = s.seen q := rfl
      rw [es]
      by_cases c : q ∈ hs
      · rw [if_pos c, if_pos (List.mem_cons_of_mem _ c)]
      · rw [if_neg c]
        by_cases z : p = q
        · rw [if_pos z, if_pos (by rw [z]; exact List.mem_cons_self), z]
        · rw [if_neg z, if_neg (fun m => (List.mem_cons.mp m).elim (fun y => z y.symm) c)]
end
end LS
/-- behind the blocks so far -/
structure Blk (n : Nat) (r : RowN) (came : List Nat) (s : LS) : Prop where
  wf : s.WF
  n : s.n = n
  out : ∀ q, q ∉ came → s.lv q = none ∧ s.lo q = false ∧ s.vi q = none
  lev : ∀ q ∈ came, ∃ l : Int, s.lv q = some l ∧ l ≤ (came.length : Nat)
  vi : ∀ q ∈ came, s.vi q = r.getD q none
/-- amid a block: its hands all at one level -/
structure Mid (s0 s : LS) (hs : List Nat) (l : Int) (b : Bool) : Prop where
  wf : s.WF
  n : s.n = s0.n
  lv : ∀ q, s.lv q = if q ∈ hs then some l else s0.lv q
  lo : ∀ q, s.lo q = if q ∈ hs then b else s0.lo q
  vi : ∀ q, s.vi q = s0.vi q
section
variable {n : Nat} {r : RowN} {came V : List Nat} {s : LS}
theorem LS.lv_of_lev {s t : LS} (h : s.lev = t.lev) (q : Nat) : s.lv q = t.lv q := by unfold LS.lv; rw [h]
theorem below_sub {s0 s : LS} {hs : List Nat} {l : Int} {b : Bool} (B : Blk n r came s0) (M : Mid s0 s hs l b) (h1 : ∀ q ∈ came, q ∈ V) (h2 : ∀ q ∈ hs, q ∈ V) (k : Int) : ∀ q ∈ s.below k, q ∈ V := fun q hq => by
  obtain ⟨_, hl⟩ := LS.mem_below.mp hq
  by_cases c : q ∈ hs
  · exact h2 q c
  · rw [M.lv, if_neg c] at hl
    by_cases c2 : q ∈ came
    · exact h1 q c2
    · rw [(B.out q c2).1] at hl; cases hl
theorem rounds (B : Blk n r came s) (hV : V.Pairwise (· < ·)) (hr : ∀ x ∈ V, x < n) (hc : ∀ x ∈ came, x ∈ V) : ∀ j : Nat, j ≤ n - V.length → V.length ≤ n →
    Mid s (s.woven (List.replicate (2 * j + 1) (V.filter fun h => decide (h ∉ came))).flatten) (V.filter fun h => decide (h ∉ came)) ((n : Int) - j) true := by
  have nd : (V.filter fun h => decide (h ∉ came)).Nodup := List.Pairwise.filter _ (nodup_up hV)
  have hm : ∀ q ∈ V.filter fun h => decide (h ∉ came), q ∈ V ∧ q ∉ came := fun q hq => by
    obtain ⟨a, b⟩ := List.mem_filter.mp hq
    exact ⟨a, of_decide_eq_true b⟩
  generalize V.filter (fun h => decide (h ∉ came)) = hs at nd hm ⊢
  intro j
  induction j with
  | zero =>
    intro _ _
    have e : (List.replicate (2 * 0 + 1) hs).flatten = hs := by simp
    rw [e]
    obtain ⟨a1, a2, a3, a4, a5⟩ := LS.round_w (l := (s.n : Nat)) (hs := hs) B.wf nd fun q hq => by
      obtain ⟨b1, b2⟩ := hm q hq
      obtain ⟨o1, o2, o3⟩ := B.out q b2
      refine ⟨by rw [B.n]; exact hr q b1, ?_⟩
      unfold LS.next
      rw [o1, o2, o3]; rfl
    refine ⟨a1, a2, fun q => ?_, a4, a5⟩
    rw [a3, B.n]
    have : ((n : Int) - ((0 : Nat) : Int)) = n := by omega
    rw [this]
  | succ j ih =>
    intro hj hn
    have M := ih (by omega) hn
    have e : (List.replicate (2 * (j + 1) + 1) hs).flatten = (List.replicate (2 * j + 1) hs).flatten ++ (hs ++ hs) := by
      rw [show 2 * (j + 1) + 1 = (2 * j + 1) + 2 by omega, ← List.replicate_append_replicate, List.flatten_append]
      congr 1
      simp
    rw [e, LS.woven_app, LS.woven_app]
    generalize s.woven (List.replicate (2 * j + 1) hs).flatten = t at M
    have tn : t.n = n := M.n.trans B.n
    have lvq : ∀ q ∈ hs, t.lv q = some ((n : Int) - j) := fun q hq => by rw [M.lv, if_pos hq]
    obtain ⟨a1, a2, a3, a4, a5⟩ := LS.round_l (hs := hs) M.wf nd fun q hq => by
      obtain ⟨b1, b2⟩ := hm q hq
      refine ⟨by rw [tn]; exact hr q b1, ?_⟩
      unfold LS.next
      rw [M.vi, (B.out q b2).2.2, M.lo, if_pos hq]; rfl
    have seen : ∀ q ∈ hs, t.seen q = none := fun q hq => by
      unfold LS.seen LS.own
      rw [lvq q hq]
      have hl := nodup_le (nodup_up (LS.below_up t ((n : Int) - j))) (below_sub B M hc (fun q hq => (hm q hq).1) _)
      refine if_neg fun z => ?_
      have z : (n : Int) - j ≤ ((t.below ((n : Int) - j)).length : Nat) := z
      omega
    have lv2 : ∀ q, (t.woven hs).lv q = t.lv q := LS.lv_of_lev a3
    have vi2 : ∀ q, (t.woven hs).vi q = s.vi q := fun q => by
      rw [a5]
      by_cases c : q ∈ hs
      · rw [if_pos c, seen q c, (B.out q (hm q c).2).2.2]
      · rw [if_neg c]; exact M.vi q
    obtain ⟨c1, c2, c3, c4, c5⟩ := LS.round_w (l := (n : Int) - ((j + 1 : Nat) : Int)) (hs := hs) a1 nd fun q hq => by
      obtain ⟨b1, b2⟩ := hm q hq
      refine ⟨by rw [a2, tn]; exact hr q b1, ?_⟩
      unfold LS.next
      rw [vi2, (B.out q b2).2.2, a4, if_pos hq, lv2, lvq q hq]
      show some (Due.wr ((n : Int) - j - 1)) = _
      rw [show (n : Int) - j - 1 = (n : Int) - ((j + 1 : Nat) : Int) by omega]
    refine ⟨c1, c2.trans (a2.trans M.n), fun q => ?_, fun q => ?_, fun q => (c5 q).trans (vi2 q)⟩
    · rw [c3]
      by_cases c : q ∈ hs
      · rw [if_pos c, if_pos c]
      · rw [if_neg c, if_neg c, lv2, M.lv, if_neg c]
    · rw [c4]
      by_cases c : q ∈ hs
      · rw [if_pos c, if_pos c]
      · rw [if_neg c, if_neg c, a4, if_neg c, M.lo, if_neg c]
/-- one block more -/
theorem Blk.down (B : Blk n r came s) (hV : V.Pairwise (· < ·)) (hr : ∀ x ∈ V, x < n) (hc : ∀ x ∈ came, x ∈ V) (hcl : came.length ≤ V.length) (hrow : ∀ q ∈ V, q ∉ came → r.getD q none = none ∨ r.getD q none = some V) : Blk n r V (s.woven (wdown n r came V)) := by
  have hVn : V.length ≤ n := by
    have := nodup_le (l := V) (m := List.range n) (nodup_up hV) fun x hx => List.mem_range.mpr (hr x hx)
    rwa [List.length_range] at this
  have M := rounds B hV hr hc (n - V.length) (Nat.le_refl _) hVn
  unfold wdown
  rw [LS.woven_app]
  have nd : (V.filter fun h => decide (h ∉ came)).Nodup := List.Pairwise.filter _ (nodup_up hV)
  have hm : ∀ q, q ∈ (V.filter fun h => decide (h ∉ came)) ↔ q ∈ V ∧ q ∉ came := fun q => by
    rw [List.mem_filter, decide_eq_true_iff]
  generalize V.filter (fun h => decide (h ∉ came)) = hs at nd hm M ⊢
  generalize s.woven (List.replicate (2 * (n - V.length) + 1) hs).flatten = t at M ⊢
  have tn : t.n = n := M.n.trans B.n
  have el : (n : Int) - ((n - V.length : Nat) : Int) = (V.length : Nat) := by omega
  rw [el] at M
  have nd2 : (hs.filter fun h => (r.getD h none).isSome).Nodup := List.Pairwise.filter _ nd
  have hm2 : ∀ q, q ∈ (hs.filter fun h => (r.getD h none).isSome) ↔ q ∈ hs ∧ (r.getD q none).isSome = true := fun q => List.mem_filter
  generalize hs.filter (fun h => (r.getD h none).isSome) = hf at nd2 hm2 ⊢
  have below : t.below ((V.length : Nat) : Int) = V := by
    refine srt_eqN (LS.below_up _ _) hV fun q => ⟨below_sub B M hc (fun q hq => ((hm q).mp hq).1) _ q, fun hq => LS.mem_below.mpr ⟨by rw [tn]; exact hr q hq, ?_⟩⟩
    rw [M.lv]
    by_cases c : q ∈ hs
    · rw [if_pos c]; exact decide_eq_true (Int.le_refl _)
    · rw [if_neg c]
      have hq2 : q ∈ came := Classical.byContradiction fun z => c ((hm q).mpr ⟨hq, z⟩)
      obtain ⟨l, h1, h2⟩ := B.lev q hq2
      rw [h1]
      exact decide_eq_true (by omega)
  have seen : ∀ q ∈ hs, t.seen q = some V := fun q hq => by
    unfold LS.seen LS.own
    rw [M.lv, if_pos hq]
    show (if ((V.length : Nat) : Int) ≤ (t.below ((V.length : Nat) : Int)).length then some (t.below ((V.length : Nat) : Int)) else none) = some V
    rw [below, if_pos (Int.le_refl _)]
  obtain ⟨a1, a2, a3, a4, a5⟩ := LS.round_l (hs := hf) M.wf nd2 fun q hq => by
    obtain ⟨b1, _⟩ := (hm2 q).mp hq
    obtain ⟨c1, c2⟩ := (hm q).mp b1
    refine ⟨by rw [tn]; exact hr q c1, ?_⟩
    unfold LS.next
    rw [M.vi, (B.out q c2).2.2, M.lo, if_pos b1]; rfl
  have lv2 : ∀ q, (t.woven hf).lv q = t.lv q := LS.lv_of_lev a3
  refine ⟨a1, a2.trans tn, fun q hq => ?_, fun q hq => ?_, fun q hq => ?_⟩
  · have nh : q ∉ hs := fun z => hq ((hm q).mp z).1
    have nf : q ∉ hf := fun z => nh ((hm2 q).mp z).1
    have nc : q ∉ came := fun z => hq (hc q z)
    obtain ⟨o1, o2, o3⟩ := B.out q nc
    exact ⟨by rw [lv2, M.lv, if_neg nh]; exact o1, by rw [a4, if_neg nf, M.lo, if_neg nh]; exact o2, by rw [a5, if_neg nf, M.vi]; exact o3⟩
  · rw [lv2, M.lv]
    by_cases c : q ∈ hs
    · rw [if_pos c]; exact ⟨_, rfl, Int.le_refl _⟩
    · rw [if_neg c]
      have hq2 : q ∈ came := Classical.byContradiction fun z => c ((hm q).mpr ⟨hq, z⟩)
      obtain ⟨l, h1, h2⟩ := B.lev q hq2
      exact ⟨l, h1, by omega⟩
  · rw [a5]
    by_cases c : q ∈ came
    · have nh : q ∉ hs := fun z => ((hm q).mp z).2 c
      rw [if_neg (fun z => nh ((hm2 q).mp z).1), M.vi]
      exact B.vi q c
    · have ih := (hm q).mpr ⟨hq, c⟩
      rcases hrow q hq c with e | e
      · rw [if_neg (fun z => by have := ((hm2 q).mp z).2; rw [e] at this; cases this), M.vi, (B.out q c).2.2, e]
      · rw [if_pos ((hm2 q).mpr ⟨ih, by rw [e]; rfl⟩), seen q ih, e]
theorem getD_some {q : Nat} {l : List Nat} (h : r.getD q none = some l) : r[q]? = some (some l) := by
  rw [List.getD_eq_getElem?_getD] at h
  cases e : r[q]? with
  | none => rw [e] at h; cases h
  | some o => rw [e] at h; rw [show o = some l from h]
/-- all blocks -/
theorem wto_go (R : OkN n r) : ∀ {Vs : List (List Nat)} {came : List Nat} {s : LS}, Blk n r came s → (∀ V ∈ Vs, ∃ i : Nat, r[i]? = some (some V)) → (∀ V ∈ Vs, (∀ x ∈ came, x ∈ V) ∧ came.length ≤ V.length) →
    Vs.Pairwise (fun a b => a.length < b.length ∧ ∀ x ∈ a, x ∈ b) → (∀ q, q ∉ came → r.getD q none = none ∨ ∃ W ∈ Vs, r.getD q none = some W) → (s.woven (wto n r came Vs)).vw = r ∧ (s.woven (wto n r came Vs)).WF
  | [], came, s, B, _, _, _, ho => by
    have W := B.wf
    refine ⟨?_, W⟩
    show s.vw = r
    have hv : ∀ q, s.vi q = r.getD q none := fun q => by
      by_cases c : q ∈ came
      · exact B.vi q c
      · rw [(B.out q c).2.2]
        rcases ho q c with e | ⟨W, hW, _⟩
        · exact e.symm
        · cases hW
    refine List.ext_getElem? fun i => ?_
    have h := hv i
    unfold LS.vi at h
    rw [List.getD_eq_getElem?_getD, List.getD_eq_getElem?_getD] at h
    have hl : s.vw.length = r.length := by rw [W.lw, B.n, R.len]
    by_cases c : i < s.vw.length
    · rw [List.getElem?_eq_getElem c, List.getElem?_eq_getElem (hl ▸ c)] at h ⊢
      exact congrArg some h
    · rw [List.getElem?_eq_none (by omega), List.getElem?_eq_none (by omega)]
  | V :: Vs, came, s, B, hv, hc, hp, ho => by
    obtain ⟨p1, p2⟩ := List.pairwise_cons.mp hp
    obtain ⟨i, hi⟩ := hv V List.mem_cons_self
    obtain ⟨c1, c2⟩ := hc V List.mem_cons_self
    have row : ∀ q ∈ V, q ∉ came → r.getD q none = none ∨ r.getD q none = some V := fun q hq hqc => by
      rcases ho q hqc with e | ⟨W, hW, e⟩
      · exact .inl e
      · rcases List.mem_cons.mp hW with z | z
        · rw [z] at e; exact .inr e
        · exfalso
          have hW' := getD_some e
          have := nodup_le (nodup_up (R.up _ _ hW')) (R.fit q i W V hW' hi hq)
          have := (p1 W z).1
          omega
    have B2 := B.down (R.up _ _ hi) (R.rng _ _ hi) c1 c2 row
    show (s.woven (wdown n r came V ++ wto n r V Vs)).vw = r ∧ _
    have e : wto n r came (V :: Vs) = wdown n r came V ++ wto n r V Vs := rfl
    rw [e, LS.woven_app]
    refine wto_go R B2 (fun W hW => hv W (List.mem_cons_of_mem _ hW)) (fun W hW => ⟨(p1 W hW).2, Nat.le_of_lt (p1 W hW).1⟩) p2 fun q hq => ?_
    rcases ho q (fun z => hq (c1 q z)) with e | ⟨W, hW, e⟩
    · exact .inl e
    · rcases List.mem_cons.mp hW with z | z
      · exact absurd (R.self q V (by rw [← z]; exact getD_some e)) hq
      · exact .inr ⟨W, z, e⟩
/-- the views of a row, one behind the other -/
structure ViewsOf (r : RowN) (Vs : List (List Nat)) : Prop where
  is : ∀ V ∈ Vs, ∃ i : Nat, r[i]? = some (some V)
  all : ∀ (i : Nat) (l : List Nat), r[i]? = some (some l) → l ∈ Vs
  up : Vs.Pairwise fun a b => a.length < b.length ∧ ∀ x ∈ a, x ∈ b
theorem wto_ok (h1 : 1 ≤ n) (h5 : n ≤ 5) (R : OkN n r) {Vs : List (List Nat)} (hV : ViewsOf r Vs) : ((LS.new n).woven (wto n r [] Vs)).vw = r := by
  have hn : (LS.new n).n = n := by simp [LS.new, LS.n]
  refine (wto_go R ⟨LS.WF.new h1 h5, hn, fun q _ => ⟨LS.lv_new n q, LS.lo_new n q, LS.vi_new n q⟩, fun q hq => (by cases hq), fun q hq => (by cases hq)⟩ hV.is (fun V _ => ⟨fun x hx => (by cases hx), Nat.zero_le _⟩) hV.up fun q _ => ?_).1
  cases e : r.getD q none with
  | none => exact .inl rfl
  | some l => exact .inr ⟨l, hV.all q l (getD_some e), rfl⟩
/-- such weavings are of the hands, and short -/
theorem wdown_lt (hr : ∀ x ∈ V, x < n) : ∀ x ∈ wdown n r came V, x < n := fun x hx => by
  unfold wdown at hx
  rcases List.mem_append.mp hx with z | z
  · obtain ⟨l, hl, z⟩ := List.mem_flatten.mp z
    rw [List.eq_of_mem_replicate hl] at z
    exact hr x (List.mem_filter.mp z).1
  · exact hr x (List.mem_filter.mp (List.mem_filter.mp z).1).1
theorem wdown_len (h5 : n ≤ 5) (hV : V.length ≤ 5) : (wdown n r came V).length ≤ 60 := by
  unfold wdown
  have h1 : (V.filter fun h => decide (h ∉ came)).length ≤ 5 := Nat.le_trans (List.length_filter_le _ _) hV
  have h2 : ((V.filter fun h => decide (h ∉ came)).filter fun h => (r.getD h none).isSome).length ≤ 5 := Nat.le_trans (List.length_filter_le _ _) h1
  rw [List.length_append, List.length_flatten, List.map_replicate, List.sum_replicate_nat]
  have : (2 * (n - V.length) + 1) * (V.filter fun h => decide (h ∉ came)).length ≤ 11 * 5 := Nat.mul_le_mul (by omega) h1
  omega
theorem wto_lt : ∀ {Vs : List (List Nat)} {came : List Nat}, (∀ V ∈ Vs, ∀ x ∈ V, x < n) → ∀ x ∈ wto n r came Vs, x < n
  | [], _, _, x, hx => by cases hx
  | V :: Vs, came, h, x, hx => by
    rcases List.mem_append.mp (show x ∈ wdown n r came V ++ wto n r V Vs from hx) with z | z
    · exact wdown_lt (h V List.mem_cons_self) x z
    · exact wto_lt (fun W hW => h W (List.mem_cons_of_mem _ hW)) x z
theorem wto_len (h5 : n ≤ 5) : ∀ {Vs : List (List Nat)} {came : List Nat}, (∀ V ∈ Vs, V.length ≤ 5) → (wto n r came Vs).length ≤ 60 * Vs.length
  | [], _, _ => Nat.le_refl _
  | V :: Vs, came, h => by
    show (wdown n r came V ++ wto n r V Vs).length ≤ _
    have := wdown_len (n := n) (r := r) (came := came) h5 (h V List.mem_cons_self)
    have := wto_len h5 (Vs := Vs) (came := V) fun W hW => h W (List.mem_cons_of_mem _ hW)
    rw [List.length_append, List.length_cons]
    omega
theorem ViewsOf.few (h5 : n ≤ 5) (R : OkN n r) {Vs : List (List Nat)} (hV : ViewsOf r Vs) : Vs.length ≤ 6 ∧ ∀ V ∈ Vs, V.length ≤ 5 := by
  have hl : ∀ V ∈ Vs, V.length ≤ 5 := fun V hv => by
    obtain ⟨i, hi⟩ := hV.is V hv
    have := nodup_le (l := V) (m := List.range n) (nodup_up (R.up _ _ hi)) fun x hx => List.mem_range.mpr (R.rng _ _ hi x hx)
    rw [List.length_range] at this
    omega
  refine ⟨?_, hl⟩
  have := nodup_le (l := Vs.map List.length) (m := List.range 6) (by unfold List.Nodup; rw [List.pairwise_map]; exact hV.up.imp fun h => Nat.ne_of_lt h.1) fun x hx => by
    obtain ⟨V, hv, rfl⟩ := List.mem_map.mp hx
    exact List.mem_range.mpr (by have := hl V hv; omega)
  rwa [List.length_map, List.length_range] at this
end
end Fp
/-! The mirror of the reading of programs' texts -/
namespace Fp
open PySem PySem.Spec PyProof.Rows L2
def LET : Str := "abcdefghijklmnopqrstuvwxyz"
def FIG : Str := "0123456789"
def isLet (c : Nat) : Bool := decide (c ∈ sg LET)
def isFig (c : Nat) : Bool := decide (c ∈ sg FIG)
def isName (w : Str) : Bool := decide (1 ≤ w.length ∧ w.length ≤ 8) && ((match sg w with | c :: _ => isLet c | [] => false) && (sg w).all fun c => isLet c || isFig c)
def optI : Option Int → V
  | none => .non
  | some i => .int i
def isNeg (w : Str) : Bool := match sg w with | 45 :: _ => true | _ => false
def figsL (w : Str) : List Nat := if isNeg w then (sg w).tail else sg w
def intIn (w : Str) : Option Int :=
  if figsL w = [] ∨ 4000 < (figsL w).length then none
  else if (figsL w).all isFig = false then none
  else if (figsL w).head? = some 48 ∧ sg w ≠ [48] then none
  else some (if isNeg w then -((NumText.digitsVal (figsL w) : Nat) : Int) else ((NumText.digitsVal (figsL w) : Nat) : Int))
def numIn (w : Str) (lo hi : Int) : Option Int := match intIn w with
  | some n => if lo ≤ n ∧ n ≤ hi then some n else none
  | none => none
def GIVEN : List Str := ["mine", "me", "many"]
def LINES : List Str := ["hands", "keep", "write", "look", "wait", "if", "else", "again", "end", "ask", "say"]
def BTERM : List (Str × Str) := [("row", "K"), ("part", "EE"), ("least", "E"), ("greatest", "E"), ("lot", "E"), ("count", "E"), ("plus", "EE"), ("half", "E")]
def BTEST : List (Str × Str) := [("same", "EE"), ("less", "EE"), ("has", "EE"), ("not", "C"), ("and", "CC"), ("or", "CC")]
def isFree (w : Str) : Bool := isName w && !(((decide (w = "none") || GIVEN.any fun y => decide (y = w)) || LINES.any fun y => decide (y = w)) || ((BTERM.lookup w).isSome || (BTEST.lookup w).isSome))
/-- a token: its word, what it has -/
abbrev TokD := Str × V
def plainTok (w : Str) : Option (TokD × Str) :=
  if w = "none" ∨ (numIn w (-99) 99).isSome = true then some (("value", optI (numIn w (-99) 99)), "")
  else if (GIVEN.any fun y => decide (y = w)) = true ∨ isFree w = true then some (("name", .str w), "")
  else none
def tokIn (w sort : Str) : Option (Option TokD × Str) :=
  if sort = "K" then match numIn w 0 6 with
    | none => none
    | some n => some (some ("row", .int n), Txt.mul "E" n)
  else match (if sort = "C" then BTEST.lookup w else BTERM.lookup w) with
    | some b => some (if w = "row" then none else some (w, .int b.length), b)
    | none => if sort = "C" then none else (plainTok w).map fun p => (some p.1, p.2)
def signsL (z : Str) : List Str := (sg z).map fun c => ⟨#[c]⟩
def termLoop : List Str → List Str → List TokD → Option (List Str × List TokD)
  | [], wanted, toks => some (wanted, toks)
  | w :: ws, wanted, toks => match wanted.getLast? with
    | none => none
    | some s => match tokIn w s with
      | none => none
      | some (t, b) => termLoop ws (wanted.dropLast ++ signsL b) (toks ++ t.toList)
def termIn (ws : List Str) (sort : Str) : Option (List TokD) := match termLoop ws [sort] [] with
  | some ([], toks) => some toks
  | _ => none
/-! ### the mirror's facts -/
theorem isFig_iff (c : Nat) : isFig c = true ↔ 48 ≤ c ∧ c ≤ 57 := by
  unfold isFig
  have e : sg FIG = [48, 49, 50, 51, 52, 53, 54, 55, 56, 57] := by decide +kernel
  rw [e, decide_eq_true_iff]
  simp
  omega
theorem intIn_text {w : Str} {n : Int} (h : intIn w = some n) (hl : w.length ≤ 640) : PySem.intText? w = some n := by
  unfold intIn at h
  split at h
  · cases h
  rename_i h1
  split at h
  · cases h
  rename_i h2
  split at h
  · cases h
  rename_i h3
  have hd : NumText.AllDigits (figsL w) := fun c hc => by
    have := List.all_eq_true.mp (by simpa using h2) c hc
    exact (isFig_iff c).mp this
  have hne : figsL w ≠ [] := fun z => h1 (.inl z)
  by_cases hneg : isNeg w = true
  · have e1 : ∃ r, sg w = 45 :: r := by
      unfold isNeg at hneg
      split at hneg
      · exact ⟨_, by assumption⟩
      · cases hneg
    obtain ⟨r, hr⟩ := e1
    have e2 : figsL w = r := by unfold figsL; rw [if_pos hneg, hr]; rfl
    rw [e2] at hd hne h
    rw [if_pos hneg] at h
    rw [PySem.intText_neg hr hd hne (by omega)]
    exact h
  · have e2 : figsL w = sg w := by unfold figsL; rw [if_neg hneg]
    rw [e2] at hd hne h
    rw [if_neg hneg] at h
    rw [PySem.intText_digits hd hne (by omega)]
    exact h
end Fp
/-! sorted(xs), xs a list of tuples of integers of any lengths, none of them empty -/
namespace SrtO
open PySem PyProof.Rows Srt
section
variable {prog : Program} {w : World} {A : Around} {E : Value → Shared → Prop} {s : Shared}
theorem lots_lex {b fin : Bool} {Q : Bool → Shared → Prop} {xs ys : List Value} {ns ms : List Int} (i : Nat) (hx : IntsAre xs ns) (hy : IntsAre ys ms) (hf : fin = decide (xs.length < ys.length)) (h : Q (HT.lexLt ns ms) s) :
    PySem.W.KatLex prog w A b fin Q (xs.zip ys) i s := by
  induction hx generalizing ys ms i with
  | nil =>
    cases hy with
    | nil =>
      rw [show fin = false from hf.trans (decide_eq_false (by simp))]
      exact PySem.W.kat_nil h
    | cons q u hy =>
      rw [show fin = true from hf.trans (decide_eq_true (by simp))]
      exact PySem.W.kat_nil h
  | @cons p t xs ns hx ih =>
    cases hy with
    | nil =>
      rw [show fin = false from hf.trans (decide_eq_false (by simp))]
      exact PySem.W.kat_nil h
    | @cons q u ys ms hy =>
      show PySem.W.KatLex prog w A b fin Q ((Value.int p t, Value.int q u) :: xs.zip ys) i s
      rw [HT.lexLt_cons] at h
      refine PySem.W.kat_cons (wpAny_eqBool_int ?_)
      by_cases e : p = q
      · subst e
        rw [beq_self_eq_true]
        rw [if_pos rfl] at h
        refine PySem.W.kat_yes ?_
        exact ih (i + 1) hy (by simpa using hf) h
      · rw [show (p == q) = false from beq_eq_false_iff_ne.mpr e]
        rw [if_neg e] at h
        exact PySem.W.kat_no (TS.oneLt_ints _ h)
/-- v is a tuple of these integers -/
def IsLot (h : Heap) (v : Value) (ns : List Int) : Prop := ∃ (a : Addr) (o : Obj) (its : List Value) (n : Nat), v = .ref a ∧ h.get? a = some o ∧ o.cls = .type "tuple" ∧ o.data = .seq its.toArray n ∧ IntsAre its ns
theorem IsLot.keeps {h h' : Heap} {v : Value} {ns : List Int} (x : IsLot h v ns) (k : ∀ b o, h.get? b = some o → o.cls = .type "tuple" → h'.get? b = some o) : IsLot h' v ns := by
  obtain ⟨a, o, its, n, e, ho, hc, hd, hi⟩ := x
  exact ⟨a, o, its, n, e, k _ _ ho hc, hc, hd, hi⟩
theorem lot_cmp {vs : List Value} {k : Value → List Int} (hp : ∀ v ∈ vs, IsLot s.heap v (k v)) : Cmp prog w A s (tuples' true) (fun p => p.1 ∈ vs) (lt2 fun v u => HT.lexLt (k v) (k u)) := by
  intro p q hm hm'
  obtain ⟨a, o, its, n, e, ho, hc, hd, hi⟩ := hp _ hm
  obtain ⟨a', o', its', n', e', ho', hc', hd', hi'⟩ := hp _ hm'
  show wpAny (model prog w) A (keyLt' (tuples' true) p.1 q.1) (fun r s' => s' = s ∧ r = HT.lexLt (k p.1) (k q.1)) (fun _ _ => False) s
  rw [e] at hi ⊢
  rw [e'] at hi' ⊢
  refine PySem.W.kat_lt ho hd ho' hd' ?_
  exact lots_lex 0 hi hi' (by simp) ⟨rfl, rfl⟩
theorem lots_firsts : ∀ {vs : List Value} {k : Value → List Int}, (∀ v ∈ vs, IsLot s.heap v (k v) ∧ k v ≠ []) → ∃ fs, PySem.W.KatTups s.heap vs fs ∧ fs.length = vs.length ∧ ∀ f ∈ fs, ∃ x t, f = Value.int x t
  | [], _, _ => ⟨[], .nil, rfl, fun f hf => by cases hf⟩
  | v :: vs, k, h => by
    obtain ⟨fs, h1, h2, h3⟩ := lots_firsts fun u hu => h u (List.mem_cons_of_mem _ hu)
    obtain ⟨⟨a, o, its, n, e, ho, hc, hd, hi⟩, hne⟩ := h v List.mem_cons_self
    generalize k v = ns at hi hne
    cases hi with
    | nil => exact absurd rfl hne
    | @cons p t xs ns hx =>
      rw [e]
      refine ⟨.int p t :: fs, PySem.W.KatTups.cons ho hc hd (by simp) h1, by rw [List.length_cons, List.length_cons, h2], fun f hf => ?_⟩
      rcases List.mem_cons.mp hf with z | z
      · exact ⟨p, t, z⟩
      · exact h3 f z
theorem lots_sortableO {a : Addr} {vs : List Value} {k : Value → List Int} (h0 : 0 < vs.length) (hp : ∀ v ∈ vs, IsLot s.heap v (k v) ∧ k v ≠ []) (ha : ∀ o, s.heap.get? a = some o → o.cls ≠ .type "tuple") : SortableO prog w A s a vs fun v u => HT.lexLt (k v) (k u) := by
  intro h' keep
  have hp' : ∀ v ∈ vs, IsLot h' v (k v) ∧ k v ≠ [] := fun v hm => ⟨(hp v hm).1.keeps fun b o e c => keep b o (fun z => by subst z; exact ha o e c) e, (hp v hm).2⟩
  obtain ⟨fs, h1, h2, h3⟩ := lots_firsts (s := { s with heap := h' }) hp'
  refine ⟨tuples' true, fun Q E hq => ?_, lot_cmp (s := { s with heap := h' }) fun v hm => (hp' v hm).1⟩
  refine PySem.W.kat_kind (T := .type "int") h1 (by omega) (fun f hm => ?_) (by rfl) ?_
  · obtain ⟨x, t, rfl⟩ := h3 f hm
    exact PySem.W.Looks.now
  · have e : (Value.type "int" != Value.type "tuple") = true := by first | decide +kernel | rfl | decide
    rw [e]
    exact hq
/-- sorted(l) of such tuples: sorted by their integers, stable -/
theorem sorted_lotsO {l : Addr} {vs : List Value} {k : Value → List Int} {Q : Value → Shared → Prop} (hl : s.heap.IsList l vs.toArray) (hz : vs.length ≤ sizeLine) (hp : ∀ v ∈ vs, IsLot s.heap v (k v) ∧ k v ≠ [])
    (h : ∀ (h' : Heap) (d : Addr) (out : List Value), Srtd (fun v u => HT.lexLt (k v) (k u)) out → Stb (fun v u => HT.lexLt (k v) (k u)) out vs → (∀ b o, s.heap.get? b = some o → h'.get? b = some o) → s.heap.objs.size ≤ d → (∃ n, h'.get? d = some (seqObj "list" out.toArray n)) → Q (.ref d) { s with heap := h' }) :
    wpAny (model prog w) A (call (.builtin "sorted") [.ref l]) Q E s := by
  refine sorted_ord (NtL.swo_lexL k) hl hz (fun h2 h₁ a ha kk => ?_) fun out hs hb => ?_
  · refine lots_sortableO (s := { s with heap := h₁ }) (by omega) (fun v hm => ⟨(hp v hm).1.keeps fun b o e _ => (kk b o e).2, (hp v hm).2⟩) fun o e => ?_
    have e' : some o = some (seqObj "list" vs.toArray 0) := e.symm.trans ha
    cases e'
    intro c
    exact absurd (Value.type.inj c) (by decide)
  · exact h _ _ out hs hb (fun b o e => sortedAll_old e) (Nat.le_succ _) (sortedAll_at s.heap vs out.toArray)
end
end SrtO
namespace L2
open PySem PySem.Spec PyProof.Rows
/-- x before y: by their integers -/
abbrev ltL (k : V → List Int) (x y : V) : Bool := HT.lexLt (k x) (k y)
/-- sorted(xs), xs a list of tuples of integers, none empty (k says which): a new list, sorted, equal ones in their order -/
def rSortedLO (K : PySem.W.Frag) : List V → Hp → VK → Prop := fun vs H Q => ∃ (a : Addr) (xs : List V) (k : V → List Int), vs = [V.ref a] ∧ SqL K H a xs ∧ (∀ x ∈ xs, ∃ t, x = V.ref t ∧ H t = some (.tup ((k x).map V.int)) ∧ k x ≠ []) ∧
  ∀ ys p, SrtO.Srtd (ltL k) ys → SrtO.Stb (ltL k) ys xs → H p = none → Q (.ref p) (upd H p (.lst ys))
section
variable {X : Cx}
theorem cr_sortedLO : CallR X (.builtin "sorted") (rSortedLO X.K) := by
  intro pins s σ H vs us Q I r h
  obtain ⟨a, xs, k, rfl, hs, hx, q⟩ := h
  obtain ⟨its, rv, hl, hz⟩ := I.list hs
  obtain ⟨u, rfl, ru⟩ := vals1 r
  obtain rfl : u = Value.ref a := ru
  obtain ⟨e1, e2⟩ := refs_back rv fun x m => by
    obtain ⟨t, e, _⟩ := hx x m
    exact ⟨t, e⟩
  refine SrtO.sorted_lotsO (k := fun u => k (backV u)) hl.isList (by rw [← rv.length]; exact hz) (fun v hv => ?_) fun h' d out h1 h2 kp hd hn => ?_
  · obtain ⟨t, rfl⟩ := e2 v hv
    have hm : V.ref t ∈ xs := by rw [e1]; exact List.mem_map.mpr ⟨_, hv, rfl⟩
    obtain ⟨t', e, ht, hne⟩ := hx _ hm
    cases e
    obtain ⟨_, its2, r2, o, ho, hc, n, hd⟩ := I.hok _ _ ht
    exact ⟨⟨t, o, its2, n, rfl, ho, hc, hd, Fp.ints_vals r2⟩, hne⟩
  · have h3 : ∀ u ∈ out, ∃ a, u = Value.ref a := fun u hu => e2 u (h2.perm.mem_iff.mp hu)
    obtain ⟨n, hn⟩ := hn
    have hb : SrtO.Stb (ltL k) (out.map backV) xs := by
      rw [e1]
      exact SrtO.Stb.map (NtL.swo_lexL k) backV h2
    refine ⟨.ref d, upd H d (.lst (out.map backV)), I.laid (t' := s.toks) kp hd ⟨?_, out, n, vals_back h3, hn⟩, rfl, q _ d (SrtO.srtd_map h1) hb (I.hok.fresh hd)⟩
    rw [hb.len]
    exact hz
end
end L2
/-! sorted(set of tuples of integers of any lengths); sorted(xs, key=len), with reverse=True too -/
namespace L2
open PySem PySem.Spec PyProof.Rows
theorem perm_mapF {α β : Type} {f : α → β} {vs ws : List β} (h : vs.Perm ws) : ∀ {L : List α}, ws = L.map f → ∃ M : List α, M.Perm L ∧ vs = M.map f := by
  induction h with
  | nil => intro L e; exact ⟨L, List.Perm.refl _, e⟩
  | cons x h ih =>
    intro L e
    cases L with
    | nil => cases e
    | cons y L =>
      rw [List.map_cons] at e
      injection e with e1 e2
      obtain ⟨M, hp, em⟩ := ih e2
      exact ⟨y :: M, hp.cons y, by rw [List.map_cons, ← e1, ← em]⟩
  | swap x y l =>
    intro L e
    match L, e with
    | [], e => cases e
    | [z], e => cases e
    | z :: u :: L, e =>
      rw [List.map_cons, List.map_cons] at e
      injection e with e1 e2
      injection e2 with e2 e3
      exact ⟨u :: z :: L, List.Perm.swap _ _ _, by rw [List.map_cons, List.map_cons, ← e1, ← e2, ← e3]⟩
  | trans h1 h2 ih1 ih2 =>
    intro L e
    obtain ⟨M, pm, em⟩ := ih2 e
    obtain ⟨N, pn, en⟩ := ih1 em
    exact ⟨N, pn.trans pm, en⟩
section
variable {P : Program} {w : World} {A : Around} {E : Value → Shared → Prop} {s : Shared}
/-- sorted(set) of such tuples, none of them empty -/
theorem sorted_setL {u : Addr} {L : List (Addr × List Int)} {rows : Array (Int × Value)} {ep : Nat} {tb : SetTable} {Q : Value → Shared → Prop} (R : SetTR P w s.heap u L rows ep tb) (hh : A.handled = none) (hne : ∀ p ∈ L, p.2 ≠ [])
    (hQ : ∀ z d (out : Array Value) (c : Nat) (M : List (Addr × List Int)), (∀ b o, s.heap.get? b = some o → z.heap.get? b = some o) → z.gens = s.gens → z.os = s.os → s.heap.objs.size ≤ d →
      z.heap.get? d = some (seqObj "list" out c) → out.toList = M.map (fun q => Value.ref q.1) → M.Perm L → M.Pairwise (fun q r => HT.lexLt r.2 q.2 = false) → Q (.ref d) z) :
    wpAny (model P w) A (call (.builtin "sorted") [.ref u]) Q E s := by
  obtain ⟨o, hob, hex, hdt⟩ := R.ob
  have few := R.few
  have size := R.size
  refine Calls.call_function_entry kind_sorted plain_sorted entry_sorted (args_sorted1 _) ?_
  unfold Builtin.«sorted»
  refine wpAny_bind (m := checkCount "sorted" 1 1 _) (wpAny_pure ?_)
  refine wpAny_bind (collect_set (A := A.in1) hh ⟨o, hob, hex.1, hdt⟩ R.fits (by unfold scanBound; omega) R.tab.ris R.led fun z got kp hz hg ho pm => ?_)
  have er : rows.toList.map (·.2) = L.map fun q => Value.ref q.1 := by
    have e := R.rows
    unfold rowsOf at e
    rw [e, List.map_map]; rfl
  obtain ⟨M, pM, eM⟩ := perm_mapF pm er
  have gl : got.length < 64 := by rw [eM, List.length_map, pM.length_eq]; exact few
  have gz : got.length ≤ sizeLine := by rw [sizeLine_eq]; omega
  refine wpAny_bind (wpAny_newList ?_ gz)
  have hLst : (z.heap.push (seqObj "list" got.toArray 0)).get? z.heap.objs.size = some (seqObj "list" got.toArray 0) := Heap.get?_push_size _ rfl
  have keep : ∀ b o, s.heap.get? b = some o → b ≠ z.heap.objs.size ∧ (z.heap.push (seqObj "list" got.toArray 0)).get? b = some o := fun b o e => by
    have e2 := kp b o e
    exact ⟨Nat.ne_of_lt (Heap.lt_size e2), Heap.get?_push_of_some _ e2⟩
  have ti : ∀ q ∈ L, TS.TupInts (z.heap.push (seqObj "list" got.toArray 0)) (.ref q.1) q.2 := fun q hq => tupInts_of (P := P) (w := w) (isT_keep (R.tup q hq) fun b o e => (keep b o e).2)
  have lot : ∀ v ∈ got, SrtO.IsLot (z.heap.push (seqObj "list" got.toArray 0)) v (TS.intsOf (z.heap.push (seqObj "list" got.toArray 0)) v) ∧ TS.intsOf (z.heap.push (seqObj "list" got.toArray 0)) v ≠ [] := fun v hv => by
    rw [eM] at hv
    obtain ⟨q, hq, rfl⟩ := List.mem_map.mp hv
    have hq := pM.mem_iff.mp hq
    have t := ti q hq
    rw [t.ints]
    obtain ⟨a, xs, e, ⟨o, ho, hc, n, hd⟩, hi⟩ := t
    exact ⟨⟨a, o, xs.toList, n, e, ho, hc, by rw [hd], hi⟩, hne q hq⟩
  refine wpAny_bind (wpAny_holding (wpAny_call_entry slot_list_sort ⟨_, hLst, rfl⟩ entry_list_sort (SrtO.list_sort_ord (s := { z with heap := z.heap.push (seqObj "list" got.toArray 0) }) (NtL.swo_lexL fun v => TS.intsOf (z.heap.push (seqObj "list" got.toArray 0)) v) hLst gz (fun h2 => ?_) fun out h1 hb => ⟨_, rfl, ?_⟩) (args_list_sort _)))
  · refine SrtO.lots_sortableO (s := { z with heap := z.heap.push (seqObj "list" got.toArray 0) }) (by omega) lot fun o e => ?_
    have e' : some o = some (seqObj "list" got.toArray 0) := e.symm.trans hLst
    cases e'
    intro c
    exact absurd (Value.type.inj c) (by decide)
  · obtain ⟨c, hc⟩ := sortedHeap_at (vs := got) (out := out.toArray) hLst
    obtain ⟨N, pN, eN⟩ := perm_mapF hb.perm eM
    refine wpAny_pure ⟨_, rfl, hQ _ z.heap.objs.size out.toArray c N (fun b o e => ?_) hg ho hz hc (by simpa using eN) (pN.trans pM) ?_⟩
    · obtain ⟨n1, e2⟩ := keep b o e
      exact (sortedHeap_old n1 (Heap.lt_size e2)).trans e2
    · have h1' : out.Pairwise (fun a b => HT.lexLt (TS.intsOf (z.heap.push (seqObj "list" got.toArray 0)) b) (TS.intsOf (z.heap.push (seqObj "list" got.toArray 0)) a) = false) := h1
      rw [eN] at h1'
      refine List.Pairwise.imp_of_mem (fun {q r} hq hr hle => ?_) (List.pairwise_map.mp h1')
      rw [(ti q ((pN.trans pM).mem_iff.mp hq)).ints, (ti r ((pN.trans pM).mem_iff.mp hr)).ints] at hle
      exact hle
end
/-- sorted(set of lots) -/
def rSortedSL (K : PySem.W.Frag) (P : Program) (w : World) : List V → Hp → VK → Prop := fun vs H Q => ∃ (a : Addr) (L : List (Addr × List Int)), vs = [V.ref a] ∧ H a = some (SetTO P w a L) ∧ (∀ p ∈ L, SqT K H p.1 (p.2.map V.int)) ∧ (∀ p ∈ L, p.2 ≠ []) ∧
  ∀ (M : List (Addr × List Int)) (p : Addr), M.Perm L → (M.map (·.2)).Nodup → M.length < 64 → M.Pairwise (fun q r => HT.lexLt r.2 q.2 = false) → H p = none → Q (.ref p) (upd H p (.lst (M.map fun q => V.ref q.1)))
section
variable {X : Cx}
theorem cr_sortedSL (hc : X.calm = true) : CallR X (.builtin "sorted") (rSortedSL X.K X.prog X.w) := by
  intro pins s σ H vs us Q I r h
  obtain ⟨a, L, rfl, ha, hk, hne, q⟩ := h
  have R0 : SetT0 X.prog X.w s.heap a L := (I.hok a _ ha).1
  obtain ⟨rows, ep, tb, R⟩ := R0.full fun p hp => I.isT (hk p hp)
  rw [Vals.ref1 r]
  refine sorted_setL R (I.ok.hd hc) hne fun z d out c M kp hg ho hd hout ho2 pm pw => ?_
  have few : M.length < 64 := by rw [pm.length_eq]; exact R.few
  have hl : (M.map fun q => V.ref q.1).length ≤ sizeLine := by rw [List.length_map, sizeLine_eq]; omega
  have nd : H d = none := I.hok.fresh hd
  have rv : Vals (M.map fun q => V.ref q.1) out.toList := by rw [ho2]; exact vals_of_refs M
  have J : Inv X pins σ (upd H d (.lst (M.map fun q => V.ref q.1))) { s with heap := z.heap, gens := z.gens, drawn := z.drawn, toks := z.toks } :=
    I.call (ch := []) (Un.laid kp hd nd) (I.hok.laid kp hd ⟨hl, out.toList, c, rv, hout⟩) (by rw [hg]; exact I.bare) (fun _ n => nomatch n)
  have ez : z = { s with heap := z.heap, gens := z.gens, drawn := z.drawn, toks := z.toks } := by
    cases z
    cases s
    cases ho
    rfl
  rw [ez]
  exact ⟨.ref d, _, J, rfl, q M d pm ((pm.map (·.2)).nodup_iff.mpr R.nd) few pw nd⟩
end
end L2
namespace L2
open PySem PySem.Spec PyProof.Rows PySem.W
def lenLe (b : Bool) (n : V → Int) (x y : V) : Bool := if b = true then decide (n y ≤ n x) else decide (n x ≤ n y)
theorem vals_of_each {out : List Value} {ys : List V} (h : EachIs (fun v x => RelV x v) out ys) : Vals ys out := by
  induction h with
  | nil => exact .nil
  | cons h _ ih => exact .cons h ih
theorem each_of_vals {out : List Value} {ys : List V} (h : Vals ys out) : EachIs (fun v x => RelV x v) out ys := by
  induction h with
  | nil => exact .nil
  | cons h _ ih => exact .cons h ih
theorem ints_alike {α : Type} (n : α → Int) (l : List α) : AllAlike (l.map fun x => PyData.int (n x)) := fun d hd d' hd' => by
  obtain ⟨x, _, rfl⟩ := List.mem_map.mp hd
  obtain ⟨y, _, rfl⟩ := List.mem_map.mp hd'
  rfl
section
variable {X : Cx}
/-- sorted(xs, key=len ..), xs a list of tuples -/
theorem sorted_len_run {kw : List (Str × Value)} {b : Bool} {pins : List (Addr × Obj)} {s : Shared} {σ : L2.St} {H : Hp} {a : Addr} {xs : List V} {n : V → Int} {Q : VK} (I : Inv X pins σ H s) (hs : SqL X.K H a xs)
    (hx : ∀ x ∈ xs, ∃ t ys, x = V.ref t ∧ SqT X.K H t ys ∧ n x = ((ys.length : Nat) : Int)) (hu : X.A.units + 64 < cLine)
    (h1 : argsOk "sorted" ⟨[.ref a], kw⟩) (h2 : ∀ x, argsOk "list.sort" ⟨[.ref x], kw⟩) (h3 : ∀ x, Builtin.«list.sort» ⟨[.ref x], kw⟩ = ksk_tree x (.builtin "len") b)
    (q : ∀ p, H p = none → Q (.ref p) (upd H p (.lst (xs.mergeSort (lenLe b n))))) : wpAny (model X.prog X.w) X.A (call (.builtin "sorted") [.ref a] kw) (EP X pins σ Q) X.xe s := by
  obtain ⟨its, rv, hl, hz⟩ := I.list hs
  have hle : dataLe b (fun x => PyData.int (n x)) = lenLe b n := by
    cases b with
    | true => exact dataGe_int n
    | false => exact dataLe_int n
  refine sorted_key_data (b := b) (fun x : V => PyData.int (n x)) hl.isList (each_of_vals rv) (ints_alike n xs) (.inr fun d hd => ?_) hz (fun x _ => ?_) h1 h2 h3 (fun v x hr hxm h tk kp => ?_) fun out c h' tk kp _ hD hlen eo => ?_
  · obtain ⟨x, _, rfl⟩ := List.mem_map.mp hd
    exact ⟨fun z => (by cases z), fun ys z => (by cases z)⟩
  · have : (PyData.int (n x)).depth ≤ 1 := by simp [PyData.depth]
    omega
  · obtain ⟨t, ys, rfl, hq, hn⟩ := hx x hxm
    obtain rfl : v = Value.ref t := hr
    obtain ⟨us, rv2, pl, hz2⟩ := I.tuple hq
    obtain ⟨o, ho, hc, m, hd⟩ := pl
    have hl2 := rv2.length
    have hsz := sizeLine_eq
    refine len_tuple (items := us.toArray) ⟨o, kp _ _ ho, hc, m, hd⟩ (by rw [List.size_toArray]; omega) ⟨h, _, rfl, fun _ _ e => e, ?_⟩
    have e : n (V.ref t) = ((us.toArray.size : Nat) : Int) := by rw [hn, List.size_toArray, hl2]
    show Reads h _ (PyData.int (n (V.ref t))) []
    rw [e]
    exact .int _ _
  · rw [hle] at eo
    have r2 := vals_of_each eo
    have nd : H (s.heap.objs.size + 1) = none := I.hok.fresh (Nat.le_succ _)
    refine ⟨.ref (s.heap.objs.size + 1), _, I.laid (t' := tk) kp (Nat.le_succ _) (show ObjOk X.prog X.w _ h' _ (.lst (xs.mergeSort (lenLe b n))) from ⟨?_, out, c, r2, hD⟩), rfl, q _ nd⟩
    rw [List.length_mergeSort]; exact hz
end
def tSortedLen (K : PySem.W.Frag) (b : Bool) (t : TA) : TE := fun σ H Q => t σ H fun vs H1 => ∃ (a : Addr) (xs : List V) (n : V → Int), vs = [.ref a] ∧ SqL K H1 a xs ∧ (∀ x ∈ xs, ∃ t ys, x = V.ref t ∧ SqT K H1 t ys ∧ n x = ((ys.length : Nat) : Int)) ∧
  ∀ p, H1 p = none → Q (.ref p) (upd H1 p (.lst (xs.mergeSort (lenLe b n))))
section
variable {X : Cx} {p q r pos k1 k2 : Pos} {e : Expr} {t : TA} {b : Bool} {j : Nat}
theorem pe_sortedLen (hu : X.A.units + 64 < cLine) (hg : Gl X "sorted") (hm : X.mg "sorted" = none) (hg2 : Gl X "len") (hm2 : X.mg "len" = none) (ha : PA X [e] t)
    (he : backTo pos (starEach [e] X.env) = (false, eval e X.env) :: backTo pos (starEach [] X.env) := by rfl) (hpl : (backTo pos (starEach [e] X.env)).any (·.1) = false := by rfl)
    (hall : (backToKw pos (keywordEach [⟨some "key", .Name "len" q, k1⟩] X.env)).all (·.1.isSome) = true := by rfl) (hnone : (backToKw pos (keywordEach [⟨some "key", .Name "len" q, k1⟩] X.env)).any (·.1.isNone) = false := by rfl)
    (hks : (backToKw pos (keywordEach [⟨some "key", .Name "len" q, k1⟩] X.env)).filterMap (·.1) = [Str.ofString "key"] := by rfl) :
    PE X (.Call (.Name "sorted" p) [e] [⟨some "key", .Name "len" q, k1⟩] pos) (tSortedLen X.K false t) := by
  refine ⟨fun pins s σ H Q I h => ?_⟩
  refine wpAny_Call_Name_kw (ld_blt I hg hm (by rfl : bootBuiltins "sorted" = some (.builtin "sorted")) ?_)
  refine PyProof.Rows.callWith_kw (thn (ha.run pos pins s σ H _ I h) fun us s1 ⟨vs, H1, I1, r1, q1⟩ => ?_) he hpl hall hnone
  show wpAny _ _ (evalAll ((do let v ← eval (.Name "len" q) X.env; standAt pos; pure v) :: ((backToKw pos (keywordEach [] X.env)).map (·.2)))) _ _ s1
  refine wpAny_evalAll_cons (wpAny_bind (ld_blt I1 hg2 hm2 (by rfl : bootBuiltins "len" = some (.builtin "len")) (wpAny_bind (wpAny_standAt (wpAny_pure ?_)))))
  refine wpAny_evalAll_nil ?_
  rw [hks]
  obtain ⟨a, xs, n, rfl, hs, hx, k⟩ := q1
  obtain rfl := Vals.ref1 r1
  exact sorted_len_run I1 hs hx hu (ksk_s1 _ _) (fun _ => ksk_l1 _ _) (fun _ => ksk_t4 _ _) k
theorem pe_sortedLenR (hu : X.A.units + 64 < cLine) (hg : Gl X "sorted") (hm : X.mg "sorted" = none) (hg2 : Gl X "len") (hm2 : X.mg "len" = none) (ha : PA X [e] t)
    (he : backTo pos (starEach [e] X.env) = (false, eval e X.env) :: backTo pos (starEach [] X.env) := by rfl) (hpl : (backTo pos (starEach [e] X.env)).any (·.1) = false := by rfl)
    (hall : (backToKw pos (keywordEach [⟨some "key", .Name "len" q, k1⟩, ⟨some "reverse", .Constant (.bool b) j r, k2⟩] X.env)).all (·.1.isSome) = true := by rfl) (hnone : (backToKw pos (keywordEach [⟨some "key", .Name "len" q, k1⟩, ⟨some "reverse", .Constant (.bool b) j r, k2⟩] X.env)).any (·.1.isNone) = false := by rfl)
    (hks : (backToKw pos (keywordEach [⟨some "key", .Name "len" q, k1⟩, ⟨some "reverse", .Constant (.bool b) j r, k2⟩] X.env)).filterMap (·.1) = [Str.ofString "key", Str.ofString "reverse"] := by rfl) :
    PE X (.Call (.Name "sorted" p) [e] [⟨some "key", .Name "len" q, k1⟩, ⟨some "reverse", .Constant (.bool b) j r, k2⟩] pos) (tSortedLen X.K b t) := by
  refine ⟨fun pins s σ H Q I h => ?_⟩
  refine wpAny_Call_Name_kw (ld_blt I hg hm (by rfl : bootBuiltins "sorted" = some (.builtin "sorted")) ?_)
  refine PyProof.Rows.callWith_kw (thn (ha.run pos pins s σ H _ I h) fun us s1 ⟨vs, H1, I1, r1, q1⟩ => ?_) he hpl hall hnone
  show wpAny _ _ (evalAll ((do let v ← eval (.Name "len" q) X.env; standAt pos; pure v) :: (do let v ← eval (.Constant (.bool b) j r) X.env; standAt pos; pure v) :: ((backToKw pos (keywordEach [] X.env)).map (·.2)))) _ _ s1
  refine wpAny_evalAll_cons (wpAny_bind (ld_blt I1 hg2 hm2 (by rfl : bootBuiltins "len" = some (.builtin "len")) (wpAny_bind (wpAny_standAt (wpAny_pure ?_)))))
  refine wpAny_evalAll_cons (wpAny_bind (Constant_bool (wpAny_bind (wpAny_standAt (wpAny_pure ?_)))))
  refine wpAny_evalAll_nil ?_
  rw [hks]
  obtain ⟨a, xs, n, rfl, hs, hx, k⟩ := q1
  obtain rfl := Vals.ref1 r1
  exact sorted_len_run I1 hs hx hu (ksk_s2 _ _ _) (fun _ => ksk_l2 _ _ _) (fun _ => ksk_t5 _ _ _) k
end
end L2
namespace Fp
open PySem PySem.Spec PyProof.Rows L2
section
variable {J : It} {n : Nat} {G : Hp → Prop} {Y : Nat → Hp → V → Hp → Prop}
/-- a comprehension of things, each told by a relation that stays; of each item one thing or none -/
theorem lc_rel {α : Type} (w : Walk J n G Y) (R : Hp → V → α → Prop) (ms : Nat → List α) {g : TG} {tt : L2.TT} {te : TE} {vs : List Nat} {σ : L2.St} {H1 : Hp} {D : Addr} {Qd : Hp → Prop} (hD : H1 D = none) (hn : n < 10000000) (h1 : ∀ i, (ms i).length ≤ 1)
    (hst : ∀ H H' v a, Same H H' → R H v a → R H' v a) (hpt : ∀ H v a us zs, H D = some (.lst us) → R H v a → R (upd H D (.lst zs)) v a) (hG : ∀ H, Same H1 H → G H)
    (hs : ∀ i x H H', i < n → Same H1 H → Y i H x H' → ∀ (Q4 : VK) (N : Hp → Prop), (∀ a y H4, ms i = [a] → Same H H4 → R H4 y a → Q4 y H4) → (ms i = [] → ∀ H4, Same H H4 → N H4) →
      g x (wipe σ vs) H' fun σ2 H2 => wipe σ2 vs = wipe σ vs ∧ tt σ2 H2 fun b H3 => if b = true then te σ2 H3 Q4 else N H3)
    (hd : ∀ H acc, Same H1 H → H D = some (.lst acc) → Paired (R H) acc ((List.range n).flatMap ms) → acc.length ≤ n → Qd H) :
    ∃ W : Nat → Nat → Hp → Prop, (∃ m, W 0 m (upd H1 D (.lst []))) ∧ ∀ i m H, W i m H →
      (J.stop i H ∧ Qd H) ∨ (J.go i H ∧ ∃ Nx : Hp → Prop, (∀ H', Nx H' → ∃ m', m' < m ∧ W (i + 1) m' H') ∧ ∀ x H', J.yld i H x H' → g x (wipe σ vs) H' fun σ2 H2 => wipe σ2 vs = wipe σ vs ∧ tt σ2 H2 fun b H3 =>
        if b = true then te σ2 H3 fun y H4 => ∃ acc, H4 D = some (.lst acc) ∧ acc.length < sizeLine ∧ Nx (upd H4 D (.lst (acc ++ [y]))) else Nx H3) := by
  refine lc_it w (fun i H => Same H1 H ∧ ∃ acc, H D = some (.lst acc) ∧ Paired (R H) acc ((List.range i).flatMap ms) ∧ acc.length ≤ i) ⟨same_new hD _, [], upd_same, .nil, Nat.le_refl _⟩ (fun i H _ z => hG H z.1) (fun i x H H' hi z y => ?_) fun H z => ?_
  · obtain ⟨g1, acc, hacc, hp, hl⟩ := z
    have ex : (List.range (i + 1)).flatMap ms = (List.range i).flatMap ms ++ ms i := by
      rw [List.range_succ, List.flatMap_append]; simp
    refine hs i x H H' hi g1 y _ _ (fun a v H4 e g4 r => ?_) fun e H4 g4 => ?_
    · refine ⟨acc, g4 _ _ hacc, szt (by omega), fun b o q => ?_, acc ++ [v], upd_same, ?_, by rw [List.length_append]; exact Nat.succ_le_succ hl⟩
      · rw [upd_ne (ne_of_none q hD)]; exact g4 _ _ (g1 _ _ q)
      · rw [ex, e]
        exact pr_imp (fun v a h => hpt H4 v a acc _ (g4 _ _ hacc) h) (pr_snoc r (pr_imp (fun v a h => hst H H4 v a g4 h) hp))
    · refine ⟨g1.trans g4, acc, g4 _ _ hacc, ?_, Nat.le_succ_of_le hl⟩
      rw [ex, e, List.append_nil]
      exact pr_imp (fun v a h => hst H H4 v a g4 h) hp
  · obtain ⟨g1, acc, hacc, hp, hl⟩ := z
    exact hd H acc g1 hacc hp hl
/-- the same for integers -/
theorem lc_ints (w : Walk J n G Y) (ms : Nat → List Int) {g : TG} {tt : L2.TT} {te : TE} {vs : List Nat} {σ : L2.St} {H1 : Hp} {D : Addr} {Qd : Hp → Prop} (hD : H1 D = none) (hn : n < 10000000) (h1 : ∀ i, (ms i).length ≤ 1) (hG : ∀ H, Same H1 H → G H)
    (hs : ∀ i x H H', i < n → Same H1 H → Y i H x H' → ∀ (Q4 : VK) (N : Hp → Prop), (∀ a H4, ms i = [a] → Same H H4 → Q4 (.int a) H4) → (ms i = [] → ∀ H4, Same H H4 → N H4) →
      g x (wipe σ vs) H' fun σ2 H2 => wipe σ2 vs = wipe σ vs ∧ tt σ2 H2 fun b H3 => if b = true then te σ2 H3 Q4 else N H3)
    (hd : ∀ H, Same H1 H → H D = some (.lst (((List.range n).flatMap ms).map V.int)) → ((List.range n).flatMap ms).length ≤ n → Qd H) :
    ∃ W : Nat → Nat → Hp → Prop, (∃ m, W 0 m (upd H1 D (.lst []))) ∧ ∀ i m H, W i m H →
      (J.stop i H ∧ Qd H) ∨ (J.go i H ∧ ∃ Nx : Hp → Prop, (∀ H', Nx H' → ∃ m', m' < m ∧ W (i + 1) m' H') ∧ ∀ x H', J.yld i H x H' → g x (wipe σ vs) H' fun σ2 H2 => wipe σ2 vs = wipe σ vs ∧ tt σ2 H2 fun b H3 =>
        if b = true then te σ2 H3 fun y H4 => ∃ acc, H4 D = some (.lst acc) ∧ acc.length < sizeLine ∧ Nx (upd H4 D (.lst (acc ++ [y]))) else Nx H3) := by
  have inv : ∀ {H : Hp} {acc : List V} {ns : List Int}, Paired (fun (v : V) (a : Int) => v = .int a) acc ns → acc = ns.map V.int := fun {H} {acc} {ns} h => by
    induction h with
    | nil => rfl
    | cons h _ ih => rw [h, ih]; rfl
  refine lc_rel w (fun _ v (a : Int) => v = .int a) ms hD hn h1 (fun _ _ _ _ _ h => h) (fun _ _ _ _ _ _ h => h) hG (fun i x H H' hi g1 y Q4 N hQ hN => hs i x H H' hi g1 y Q4 N (fun a H4 e g4 => hQ a _ H4 e g4 rfl) hN) fun H acc g1 hacc hp hl => ?_
  have e := inv (H := H) hp
  subst e
  exact hd H g1 hacc (by simpa using hl)
end
end Fp
/-! [elt for .. in .. for .. in .. for .. in ..]: three clauses, put together clause by clause -/
namespace L2
open PySem PySem.Spec PyProof.Rows
abbrev NoE : Value → Shared → Prop := fun _ _ => False
abbrev BW := (Shared → Prop) → Shared → Prop
def LoopRule (prog : Program) (w : World) (A : Around) (E : Expr) (k : Nat) (acc : Value) (env : Env) (tg : Expr) (ifs : List Expr) (bw : BW) : Prop :=
  ∀ (it : Value) (R : Result → Shared → Prop) (s : Shared) (J : Nat → Shared → Prop),
    (∀ n s, J n s → wpAny (model prog w) A (pyNext it) (fun r z => match r with
      | none => R (.ok .next) z
      | some v => wpAny (model prog w) A (letOwnedTupleGo tg it v) (fun _ z1 => wpAny (model prog w) A (assign tg env v) (fun _ z2 =>
          wpAny (model prog w) A (forIn ifs true fun c r => if r = true then do let ok ← isTrue c env (eval c env); pure (ForInStep.yield ok) else pure (ForInStep.yield r)) (fun b z3 =>
            if b = true then bw (fun z4 => ∃ m, m < n ∧ J m z4) z3 else ∃ m, m < n ∧ J m z3) NoE z2) NoE z1) NoE z) NoE s) →
    ∀ n, J n s → codeAny (model prog w) A (.compLoop E k it acc env) R s
def bwOut (prog : Program) (w : World) (A : Around) (E : Expr) (k : Nat) (acc : Value) (env : Env) (i1 : Expr) : BW := fun Post s =>
  wpAny (model prog w) A (eval i1 env) (fun x z => wpAny (model prog w) A (pyIter x) (fun it1 z1 => codeAny (model prog w) A (.compStart E (k + 1) it1 acc env) (fun r z2 => match r with
    | .ok _ => Post z2
    | .error _ => False) z1) NoE z) NoE s
def bwIn (prog : Program) (w : World) (A : Around) (acc : Value) (env : Env) (elt : Expr) : BW := fun Post s =>
  wpAny (model prog w) A (eval elt env) (fun x z => wpAny (model prog w) A (call (.builtin "list.append") [acc, x]) (fun _ z1 => Post z1) NoE z) NoE s
section
variable {prog : Program} {w : World} {A : Around} {e0 elt tg i0 i1 : Expr} {ges : List Comprehension} {scope : Scope} {pos : Pos} {k : Nat} {acc : Value} {env : Env} {ifs : List Expr}
theorem loop_out (hs : ∀ x, foldedSetIterable i1 env x = pure x)
    (hk : ∀ it, compTurn (.ListComp e0 ges scope pos) k it acc env = (do
      standAt i0.pos
      match ← pyNext it with
      | none => pure (.done .next)
      | some v =>
        letOwnedTupleGo tg it v
        assign tg env v
        let mut ok := true
        for c in ifs do
          if ok then ok ← isTrue c env (eval c env)
        if ok then
          let x ← eval i1 env
          standAt i1.pos
          let x ← foldedSetIterable i1 env x
          let _ ← runOwn (.compStart (.ListComp e0 ges scope pos) (k + 1) (← holding [x] (pyIter x)) acc env) env
        again (.compLoop (.ListComp e0 ges scope pos) k it acc env))) : LoopRule prog w A (.ListComp e0 ges scope pos) k acc env tg ifs (bwOut prog w A (.ListComp e0 ges scope pos) k acc env i1) := by
  intro it R s J turn n h
  refine codeAny_loop rfl J (fun m z hJ => ?_) n h
  show wpAny _ A ((compTurn (.ListComp e0 ges scope pos) k it acc env).onRaise (fun x => do noteFrame x env; theTreesLotGoes x)) _ _ z
  refine wpAny_noted ?_
  rw [hk]
  refine wpAny_bind (wpAny_standAt (wpAny_bind (thnF (turn m z hJ) fun r z1 h1 => ?_)))
  cases r with
  | none => exact wpAny_pure h1
  | some v =>
    refine wpAny_bind (thnF h1 fun _ z2 h2 => ?_)
    refine wpAny_bind (thnF h2 fun _ z3 h3 => wpAny_bind (thnF h3 fun b z4 h4 => ?_))
    cases b with
    | false => exact wpAny_pure ⟨rfl, h4⟩
    | true =>
      refine wpAny_bind (thnF h4 fun x z5 h5 => ?_)
      refine wpAny_bind (wpAny_standAt (wpAny_bind (wpAny_of_eq (hs x) (wpAny_bind (wpAny_holding (thnF h5 fun it1 z6 h6 => ?_))))))
      refine wpAny_bind (wpAny_runOwn ?_)
      rw [Around.mark_none]
      refine codeAny_mono h6 fun r z7 h7 => ?_
      cases r with
      | ok f =>
        first
          | exact wpAny_pure ⟨rfl, h7⟩
          | exact wpAny_bind (wpAny_pure (wpAny_pure ⟨rfl, h7⟩))
      | error e => exact h7.elim
theorem loop_in
    (hk : ∀ it, compTurn (.ListComp e0 ges scope pos) k it acc env = (do
      standAt i0.pos
      match ← pyNext it with
      | none => pure (.done .next)
      | some v =>
        letOwnedTupleGo tg it v
        assign tg env v
        let mut ok := true
        for c in ifs do
          if ok then ok ← isTrue c env (eval c env)
        if ok then
          (do let _ ← call (.builtin "list.append") [acc, ← eval elt env])
        again (.compLoop (.ListComp e0 ges scope pos) k it acc env))) : LoopRule prog w A (.ListComp e0 ges scope pos) k acc env tg ifs (bwIn prog w A acc env elt) := by
  intro it R s J turn n h
  refine codeAny_loop rfl J (fun m z hJ => ?_) n h
  show wpAny _ A ((compTurn (.ListComp e0 ges scope pos) k it acc env).onRaise (fun x => do noteFrame x env; theTreesLotGoes x)) _ _ z
  refine wpAny_noted ?_
  rw [hk]
  refine wpAny_bind (wpAny_standAt (wpAny_bind (thnF (turn m z hJ) fun r z1 h1 => ?_)))
  cases r with
  | none => exact wpAny_pure h1
  | some v =>
    refine wpAny_bind (thnF h1 fun _ z2 h2 => ?_)
    refine wpAny_bind (thnF h2 fun _ z3 h3 => wpAny_bind (thnF h3 fun b z4 h4 => ?_))
    cases b with
    | false => exact wpAny_pure ⟨rfl, h4⟩
    | true => exact wpAny_bind (wpAny_bind (thnF h4 fun x z5 h5 => wpAny_bind (thnF h5 fun _ z6 h6 => wpAny_pure (wpAny_pure ⟨rfl, h6⟩))))
end
/-- what a clause hands on: the heap is as N says, the slots outside vs stay -/
def Kept (X : Cx) (pins : List (Addr × Obj)) (σ : St) (vs : List Nat) (N : Hp → Prop) (s : Shared) : Prop := ∃ σ' H', Inv X pins σ' H' s ∧ σ'.length = σ.length ∧ (∀ (j : Nat) v, j ∉ vs → σ[j]? = some (some v) → σ'[j]? = some (some v)) ∧ N H'
abbrev TB := St → Hp → (Hp → Prop) → Prop
def tApp (te : TE) (D : Addr) : TB := fun σ H N => te σ H fun y H1 => ∃ acc, H1 D = some (.lst acc) ∧ acc.length < sizeLine ∧ N (upd H1 D (.lst (acc ++ [y])))
def tTurns (J : It) (g : TG) (tt : TT) (tb : TB) (vs : List Nat) (σ : St) (W : Nat → Nat → Hp → Prop) (N : Hp → Prop) : Prop := ∀ i m H, W i m H →
  (J.stop i H ∧ N H) ∨ (J.go i H ∧ ∃ Nx : Hp → Prop, (∀ H', Nx H' → ∃ m', m' < m ∧ W (i + 1) m' H') ∧ ∀ x H', J.yld i H x H' → g x (wipe σ vs) H' fun σ2 H2 => wipe σ2 vs = wipe σ vs ∧ tt σ2 H2 fun b H3 => if b = true then tb σ2 H3 Nx else Nx H3)
def tClause (wi : TI) (g : TG) (tt : TT) (tb : TB) (vs : List Nat) : TB := fun σ H N => wi σ H fun J H1 => ∃ W : Nat → Nat → Hp → Prop, (∃ m, W 0 m H1) ∧ tTurns J g tt tb vs σ W N
def BodyOk (X : Cx) (bw : BW) (tb : TB) (vs : List Nat) : Prop := ∀ (pins : List (Addr × Obj)) (σ : St) (H : Hp) (s : Shared) (N : Hp → Prop), Inv X pins σ H s → tb σ H N → bw (Kept X pins σ vs N) s
theorem bwOut_mono {prog : Program} {w : World} {A : Around} {E i1 : Expr} {k : Nat} {acc : Value} {env : Env} {P Q : Shared → Prop} {s : Shared} (h : bwOut prog w A E k acc env i1 P s) (f : ∀ s, P s → Q s) : bwOut prog w A E k acc env i1 Q s :=
  thnF h fun x z h1 => thnF h1 fun it z1 h2 => codeAny_mono h2 fun r z2 h3 => by
    cases r with
    | ok _ => exact f _ h3
    | error _ => exact h3
theorem bwIn_mono {prog : Program} {w : World} {A : Around} {elt : Expr} {acc : Value} {env : Env} {P Q : Shared → Prop} {s : Shared} (h : bwIn prog w A acc env elt P s) (f : ∀ s, P s → Q s) : bwIn prog w A acc env elt Q s :=
  thnF h fun x z h1 => thnF h1 fun it z1 h2 => f _ h2
/-- the innermost clause's body -/
theorem body_in {X : Cx} {elt : Expr} {te : TE} {D : Addr} (hX : X.xe = NoE) (he : PE X elt te) : BodyOk X (bwIn X.prog X.w X.A (.ref D) X.env elt) (tApp te D) [] := by
  intro pins σ H s N I h
  have r := he.run pins s σ H _ I h
  rw [hX] at r
  refine thnF r fun u z ⟨y, H1, I1, ry, acc, hD, hz, n⟩ => ?_
  exact app_ok I1 hD hz ry fun z1 I2 => ⟨_, _, I2, rfl, fun _ _ _ e => e, n⟩
/-- the turns of a clause -/
theorem turns_run {X : Cx} {E tg : Expr} {k : Nat} {D it : Addr} {ifs : List Expr} {bw : BW} {g : TG} {tt : TT} {tb : TB} {vs vi : List Nat} {J : It} {fp : List Addr} {tn : Nat → Heap → Prop} {W : Nat → Nat → Hp → Prop} {N : Hp → Prop} {pins : List (Addr × Obj)} {σ : St}
    (hc : X.calm = true) (hX : X.xe = NoE) (L : LoopRule X.prog X.w X.A E k (.ref D) X.env tg ifs bw) (mono : ∀ {P Q : Shared → Prop} {s : Shared}, bw P s → (∀ s, P s → Q s) → bw Q s) (pg : PG X tg g) (pt : PTs X ifs tt) (hb : BodyOk X bw tb vi) (hvi : ∀ j ∈ vi, j ∈ vs)
    (T : Turn X.prog X.w X.K tg J fp it tn) (tr : tTurns J g tt tb vs σ W N) (stat : ∀ {pins' σ' H' s'}, Inv X pins' σ' H' s' → (∀ b ∈ fp, H' b = none) → ∀ b ∈ fp, FpOk X pins H' b)
    {R : Result → Shared → Prop} (hR : ∀ H' s', Inv X pins (wipe σ vs) H' s' → N H' → R (.ok .next) s') {s : Shared} {H : Hp} (I : Inv X pins (wipe σ vs) H s) (st : tn 0 s.heap) (nf : ∀ b ∈ fp, H b = none) {m : Nat} (w0 : W 0 m H) :
    codeAny (model X.prog X.w) X.A (.compLoop E k (.ref it) (.ref D) X.env) R s := by
  refine L (.ref it) R s (fun n z => ∃ i H', Inv X pins (wipe σ vs) H' z ∧ tn i z.heap ∧ (∀ b ∈ fp, H' b = none) ∧ W i n H') ?_ m ⟨0, H, I, st, nf, w0⟩
  rintro n z ⟨i, H1, I1, st1, nf1, w1⟩
  rcases tr i n H1 w1 with ⟨stop, nn⟩ | ⟨go, Nx, hNx, step⟩
  · refine thnF (T.done X rfl rfl rfl hc i _ z (wipe σ vs) H1 (fun _ _ => False) I1 (stat I1 nf1) st1 stop) fun r z1 ⟨hr, I2⟩ => ?_
    subst hr
    exact hR _ _ I2 nn
  · refine thnF (T.item X rfl rfl rfl hc i _ z (wipe σ vs) H1 (fun _ _ => False) I1 (stat I1 nf1) st1 go) fun r z1 ⟨u, hr, h1⟩ => ?_
    subst hr
    refine thnF h1 fun _ z2 ⟨x, H2, I2, r2, y2, st2, nf2⟩ => ?_
    have I2' := I2.pinned (stat I2 nf2) (T.obj _ _ st2)
    have rg := pg.run _ z2 (wipe σ vs) H2 x u _ I2' r2 (step x H2 y2)
    rw [hX] at rg
    refine thnF rg fun _ z3 ⟨σ3, H3, I3, hw, q3⟩ => ?_
    have rt := pt.run _ z3 σ3 H3 _ I3 q3
    rw [hX] at rt
    refine thnF rt fun b z4 ⟨H4, I4, q4⟩ => ?_
    have fin : ∀ {σ9 : St} {z9 : Shared} {H9 : Hp}, Inv X (pins ++ pinsAt fp z2.heap) σ9 H9 z9 → σ9.length = σ3.length → (∀ (j : Nat) v, j ∉ vi → σ3[j]? = some (some v) → σ9[j]? = some (some v)) → Nx H9 →
        ∃ m, m < n ∧ ∃ i H', Inv X pins (wipe σ vs) H' z9 ∧ tn i z9.heap ∧ (∀ b ∈ fp, H' b = none) ∧ W i m H' := fun {σ9 z9 H9} I9 hl hk nx => by
      obtain ⟨m', hm, w'⟩ := hNx H9 nx
      have pin' : ∀ b ∈ fp, ∀ o, z2.heap.get? b = some o → z9.heap.get? b = some o ∧ H9 b = none := fun b hb o e =>
        let q := I9.pin (b, o) (List.mem_append_right _ (List.mem_append_right _ (mem_pinsAt hb e)))
        ⟨q.1, q.2.1⟩
      refine ⟨m', hm, i + 1, H9, I9.unpinned.weak (by rw [← hw, wipe_length, hl]) (fun j v e => ?_), T.keep _ _ _ st2 fun b hb o e => (pin' b hb o e).1, fun b hb => ?_, w'⟩
      · rw [← hw] at e
        obtain ⟨e1, e2⟩ := wipe_some e
        exact hk j v (fun q => e2 (hvi j q)) e1
      · obtain ⟨o, e, _⟩ := T.obj _ _ st2 b hb
        exact (pin' b hb o e).2
    cases b with
    | false =>
      simp only [Bool.false_eq_true, if_false] at q4 ⊢
      exact fin I4 rfl (fun _ _ _ e => e) q4
    | true =>
      simp only [if_true] at q4 ⊢
      exact mono (hb _ _ _ _ _ I4 q4) fun z5 ⟨σ5, H5, I5, hl5, hk5, n5⟩ => fin I5 hl5 hk5 n5
/-- a further clause, from its source on -/
theorem clause_body {X : Cx} {e0 tg i1 : Expr} {ges : List Comprehension} {scope : Scope} {pos : Pos} {k : Nat} {D : Addr} {ifs : List Expr} {bw : BW} {wi : TI} {g : TG} {tt : TT} {tb : TB} {vs vi : List Nat}
    (hc : X.calm = true) (hX : X.xe = NoE) (pi : PI X tg i1 wi) (L : LoopRule X.prog X.w X.A (.ListComp e0 ges scope pos) (k + 1) (.ref D) X.env tg ifs bw) (mono : ∀ {P Q : Shared → Prop} {s : Shared}, bw P s → (∀ s, P s → Q s) → bw Q s) (pg : PG X tg g) (pt : PTs X ifs tt) (hb : BodyOk X bw tb vi) (hvi : ∀ j ∈ vi, j ∈ vs)
    (start : ∀ {it : Value} {R : Result → Shared → Prop} {s : Shared}, codeAny (model X.prog X.w) X.A (.compLoop (.ListComp e0 ges scope pos) (k + 1) it (.ref D) X.env) R s →
      wpAny (model X.prog X.w) X.A (pyIter it) (fun it' z => codeAny (model X.prog X.w) X.A (.compLoop (.ListComp e0 ges scope pos) (k + 1) it' (.ref D) X.env) R z) (notedBy (model X.prog X.w) X.A X.env fun x z => R (.error x) z) s →
      codeAny (model X.prog X.w) X.A (.compStart (.ListComp e0 ges scope pos) (k + 1) it (.ref D) X.env) R s) :
    BodyOk X (bwOut X.prog X.w X.A (.ListComp e0 ges scope pos) k (.ref D) X.env i1) (tClause wi g tt tb vs) vs := by
  intro pins σ H s N I h
  have r := pi.run pins s σ H _ I h
  rw [hX] at r
  refine thnF r fun xv z hx => ?_
  refine thnF hx fun itv z1 h1 => ?_
  obtain ⟨it, fp, tn, J, H1, e, I1, T, st1, f1, W, ⟨m, w1⟩, tr⟩ := h1
  subst e
  have loop := turns_run (R := fun r z2 => match r with
      | .ok _ => Kept X pins σ vs N z2
      | .error _ => False) hc hX L mono pg pt hb hvi T tr (fun {pins' σ' H' s'} _ hn b hb => ⟨hn b hb, (f1 b hb).2⟩) (fun H' s' I' n => ⟨_, H', I', wipe_length _ _, fun j v hj e => by rw [wipe_out hj]; exact e, n⟩) (I1.weak (wipe_length _ _) (fun j v e => (wipe_some e).1)) st1 (fun b hb => (f1 b hb).1) w1
  exact start loop (T.self X.A 0 _ _ _ st1 loop)
section
variable {prog : Program} {w : World} {A : Around} {R : Result → Shared → Prop} {s : Shared} {elt t0 i0 t1 i1 t2 i2 : Expr} {f0 f1 f2 : List Expr} {scope : Scope} {pos : Pos} {it acc : Value} {env : Env}
abbrev Lc3 (elt t0 i0 t1 i1 t2 i2 : Expr) (f0 f1 f2 : List Expr) (scope : Scope) (pos : Pos) : Expr := .ListComp elt [⟨t0, i0, f0, 0⟩, ⟨t1, i1, f1, 0⟩, ⟨t2, i2, f2, 0⟩] scope pos
theorem start3_1 (h0 : codeAny (model prog w) A (.compLoop (Lc3 elt t0 i0 t1 i1 t2 i2 f0 f1 f2 scope pos) 1 it acc env) R s)
    (h : wpAny (model prog w) A (pyIter it) (fun it' z => codeAny (model prog w) A (.compLoop (Lc3 elt t0 i0 t1 i1 t2 i2 f0 f1 f2 scope pos) 1 it' acc env) R z) (notedBy (model prog w) A env fun x z => R (.error x) z) s) :
    codeAny (model prog w) A (.compStart (Lc3 elt t0 i0 t1 i1 t2 i2 f0 f1 f2 scope pos) 1 it acc env) R s := by
  refine codeAny_of_tree ?_
  show wpAny _ _ ((compStart (Lc3 elt t0 i0 t1 i1 t2 i2 f0 f1 f2 scope pos) 1 it acc env).onRaise (fun x => do noteFrame x env; standAt theWindowsPlace)) _ _ s
  refine wpAny_notedAt ?_
  unfold compStart
  show wpAny _ _ (ask >>= _) _ _ s
  refine wpAny_bind (wpAny_askSetting (wpAny_ite ?_))
  split
  · first
      | exact wpAny_bind (wpAny_pure (wpAny_pure (And.intro rfl h0)))
      | exact wpAny_pure (And.intro rfl h0)
  · first
      | exact wpAny_bind (wpAny_rule (wpAny_bind (wpAny_standAt (wpAny_bind (wpAny_mono h (fun it' z h' => wpAny_pure (And.intro rfl h')) fun _ _ q => q)))))
      | (refine wpAny_bind (wpAny_rule ?_); show wpAny _ _ (standAt i1.pos >>= _) _ _ s; exact wpAny_bind (wpAny_standAt (wpAny_bind (wpAny_mono h (fun it' z h' => wpAny_pure (And.intro rfl h')) fun _ _ q => q))))
theorem start3_2 (h0 : codeAny (model prog w) A (.compLoop (Lc3 elt t0 i0 t1 i1 t2 i2 f0 f1 f2 scope pos) 2 it acc env) R s)
    (h : wpAny (model prog w) A (pyIter it) (fun it' z => codeAny (model prog w) A (.compLoop (Lc3 elt t0 i0 t1 i1 t2 i2 f0 f1 f2 scope pos) 2 it' acc env) R z) (notedBy (model prog w) A env fun x z => R (.error x) z) s) :
    codeAny (model prog w) A (.compStart (Lc3 elt t0 i0 t1 i1 t2 i2 f0 f1 f2 scope pos) 2 it acc env) R s := by
  refine codeAny_of_tree ?_
  show wpAny _ _ ((compStart (Lc3 elt t0 i0 t1 i1 t2 i2 f0 f1 f2 scope pos) 2 it acc env).onRaise (fun x => do noteFrame x env; standAt theWindowsPlace)) _ _ s
  refine wpAny_notedAt ?_
  unfold compStart
  show wpAny _ _ (ask >>= _) _ _ s
  refine wpAny_bind (wpAny_askSetting (wpAny_ite ?_))
  split
  · first
      | exact wpAny_bind (wpAny_pure (wpAny_pure (And.intro rfl h0)))
      | exact wpAny_pure (And.intro rfl h0)
  · first
      | exact wpAny_bind (wpAny_rule (wpAny_bind (wpAny_standAt (wpAny_bind (wpAny_mono h (fun it' z h' => wpAny_pure (And.intro rfl h')) fun _ _ q => q)))))
      | (refine wpAny_bind (wpAny_rule ?_); show wpAny _ _ (standAt i2.pos >>= _) _ _ s; exact wpAny_bind (wpAny_standAt (wpAny_bind (wpAny_mono h (fun it' z h' => wpAny_pure (And.intro rfl h')) fun _ _ q => q))))
end
/-- the reading: clause by clause; vs1: the names of the second and third target, vs2: of the third -/
def tLc3 (wi : TI) (g : TG) (tt : TT) (wi1 : TI) (g1 : TG) (tt1 : TT) (wi2 : TI) (g2 : TG) (tt2 : TT) (te : TE) (vs vs1 vs2 : List Nat) : TE := fun σ H Q => wi σ H fun J H1 => ∀ D, H1 D = none → ∃ W : Nat → Nat → Hp → Prop, (∃ m, W 0 m (upd H1 D (.lst []))) ∧
  tTurns J g tt (tClause wi1 g1 tt1 (tClause wi2 g2 tt2 (tApp te D) vs2) vs1) vs σ W (Q (.ref D))
section
variable {X : Cx}
theorem pe_lc3 {elt t0 i0 t1 i1 t2 i2 : Expr} {f0 f1 f2 : List Expr} {scope : Scope} {own : List (Str × Nat)} {vs1 vs2 : List Nat} {pos : Pos} {wi wi1 wi2 : TI} {g g1 g2 : TG} {tt tt1 tt2 : TT} {te : TE} (hc : X.calm = true) (hN : X.N.Nodup) (hi : PI X t0 i0 wi) (ok : BlkOk X.N X.env.scope scope own) (hv1 : ∀ i ∈ vs1, i ∈ own.map (·.2)) (hv2 : ∀ i ∈ vs2, i ∈ vs1)
    (hg : ∀ (s : Shared) (H : Hp) (C : Addr) (cl : List (Str × Addr)) (fp : List Addr), PG (X.blk s H scope (compEnvC scope cl C X.env) fp) t0 g) (ht : ∀ (s : Shared) (H : Hp) (C : Addr) (cl : List (Str × Addr)) (fp : List Addr), PTs (X.blk s H scope (compEnvC scope cl C X.env) fp) f0 tt)
    (hi1 : ∀ (s : Shared) (H : Hp) (C : Addr) (cl : List (Str × Addr)) (fp : List Addr), PI (X.blk s H scope (compEnvC scope cl C X.env) fp) t1 i1 wi1)
    (hg1 : ∀ (s : Shared) (H : Hp) (C : Addr) (cl : List (Str × Addr)) (fp : List Addr), PG (X.blk s H scope (compEnvC scope cl C X.env) fp) t1 g1) (ht1 : ∀ (s : Shared) (H : Hp) (C : Addr) (cl : List (Str × Addr)) (fp : List Addr), PTs (X.blk s H scope (compEnvC scope cl C X.env) fp) f1 tt1)
    (hi2 : ∀ (s : Shared) (H : Hp) (C : Addr) (cl : List (Str × Addr)) (fp : List Addr), PI (X.blk s H scope (compEnvC scope cl C X.env) fp) t2 i2 wi2)
    (hg2 : ∀ (s : Shared) (H : Hp) (C : Addr) (cl : List (Str × Addr)) (fp : List Addr), PG (X.blk s H scope (compEnvC scope cl C X.env) fp) t2 g2) (ht2 : ∀ (s : Shared) (H : Hp) (C : Addr) (cl : List (Str × Addr)) (fp : List Addr), PTs (X.blk s H scope (compEnvC scope cl C X.env) fp) f2 tt2)
    (he : ∀ (s : Shared) (H : Hp) (C : Addr) (cl : List (Str × Addr)) (fp : List Addr), PE (X.blk s H scope (compEnvC scope cl C X.env) fp) elt te) (hs : ∀ x, foldedSetIterable i0 X.env x = pure x := by intro _; rfl) (hs1 : ∀ env x, foldedSetIterable i1 env x = pure x := by intro _ _; rfl) (hs2 : ∀ env x, foldedSetIterable i2 env x = pure x := by intro _ _; rfl) :
    PE X (Lc3 elt t0 i0 t1 i1 t2 i2 f0 f1 f2 scope pos) (tLc3 wi g tt wi1 g1 tt1 wi2 g2 tt2 te (own.map (·.2)) vs1 vs2) := by
  refine ⟨fun pins s σ H Q I h => ?_⟩
  rw [eval_ListComp]
  have hfree : ∀ y ∈ scope.names, y.2 = .free → ∃ c, X.env.cells.lookup y.1 = some c := fun y hy e => by
    rcases ok.free y hy e with q | q
    · exact I.ok.has _ (.inl q)
    · exact I.ok.has _ (.inr q)
  refine wpAny_comprehension_free (use := none) rfl hs (closure_ok hfree) ok.kind (fun y hy e => by rw [ok.uniq y hy, e])
    (thn (hi.run pins s σ H _ I h) fun xv s1 hx => thn hx fun itv s2 h2 => ?_)
  obtain ⟨it, fp, tn, J, H2, e, I2, T, st2, nf2, q⟩ := h2
  subst e
  refine wpAny_newObj_type (newEnv_comp ?_) (by show 0 ≤ sizeLine; decide)
  generalize hD : s2.heap.objs.size = D
  have hDn : H2 D = none := I2.hok.fresh (Nat.le_of_eq hD)
  obtain ⟨W, ⟨m0, w0⟩, tr⟩ := q D hDn
  generalize hz3 : ({ s2 with heap := s2.heap.push { cls := .type "list", data := .seq ([] : List Value).toArray } } : Shared) = z3
  have I3 : Inv X pins σ (upd H2 D (.lst [])) z3 := by
    rw [← hz3]
    refine I2.laid (t' := s2.toks) (fun b o e => Heap.get?_push_of_some _ e) (Nat.le_of_eq hD) ⟨Nat.zero_le _, [], 0, .nil, ?_⟩
    rw [← hD]
    exact Heap.get?_push_size _ rfl
  have h3 : z3.heap = s2.heap.push { cls := .type "list", data := .seq ([] : List Value).toArray } := by rw [← hz3]
  have sz : ∀ b ∈ fp, b < s2.heap.objs.size := fun b hb => by
    obtain ⟨o, e, _⟩ := T.obj _ _ st2 b hb
    exact Heap.lt_size e
  have f3 : ∀ b ∈ fp, FpOk X pins (upd H2 D (.lst [])) b ∧ b < z3.heap.objs.size := fun b hb => by
    have hlt := sz b hb
    refine ⟨⟨?_, (nf2 b hb).2⟩, by rw [h3, Heap.size_push]; exact Nat.lt_succ_of_lt hlt⟩
    rw [upd_ne (by rw [← hD]; exact Nat.ne_of_lt hlt)]
    exact (nf2 b hb).1
  have st3 : tn 0 z3.heap := T.keep _ _ _ st2 fun b _ o e => by rw [h3]; exact Heap.get?_push_of_some _ e
  have I4 := block_start I3 ok hN f3
  generalize hH3 : upd H2 D (.lst []) = H3 at I3 I4 w0 f3
  generalize hC : z3.heap.objs.size = C at I4 ⊢
  have pg := hg z3 H3 C (cellsFrom (C + 1) scope.names (cloFrom X.env.cells scope.names [])) fp
  have pt := ht z3 H3 C (cellsFrom (C + 1) scope.names (cloFrom X.env.cells scope.names [])) fp
  have pi1 := hi1 z3 H3 C (cellsFrom (C + 1) scope.names (cloFrom X.env.cells scope.names [])) fp
  have pg1 := hg1 z3 H3 C (cellsFrom (C + 1) scope.names (cloFrom X.env.cells scope.names [])) fp
  have pt1 := ht1 z3 H3 C (cellsFrom (C + 1) scope.names (cloFrom X.env.cells scope.names [])) fp
  have pi2 := hi2 z3 H3 C (cellsFrom (C + 1) scope.names (cloFrom X.env.cells scope.names [])) fp
  have pg2 := hg2 z3 H3 C (cellsFrom (C + 1) scope.names (cloFrom X.env.cells scope.names [])) fp
  have pt2 := ht2 z3 H3 C (cellsFrom (C + 1) scope.names (cloFrom X.env.cells scope.names [])) fp
  have pe := he z3 H3 C (cellsFrom (C + 1) scope.names (cloFrom X.env.cells scope.names [])) fp
  show codeAny _ _ (.compStart (Lc3 elt t0 i0 t1 i1 t2 i2 f0 f1 f2 scope pos) 0 (.ref it) (.ref D) (compEnvC scope (cellsFrom (C + 1) scope.names (cloFrom X.env.cells scope.names [])) C X.env)) (compPost (model X.prog X.w) X.A X.xe none _ (.ref D) C) _
  generalize hce : compEnvC scope (cellsFrom (C + 1) scope.names (cloFrom X.env.cells scope.names [])) C X.env = ce at I4 pg pt pi1 pg1 pt1 pi2 pg2 pt2 pe ⊢
  have cL : ce.locals = C := by subst hce; rfl
  generalize hz4 : ({ z3 with heap := pushCells (z3.heap.push { cls := .type "dict", data := .dict #[] }) scope.names } : Shared) = z4 at I4 ⊢
  have st4 : tn 0 z4.heap := T.keep _ _ _ st3 fun b _ o e => by rw [← hz4]; exact pushCells_keeps _ _ _ _ (Heap.get?_push_of_some _ e)
  have nf4 : ∀ b ∈ fp, H3 b = none := fun b hb => by rw [← hH3]; rw [← hH3] at f3; exact (f3 b hb).1.1
  have b2 : BodyOk (X.blk z3 H3 scope ce fp) (bwIn X.prog X.w X.A (.ref D) ce elt) (tApp te D) [] := body_in (X := X.blk z3 H3 scope ce fp) rfl pe
  have b1 : BodyOk (X.blk z3 H3 scope ce fp) (bwOut X.prog X.w X.A (Lc3 elt t0 i0 t1 i1 t2 i2 f0 f1 f2 scope pos) 1 (.ref D) ce i2) (tClause wi2 g2 tt2 (tApp te D) vs2) vs2 :=
    clause_body (X := X.blk z3 H3 scope ce fp) hc rfl pi2 (loop_in (i0 := i2) (fun _ => rfl)) bwIn_mono pg2 pt2 b2 (fun j hj => nomatch hj) start3_2
  have b0 : BodyOk (X.blk z3 H3 scope ce fp) (bwOut X.prog X.w X.A (Lc3 elt t0 i0 t1 i1 t2 i2 f0 f1 f2 scope pos) 0 (.ref D) ce i1) (tClause wi1 g1 tt1 (tClause wi2 g2 tt2 (tApp te D) vs2) vs1) vs1 :=
    clause_body (X := X.blk z3 H3 scope ce fp) hc rfl pi1 (loop_out (i0 := i1) (hs2 ce) (fun _ => rfl)) bwOut_mono pg1 pt1 b1 hv2 start3_1
  have stat : ∀ {pins' : List (Addr × Obj)} {σ' : St} {H' : Hp} {s' : Shared}, Inv (X.blk z3 H3 scope ce fp) pins' σ' H' s' → (∀ b ∈ fp, H' b = none) → ∀ b ∈ fp, FpOk (X.blk z3 H3 scope ce fp) [] H' b := fun {pins' σ' H' s'} I' hn b hb =>
    ⟨hn b hb, (I'.ok.exf b hb).1, I'.ok.exfs b hb, .inl hb, fun x c e => (I'.ok.exf b hb).2 x c e, fun p hp => absurd (show p ∈ ([] : List (Addr × Obj)) ++ [] from hp) (by simp)⟩
  have loop := turns_run (X := X.blk z3 H3 scope ce fp) (R := compPost (model X.prog X.w) X.A X.xe none (fun v s' => EP X pins σ Q v s') (.ref D) C) hc rfl (loop_out (i0 := i0) (hs1 ce) (fun _ => rfl)) bwOut_mono pg pt b0 hv1 T tr stat (fun H5 z5 I5 qq => ?_) I4 st4 nf4 w0
  · exact codeAny_compStart_list loop (T.self X.A 0 _ _ _ st4 loop)
  · have I6 : Inv X pins σ H5 z5 := I3.call' (ch := fp) I5.os I5.base I5.hok I5.bare fun b hb => ⟨(f3 b hb).1.2.2.2.1, (f3 b hb).1.2.1, (f3 b hb).1.2.2.2.2.1, (f3 b hb).1.2.2.2.2.2⟩
    have nC : H5 C = none := by
      have z : H5 ce.locals = none := I5.free
      rw [cL] at z
      exact z
    obtain ⟨m, hn, _⟩ := I5.loc
    have hn : z5.heap.Ns ce.locals m := hn
    rw [cL] at hn
    refine ⟨m, hn, fun h'' sb => ?_⟩
    obtain ⟨g0, g1', g2', g3, g4, g5⟩ := I3.fpOk (Nat.le_of_eq hC) nC
    exact ⟨.ref D, H5, I6.turned (t' := z5.toks) (fun b o hb e => (sb.2 b hb).trans e) g0 g1' g3 g4 g5, rfl, qq⟩
end
end L2
/-! what a comprehension of several clauses collects -/
namespace Fp
open PySem PySem.Spec PyProof.Rows L2
theorem pi_eith {X : Cx} {tg e : Expr} {t1 t2 : TI} (h1 : PI X tg e t1) (h2 : PI X tg e t2) : PI X tg e (fun σ H R => t1 σ H R ∨ t2 σ H R) := ⟨fun pins s σ H R I h => h.elim (h1.run pins s σ H R I) (h2.run pins s σ H R I)⟩
theorem pi_listK {X : Cx} {K : PySem.W.Frag} {tg l : Expr} {tl : TE} (hl : PE X l tl) (e : X.K = K := by rfl) : PI X tg l (iList K tl) := by subst e; exact pi_list hl
theorem pi_tupK' {X : Cx} {K : PySem.W.Frag} {tg l : Expr} {tl : TE} (hl : PE X l tl) (e : X.K = K := by rfl) : PI X tg l (iTup K tl) := by subst e; exact pi_tup hl
structure Stab {α : Type} (R : Hp → V → α → Prop) : Prop where
  same : ∀ {H H' : Hp} {v : V} {a : α}, Same H H' → R H v a → R H' v a
  put : ∀ {H : Hp} {v : V} {a : α} {D : Addr} {us zs : List V}, H D = some (.lst us) → R H v a → R (upd H D (.lst zs)) v a
/-- the list at D has these things, and what was there at H1 is there -/
def Coll {α : Type} (H1 : Hp) (D : Addr) (R : Hp → V → α → Prop) (H : Hp) (l : List α) : Prop := Same H1 H ∧ ∃ acc, H D = some (.lst acc) ∧ Paired (R H) acc l
section
variable {α : Type} {H1 : Hp} {D : Addr} {R : Hp → V → α → Prop}
theorem Coll.start (hD : H1 D = none) : Coll H1 D R (upd H1 D (.lst [])) [] := ⟨same_new hD _, [], upd_same, .nil⟩
theorem Coll.on {H H' : Hp} {l : List α} (S : Stab R) (h : Coll H1 D R H l) (g : Same H H') : Coll H1 D R H' l := by
  obtain ⟨g1, acc, e, p⟩ := h
  exact ⟨g1.trans g, acc, g _ _ e, pr_imp (fun _ _ h => S.same g h) p⟩
theorem coll_app (S : Stab R) (hD : H1 D = none) {H H' : Hp} {l : List α} {y : V} {a : α} {N : Hp → Prop} (h : Coll H1 D R H l) (g : Same H H') (r : R H' y a) (hl : l.length < 10000000) (n : ∀ H2, Coll H1 D R H2 (l ++ [a]) → N H2) :
    ∃ acc, H' D = some (.lst acc) ∧ acc.length < sizeLine ∧ N (upd H' D (.lst (acc ++ [y]))) := by
  obtain ⟨g1, acc, e, p⟩ := h.on S g
  refine ⟨acc, e, szt (by rw [pr_len p]; exact hl), n _ ⟨fun b o q => ?_, acc ++ [y], upd_same, ?_⟩⟩
  · rw [upd_ne (ne_of_none q hD)]; exact g1 _ _ q
  · exact pr_imp (fun _ _ h => S.put e h) (pr_snoc r p)
theorem turns_rel {J : It} {n : Nat} {G : Hp → Prop} {Y : Nat → Hp → V → Hp → Prop} (w : Walk J n G Y) (ms : Nat → List α) {g : TG} {tt : L2.TT} {tb : TB} {vs : List Nat} {σ : L2.St} {N : Hp → Prop} (pre : List α) (hG : ∀ H, Same H1 H → G H)
    (hs : ∀ i x H H', i < n → Coll H1 D R H (pre ++ (List.range i).flatMap ms) → Y i H x H' → ∀ M : Hp → Prop, (∀ H4, Coll H1 D R H4 (pre ++ (List.range i).flatMap ms ++ ms i) → M H4) →
      g x (wipe σ vs) H' fun σ2 H2 => wipe σ2 vs = wipe σ vs ∧ tt σ2 H2 fun b H3 => if b = true then tb σ2 H3 M else M H3)
    (hN : ∀ H, Coll H1 D R H (pre ++ (List.range n).flatMap ms) → N H) {H0 : Hp} (h0 : Coll H1 D R H0 pre) :
    ∃ W : Nat → Nat → Hp → Prop, (∃ m, W 0 m H0) ∧ tTurns J g tt tb vs σ W N := by
  refine ⟨fun i m H => m = n - i ∧ i ≤ n ∧ Coll H1 D R H (pre ++ (List.range i).flatMap ms), ⟨n, rfl, Nat.zero_le _, by rw [List.range_zero, List.flatMap_nil, List.append_nil]; exact h0⟩, ?_⟩
  rintro i m H ⟨rfl, hi, c⟩
  by_cases hlt : i < n
  · refine .inr ⟨w.goes i H hlt (hG H c.1), fun H' => Coll H1 D R H' (pre ++ (List.range (i + 1)).flatMap ms), fun H' c' => ⟨n - (i + 1), by omega, rfl, hlt, c'⟩, fun x H' y => ?_⟩
    refine hs i x H H' hlt c (w.yields i H x H' hlt (hG H c.1) y) _ fun H4 c4 => ?_
    rw [List.range_succ, List.flatMap_append, ← List.append_assoc]
    simpa using c4
  · have e : i = n := by omega
    subst e
    exact .inl ⟨w.stops H (hG H c.1), hN H c⟩
/-- all of it, for the first clause -/
theorem lc_coll {J : It} {n : Nat} {G : Hp → Prop} {Y : Nat → Hp → V → Hp → Prop} (w : Walk J n G Y) (ms : Nat → List α) {g : TG} {tt : L2.TT} {tb : TB} {vs : List Nat} {σ : L2.St} {N : Hp → Prop} (hD : H1 D = none) (hG : ∀ H, Same H1 H → G H)
    (hs : ∀ i x H H', i < n → Coll H1 D R H ((List.range i).flatMap ms) → Y i H x H' → ∀ M : Hp → Prop, (∀ H4, Coll H1 D R H4 ((List.range i).flatMap ms ++ ms i) → M H4) →
      g x (wipe σ vs) H' fun σ2 H2 => wipe σ2 vs = wipe σ vs ∧ tt σ2 H2 fun b H3 => if b = true then tb σ2 H3 M else M H3)
    (hN : ∀ H, Coll H1 D R H ((List.range n).flatMap ms) → N H) :
    ∃ W : Nat → Nat → Hp → Prop, (∃ m, W 0 m (upd H1 D (.lst []))) ∧ tTurns J g tt tb vs σ W N :=
  turns_rel (R := R) w ms [] hG (fun i x H H' hi c y M f => hs i x H H' hi (by simpa using c) y M (by simpa using f)) (fun H c => hN H (by simpa using c)) (Coll.start hD)
end
/-- an integer -/
abbrev RI : Hp → V → Int → Prop := fun _ v a => v = .int a
theorem stab_int : Stab RI := ⟨fun _ h => h, fun _ h => h⟩
theorem coll_ints {H1 H : Hp} {D : Addr} {l : List Int} (h : Coll H1 D RI H l) : Same H1 H ∧ H D = some (.lst (l.map V.int)) := by
  obtain ⟨g, acc, e, p⟩ := h
  refine ⟨g, ?_⟩
  have : acc = l.map V.int := by
    clear e
    induction p with
    | nil => rfl
    | cons h _ ih => rw [h, ih]; rfl
  rw [← this]; exact e
theorem fm_map {α β : Type} (q : α → Bool) (g : α → β) : ∀ l : List α, (l.flatMap fun i => if q i = true then [g i] else []) = (l.filter q).map g
  | [] => rfl
  | a :: l => by
    rw [List.flatMap_cons, fm_map q g l, List.filter_cons]
    by_cases c : q a = true
    · rw [if_pos c, if_pos c]; rfl
    · rw [if_neg c, if_neg c]; rfl
theorem fm_one {α β : Type} (g : α → β) : ∀ l : List α, (l.flatMap fun i => [g i]) = l.map g
  | [] => rfl
  | a :: l => by rw [List.flatMap_cons, fm_one g l]; rfl
theorem fm_fil {α β : Type} (f : α → β) (p : β → Bool) (l : List α) : (l.flatMap fun i => if p (f i) = true then [f i] else []) = (l.map f).filter p := by
  rw [fm_map (fun i => p (f i)) f l, List.filter_map]; rfl
theorem ite_len {α : Type} {c : Prop} [Decidable c] {a : α} : (if c then [a] else []).length ≤ 1 := by
  by_cases h : c
  · rw [if_pos h]; exact Nat.le_refl _
  · rw [if_neg h]; exact Nat.zero_le _
/-- items by number -/
theorem fm_getD {α β : Type} (f : α → List β) (d : α) (l : List α) : (List.range l.length).flatMap (fun i => f (l.getD i d)) = l.flatMap f := by
  have e : (List.range l.length).map (fun i => l.getD i d) = l := by
    refine List.ext_getElem? fun i => ?_
    rw [List.getElem?_map]
    by_cases c : i < l.length
    · rw [List.getElem?_range c, Option.map_some, List.getD_eq_getElem?_getD, List.getElem?_eq_getElem c]; rfl
    · rw [List.getElem?_eq_none (by rw [List.length_range]; omega), List.getElem?_eq_none (by omega)]; rfl
  conv => rhs; rw [← e]
  rw [List.flatMap_map]
theorem fm_len {α : Type} {ms : Nat → List α} {B : Nat} : ∀ n : Nat, (∀ i, i < n → (ms i).length ≤ B) → ((List.range n).flatMap ms).length ≤ n * B
  | 0, _ => Nat.zero_le _
  | n + 1, h => by
    have := fm_len n fun i hi => h i (by omega)
    have h2 := h n (by omega)
    rw [List.range_succ, List.flatMap_append, List.length_append, Nat.succ_mul]
    simp only [List.flatMap_cons, List.flatMap_nil, List.append_nil]
    omega
theorem pr_ix {α β : Type} {R : α → β → Prop} : ∀ {xs : List α} {ys : List β} {i : Nat} {x : α}, Paired R xs ys → xs[i]? = some x → ∃ y, ys[i]? = some y ∧ R x y
  | _, _, 0, _, .cons h _, e => by cases e; exact ⟨_, rfl, h⟩
  | _, _, i + 1, x, .cons _ r, e => pr_ix (i := i) r e
  | _, _, _, _, .nil, e => by cases e
theorem walk_enumS {K : PySem.W.Frag} {a : Addr} {xs : List V} {lo : Int} : Walk (ItE K a lo) xs.length (fun H => SqL K H a xs) (fun i H v H' => ∃ T y, v = .ref T ∧ H T = none ∧ H' = upd H T (.tup [.int (lo + (i : Nat)), y]) ∧ xs[i]? = some y) where
  goes := fun i H hi h => ⟨xs, xs[i], h, List.getElem?_eq_getElem hi⟩
  stops := fun H h => ⟨xs, h, Nat.le_refl _⟩
  yields := fun i H v H' hi h y => by
    obtain ⟨T, y, e1, e2, e3, e4⟩ := y
    exact ⟨T, y, e1, e2, e3, e4 _ h⟩
theorem pr_snoc_inv {α β : Type} {R : α → β → Prop} {b : β} : ∀ {bs : List β} {xs : List α}, Paired R xs (bs ++ [b]) → ∃ ys x, xs = ys ++ [x] ∧ Paired R ys bs ∧ R x b
  | [], _, .cons h .nil => ⟨[], _, rfl, .nil, h⟩
  | c :: bs, _, .cons h t => by
    obtain ⟨ys, x, rfl, hp, hr⟩ := pr_snoc_inv t
    exact ⟨_ :: ys, x, rfl, .cons h hp, hr⟩
theorem cut_init (xs : List V) (v : V) : cutV (xs ++ [v]) none (some (-1)) = xs := by
  have e1 : HT.sIx (xs ++ [v]).length (xs ++ [v]).length (some (-1)) = ((-1 : Int) + ((xs ++ [v]).length : Int)).toNat := rfl
  have e2 : HT.sIx (xs ++ [v]).length 0 none = 0 := rfl
  unfold cutV
  rw [e1, e2, List.length_append, List.length_singleton]
  show ((xs ++ [v]).drop 0).take (((-1 : Int) + ((xs.length + 1 : Nat) : Int)).toNat - 0) = xs
  rw [List.drop_zero, show ((-1 : Int) + ((xs.length + 1 : Nat) : Int)).toNat - 0 = xs.length by omega, List.take_left]
theorem fm_if {α β : Type} (p : α → Bool) (f : α → List β) : ∀ l : List α, (l.flatMap fun x => if p x = true then f x else []) = (l.filter p).flatMap f
  | [] => rfl
  | a :: l => by
    rw [List.flatMap_cons, fm_if p f l, List.filter_cons]
    by_cases c : p a = true
    · rw [if_pos c, if_pos c, List.flatMap_cons]
    · rw [if_neg c, if_neg c]; rfl
end Fp
/-! tasks: texts and what they tell -/
namespace TL
open PySem
theorem pre_second {s m c d : Nat} {S r : List Nat} (h : d ≠ m) : pre (s :: m :: S) (c :: d :: r) = false := by
  cases hp : pre (s :: m :: S) (c :: d :: r) with
  | false => rfl
  | true =>
    have e : (c :: d :: r).take (s :: m :: S).length = s :: m :: S := eq_of_beq hp
    rw [List.length_cons, List.take_succ_cons, List.length_cons, List.take_succ_cons] at e
    injection e with e1 e2
    injection e2 with e3 e4
    exact absurd e3 h
theorem pre_short {s m c : Nat} {S : List Nat} : pre (s :: m :: S) [c] = false := by
  cases hp : pre (s :: m :: S) [c] with
  | false => rfl
  | true =>
    have e : [c].take (s :: m :: S).length = s :: m :: S := eq_of_beq hp
    simp at e
theorem free_mid {s m : Nat} {S p r : List Nat} (h : m ∉ p) (hs : s ≠ m) (hr : r = [] ∨ ∃ t, r = s :: t) : ∀ i, i < p.length → pre (s :: m :: S) ((p ++ r).drop i) = false := fun i hi => by
  have e : (p ++ r).drop i = p[i] :: (p.drop (i + 1) ++ r) := by
    rw [List.drop_append_of_le_length (by omega), List.drop_eq_getElem_cons hi]; rfl
  rw [e]
  cases e2 : p.drop (i + 1) with
  | nil =>
    rcases hr with rfl | ⟨t, rfl⟩
    · exact pre_short
    · exact pre_second hs
  | cons d q =>
    refine pre_second fun z => h ?_
    have : d ∈ p.drop (i + 1) := by rw [e2]; exact List.mem_cons_self
    rw [← z]
    exact List.mem_of_mem_drop this
theorem spl_join_mid {s m : Nat} {S : List Nat} (hs : s ≠ m) : ∀ {parts : List (List Nat)}, parts ≠ [] → (∀ p ∈ parts, m ∉ p) → spl (s :: m :: S) 0 [] (joinL (s :: m :: S) parts) = parts
  | [], h, _ => absurd rfl h
  | [p], _, hp => by
    show spl (s :: m :: S) 0 [] p = [p]
    rw [spl_last (fun i hi => by
      have := free_mid (S := S) (r := []) (hp p (List.mem_singleton.mpr rfl)) hs (.inl rfl) i hi
      rwa [List.append_nil] at this), List.nil_append]
  | p :: q :: r, _, hp => by
    show spl (s :: m :: S) 0 [] (p ++ (s :: m :: S ++ joinL (s :: m :: S) (q :: r))) = p :: q :: r
    rw [spl_part (by simp) (free_mid (hp p (List.mem_cons_self ..)) hs (.inr ⟨_, rfl⟩)), List.nil_append, spl_join_mid hs (by simp) fun z hz => hp z (List.mem_cons_of_mem _ hz)]
theorem split_join_mid {y : Str} {s m : Nat} {S : List Nat} (ey : tl y = s :: m :: S) (hs : s ≠ m) (hk : y.cps.all (· < 256) = true) {parts : List Str} (hne : parts ≠ []) (hp : ∀ p ∈ parts, m ∉ tl p) :
    Txt.split (Txt.join y parts) y = parts := by
  refine map_tl_inj ?_
  rw [split_spl _ y (by rw [ey]; simp) (kind_ok hk), join_eq, tl_join, ey]
  refine spl_join_mid hs (fun e => hne (List.map_eq_nil_iff.mp e)) fun p h => ?_
  obtain ⟨z, hz, rfl⟩ := List.mem_map.mp h
  exact hp z hz
end TL
namespace Fp
open PySem PySem.Spec PyProof.Rows L2
abbrev TLn := List Int × List (List Int)
def litL (l : List Int) : Str := Txt.join " " (l.map fun i => (toString i : Str))
def lineT (ln : TLn) : Str := litL ln.1 ++ (" : " : Str) ++ Txt.join " | " (ln.2.map litL)
def taskT (ls : List TLn) : Str := Txt.join "\n" (ls.map lineT)
/-! what a text tells -/
def lotIn (z : Str) : Option (List Int) :=
  let ws := (Txt.split z " ").map fun w => numIn w 0 99
  if ws.all Option.isSome = true ∧ adjLt (ws.map fun o => o.getD 0) = true then some (ws.map fun o => o.getD 0) else none
def lineIn (z : Str) : Option TLn :=
  match Txt.split z " : " with
  | [a, b] => match lotIn a with
    | none => none
    | some l => if 4 < l.length ∨ ((Txt.split b " | ").map lotIn).any Option.isNone = true then none else some (l, ((Txt.split b " | ").map lotIn).map fun o => o.getD [])
  | _ => none
theorem starts_neg (z : Str) : Txt.startswith z "-" = isNeg z := by
  obtain ⟨⟨l⟩⟩ := z
  have hl : ("-" : Str) = ⟨#[45]⟩ := by decide +kernel
  rw [hl]
  unfold Txt.startswith isNeg sg Builtin.Str.subAt
  cases l with
  | nil => rfl
  | cons c r =>
    by_cases h : c = 45
    · subst h
      simp [Str.length]
    · have e : (match c :: r with | 45 :: _ => true | _ => false) = false := by
        split
        · rename_i h2
          cases h2
          exact absurd rfl h
        · rfl
      simp only [e]
      simp [Str.length, h]
theorem cut_tail (z : Str) : sg (cutS z (some 1) none) = (sg z).tail := by
  have e1 : HT.sIx z.length z.length none = z.length := rfl
  have e2 := HT.sIx_nat z.length 0 1
  show ((sg z).drop (HT.sIx z.length 0 (some 1))).take (HT.sIx z.length z.length none - HT.sIx z.length 0 (some 1)) = _
  rw [e1, show ((1 : Int)) = ((1 : Nat) : Int) from rfl, e2]
  have hl : z.length = (sg z).length := by simp [Str.length, sg]
  rw [hl]
  cases e : sg z with
  | nil => rfl
  | cons a b => simp
theorem atI0t {α : Type} {l : List α} {v : α} (h : l[0]? = some v) : atI l 0 = some v := atI_nat (j := 0) h
theorem len_sg (z : Str) : z.length = (sg z).length := by simp [Str.length, sg]
theorem numIn_some {w : Str} {lo hi n : Int} (e : intIn w = some n) (h : lo ≤ n ∧ n ≤ hi) : numIn w lo hi = some n := by
  unfold numIn; rw [e]; exact if_pos h
theorem numIn_out {w : Str} {lo hi n : Int} (e : intIn w = some n) (h : ¬ (lo ≤ n ∧ n ≤ hi)) : numIn w lo hi = none := by
  unfold numIn; rw [e]; exact if_neg h
theorem numIn_none {w : Str} {lo hi : Int} (e : intIn w = none) : numIn w lo hi = none := by
  unfold numIn; rw [e]

theorem numIn_range {w : Str} {lo hi n : Int} (h : numIn w lo hi = some n) : lo ≤ n ∧ n ≤ hi := by
  unfold numIn at h
  split at h
  · split at h
    · rename_i c
      cases h
      exact c
    · cases h
  · cases h
/-! ### what was told is read back -/
structure LotOk (l : List Int) : Prop where
  ne : l ≠ []
  up : l.Pairwise (· < ·)
  rng : ∀ x ∈ l, 0 ≤ x ∧ x ≤ 99
  few : l.length ≤ 100
structure LnOk (ln : TLn) : Prop where
  left : LotOk ln.1
  four : ln.1.length ≤ 4
  some : ln.2 ≠ []
  ends : ∀ e ∈ ln.2, LotOk e
  few : ln.2.length ≤ 30
theorem n99 {f : Int → Bool} (h : (List.range 100).all (fun k => f (k : Int)) = true) {i : Int} (h0 : 0 ≤ i) (h1 : i ≤ 99) : f i = true := by
  have := List.all_eq_true.mp h i.toNat (List.mem_range.mpr (by omega))
  rwa [show ((i.toNat : Nat) : Int) = i by omega] at this
def figs (i : Int) : Bool := decide ((toString i : Str).length ≤ 2) && ((sg (toString i : Str)).all fun c => decide (48 ≤ c ∧ c ≤ 57)) && decide (numIn (toString i) 0 99 = some i)
theorem figs_ok {i : Int} (h0 : 0 ≤ i) (h1 : i ≤ 99) : (toString i : Str).length ≤ 2 ∧ (∀ c ∈ sg (toString i : Str), 48 ≤ c ∧ c ≤ 57) ∧ numIn (toString i) 0 99 = some i := by
  have := n99 (f := figs) (by decide +kernel) h0 h1
  unfold figs at this
  simp only [Bool.and_eq_true, decide_eq_true_eq, List.all_eq_true] at this
  exact ⟨this.1.1, this.1.2, this.2⟩
theorem joinL_all {S : List Nat} {f : Nat → Prop} (hS : ∀ c ∈ S, f c) : ∀ {ls : List (List Nat)}, (∀ l ∈ ls, ∀ c ∈ l, f c) → ∀ c ∈ TL.joinL S ls, f c
  | [], _, c, h => nomatch h
  | [p], h, c, hc => h p (by simp) c hc
  | p :: q :: r, h, c, hc => by
    rcases List.mem_append.mp (show c ∈ p ++ (S ++ TL.joinL S (q :: r)) from hc) with m | m
    · exact h p (by simp) c m
    · rcases List.mem_append.mp m with m | m
      · exact hS c m
      · exact joinL_all hS (fun l hl => h l (by simp at hl ⊢; exact .inr hl)) c m
theorem join_signs {y : Str} {S : List Nat} (ey : TL.tl y = S) {parts : List Str} {f : Nat → Prop} (hS : ∀ c ∈ S, f c) (h : ∀ p ∈ parts, ∀ c ∈ sg p, f c) : ∀ c ∈ sg (Txt.join y parts), f c := by
  intro c hc
  have hc' : c ∈ TL.tl (Txt.join y parts) := hc
  rw [TL.join_eq, TL.tl_join, ey] at hc'
  refine joinL_all hS ?_ c hc'
  intro l hl c hc
  obtain ⟨p, hp, rfl⟩ := List.mem_map.mp hl
  exact h p hp c hc
theorem lit_signs {l : List Int} (h : ∀ x ∈ l, 0 ≤ x ∧ x ≤ 99) : ∀ c ∈ sg (litL l), c = 32 ∨ (48 ≤ c ∧ c ≤ 57) := by
  refine join_signs (S := [32]) (by decide +kernel) (fun c hc => .inl (List.mem_singleton.mp hc)) fun p hp c hc => ?_
  obtain ⟨i, hi, rfl⟩ := List.mem_map.mp hp
  exact .inr ((figs_ok (h i hi).1 (h i hi).2).2.1 c hc)
theorem lot_back {l : List Int} (h : LotOk l) : lotIn (litL l) = some l := by
  have e : Txt.split (litL l) " " = l.map fun i => (toString i : Str) := by
    refine TL.split_join (s := 32) (S := []) (by decide +kernel) (by decide +kernel) (by simpa using h.ne) fun p hp hm => ?_
    obtain ⟨i, hi, rfl⟩ := List.mem_map.mp hp
    have := (figs_ok (h.rng i hi).1 (h.rng i hi).2).2.1 32 hm
    omega
  have e2 : (l.map fun i => (toString i : Str)).map (fun w => numIn w 0 99) = l.map some := by
    rw [List.map_map]
    exact List.map_congr_left fun i hi => (figs_ok (h.rng i hi).1 (h.rng i hi).2).2.2
  have e3 : (l.map some).map (fun o : Option Int => o.getD 0) = l := by rw [List.map_map]; exact List.map_id _
  unfold lotIn
  simp only [e, e2, e3]
  rw [if_pos ⟨by simp, adjLt_iff.mpr h.up⟩]
theorem str_app (a b : Str) : sg (a ++ b) = sg a ++ sg b := TL.tl_append a b
theorem ends_signs {es : List (List Int)} (h : ∀ e ∈ es, LotOk e) : ∀ c ∈ sg (Txt.join " | " (es.map litL)), c = 32 ∨ c = 124 ∨ (48 ≤ c ∧ c ≤ 57) := by
  refine join_signs (S := [32, 124, 32]) (by decide +kernel) (fun c hc => ?_) fun p hp c hc => ?_
  · simp only [List.mem_cons, List.not_mem_nil, or_false] at hc
    rcases hc with rfl | rfl | rfl <;> simp
  · obtain ⟨l, hl, rfl⟩ := List.mem_map.mp hp
    rcases lit_signs (h l hl).rng c hc with e | e
    · exact .inl e
    · exact .inr (.inr e)
theorem line_join (ln : TLn) : lineT ln = Txt.join " : " [litL ln.1, Txt.join " | " (ln.2.map litL)] := by
  rw [TL.join_eq]; rfl
theorem line_signs {ln : TLn} (h : LnOk ln) : ∀ c ∈ sg (lineT ln), c = 32 ∨ c = 58 ∨ c = 124 ∨ (48 ≤ c ∧ c ≤ 57) := by
  rw [line_join]
  refine join_signs (S := [32, 58, 32]) (by decide +kernel) (fun c hc => ?_) fun p hp c hc => ?_
  · simp only [List.mem_cons, List.not_mem_nil, or_false] at hc
    rcases hc with rfl | rfl | rfl <;> simp
  · simp only [List.mem_cons, List.not_mem_nil, or_false] at hp
    rcases hp with rfl | rfl
    · rcases lit_signs h.left.rng c hc with e | e
      · exact .inl e
      · exact .inr (.inr (.inr e))
    · rcases ends_signs h.ends c hc with e | e | e
      · exact .inl e
      · exact .inr (.inr (.inl e))
      · exact .inr (.inr (.inr e))
theorem line_back {ln : TLn} (h : LnOk ln) : lineIn (lineT ln) = some ln := by
  have e1 : Txt.split (lineT ln) " : " = [litL ln.1, Txt.join " | " (ln.2.map litL)] := by
    rw [line_join]
    refine TL.split_join_mid (s := 32) (m := 58) (S := [32]) (by decide +kernel) (by decide) (by decide +kernel) (by simp) fun p hp hm => ?_
    simp only [List.mem_cons, List.not_mem_nil, or_false] at hp
    rcases hp with rfl | rfl
    · have := lit_signs h.left.rng 58 hm
      omega
    · have := ends_signs h.ends 58 hm
      omega
  have e2 : Txt.split (Txt.join " | " (ln.2.map litL)) " | " = ln.2.map litL := by
    refine TL.split_join_mid (s := 32) (m := 124) (S := [32]) (by decide +kernel) (by decide) (by decide +kernel) (by simpa using h.some) fun p hp hm => ?_
    obtain ⟨l, hl, rfl⟩ := List.mem_map.mp hp
    have := lit_signs (h.ends l hl).rng 124 hm
    omega
  have e3 : (ln.2.map litL).map lotIn = ln.2.map some := by
    rw [List.map_map]
    exact List.map_congr_left fun l hl => lot_back (h.ends l hl)
  unfold lineIn
  rw [e1]
  simp only [lot_back h.left, e2, e3]
  have hf := h.four
  rw [if_neg (by simp; omega), List.map_map]
  show some (ln.1, ln.2.map id) = _
  rw [List.map_id]
theorem task_back {ls : List TLn} (hne : ls ≠ []) (h : ∀ ln ∈ ls, LnOk ln) : Txt.split (taskT ls) "\n" = ls.map lineT := by
  refine TL.split_join (s := 10) (S := []) (by decide +kernel) (by decide +kernel) (by simpa using hne) fun p hp hm => ?_
  obtain ⟨ln, hl, rfl⟩ := List.mem_map.mp hp
  have := line_signs (h ln hl) 10 hm
  omega

/-! ### in the heap -/
def LtV (H : Hp) (v : V) (l : List Int) : Prop := ∃ c, v = .ref c ∧ H c = some (.tup (l.map V.int))
def EndsV (H : Hp) (v : V) (es : List (List Int)) : Prop := ∃ t ys, v = .ref t ∧ H t = some (.tup ys) ∧ Paired (LtV H) ys es
def LnV (H : Hp) (v : V) (ln : TLn) : Prop := ∃ t a b, v = .ref t ∧ H t = some (.tup [a, b]) ∧ LtV H a ln.1 ∧ EndsV H b ln.2
theorem LtV.tk {H H' : Hp} (g : TK H H') {v : V} {l : List Int} : LtV H v l → LtV H' v l := fun ⟨c, e, h⟩ => ⟨c, e, g.t h⟩
theorem EndsV.tk {H H' : Hp} (g : TK H H') {v : V} {es : List (List Int)} : EndsV H v es → EndsV H' v es := fun ⟨t, ys, e, h, p⟩ => ⟨t, ys, e, g.t h, pr_imp (fun _ _ h => LtV.tk g h) p⟩
theorem LnV.tk {H H' : Hp} (g : TK H H') {v : V} {ln : TLn} : LnV H v ln → LnV H' v ln := fun ⟨t, a, b, e, h, i, j⟩ => ⟨t, a, b, e, g.t h, i.tk g, j.tk g⟩
theorem tk_lst {H : Hp} {p : Addr} {xs : List V} {u : HO} (h : H p = some (.lst xs)) : TK H (upd H p u) := TK.put h (fun z => z.elim)
theorem stab_lt : Stab LtV := ⟨fun g h => h.tk (.of g), fun e h => h.tk (tk_lst e)⟩
theorem stab_ends : Stab EndsV := ⟨fun g h => h.tk (.of g), fun e h => h.tk (tk_lst e)⟩
theorem stab_ln : Stab LnV := ⟨fun g h => h.tk (.of g), fun e h => h.tk (tk_lst e)⟩
theorem LtV.inj {H : Hp} {v : V} {l m : List Int} (h : LtV H v l) (g : LtV H v m) : l = m := by
  obtain ⟨c, rfl, h⟩ := h
  obtain ⟨d, e, g⟩ := g
  cases e
  rw [h] at g
  injection g with g
  injection g with g
  have := congrArg (List.map fun v : V => match v with
    | .int i => i
    | _ => 0) g
  rw [List.map_map, List.map_map] at this
  have e : ∀ l : List Int, l.map ((fun v : V => match v with
    | .int i => i
    | _ => 0) ∘ V.int) = l := fun l => List.map_id l
  rwa [e, e] at this
def LotRes (H : Hp) (v : V) : Option (List Int) → Prop
  | none => v = .non
  | some l => LtV H v l
theorem LotRes.tk {H H' : Hp} (g : TK H H') {v : V} : ∀ {o : Option (List Int)}, LotRes H v o → LotRes H' v o
  | none, h => h
  | some _, h => LtV.tk g h
def LnRes (H : Hp) (v : V) : Option TLn → Prop
  | none => v = .non
  | some ln => LnV H v ln
theorem LnRes.tk {H H' : Hp} (g : TK H H') {v : V} : ∀ {o : Option TLn}, LnRes H v o → LnRes H' v o
  | none, h => h
  | some _, h => LnV.tk g h
theorem stab_lotres : Stab LotRes := ⟨fun g h => h.tk (.of g), fun e h => h.tk (tk_lst e)⟩
def lotP (l : List Int) : PyData := .tuple (l.map PyData.int)
theorem lt_dp {K : PySem.W.Frag} {H : Hp} {v : V} {l : List Int} (h : LtV H v l) : Dp K H v (lotP l) := by
  obtain ⟨c, rfl, h⟩ := h
  refine .tup (.of h) ?_
  clear h
  induction l with
  | nil => exact .nil
  | cons a l ih => exact .cons (.int a) ih
theorem lotP_eq (l : List Int) : toP 1 (lotD l) = lotP l := by
  show PyData.tuple ((l.map Dt.int).map (toP 0)) = _
  rw [List.map_map]; rfl
theorem lotP_eqv (l m : List Int) : PyData.eqv (lotP l) (lotP m) = decide (l = m) := by
  have h : ∀ l : List Int, pl 1 (lotD l) = true := fun l => pl_tup.mpr fun e he => by obtain ⟨i, _, rfl⟩ := List.mem_map.mp he; rfl
  rw [← lotP_eq, ← lotP_eq, Bool.eq_iff_iff, eqv_iff (h _) (h _), decide_eq_true_iff]
  exact ⟨lotD_inj, fun z => by rw [z]⟩
theorem lotP_shaped (l : List Int) : SeqAt.shaped (lotP l) = true := by rw [← lotP_eq]; exact toP_shaped (by decide)
theorem mem_full {n : Nat} {x : Int} : x ∈ fullL n ↔ 0 ≤ x ∧ x < n := by
  unfold fullL
  rw [List.mem_map]
  constructor
  · rintro ⟨i, hi, rfl⟩
    have := List.mem_range.mp hi
    omega
  · rintro ⟨a, b⟩
    exact ⟨x.toNat, List.mem_range.mpr (by omega), by omega⟩
/-- the lot of these words, all below 100 -/
def lotM (ws : List Int) : List Int := (fullL 100).filter fun x => decide (x ∈ ws)
theorem lotM_up (ws : List Int) : (lotM ws).Pairwise (· < ·) := (fullL_up 100).filter _
theorem lotM_mem {ws : List Int} (r : ∀ x ∈ ws, 0 ≤ x ∧ x < 100) {x : Int} : x ∈ lotM ws ↔ x ∈ ws := by
  unfold lotM
  rw [List.mem_filter, mem_full, decide_eq_true_iff]
  exact ⟨fun h => h.2, fun h => ⟨r x h, h⟩⟩
theorem lotM_of {zs ws : List Int} (h : zs.Pairwise (· < ·)) (m : ∀ x, x ∈ zs ↔ x ∈ ws) (r : ∀ x ∈ ws, 0 ≤ x ∧ x < 100) : zs = lotM ws :=
  srt_eq h (lotM_up ws) fun x => (m x).trans (lotM_mem r).symm
end Fp
/-! greatest lots: the mathematics -/
namespace Fp
open PySem PySem.Spec PyProof.Rows L2
abbrev subL (l m : List Int) : Prop := ∀ x ∈ l, x ∈ m
theorem up_eq {l m : List Int} (hl : l.Pairwise (· < ·)) (hm : m.Pairwise (· < ·)) (s : subL l m) (h : m.length ≤ l.length) : l = m :=
  srt_eq hl hm fun x => ⟨s x, sub_eq (srt_nodup hl) s h x⟩
theorem up_less {l m : List Int} (hl : l.Pairwise (· < ·)) (hm : m.Pairwise (· < ·)) (s : subL l m) (h : m ≠ l) : l.length < m.length := by
  by_cases c : m.length ≤ l.length
  · exact absurd (up_eq hl hm s c).symm h
  · omega
def MaxIn (L : List (List Int)) (l : List Int) : Prop := l ∈ L ∧ ∀ m ∈ L, subL l m → m = l
theorem max_over {L : List (List Int)} (hs : ∀ l ∈ L, l.Pairwise (· < ·)) {B : Nat} (hB : ∀ l ∈ L, l.length ≤ B) : ∀ (n : Nat) (l : List Int), l ∈ L → B - l.length ≤ n → ∃ k, MaxIn L k ∧ subL l k := by
  intro n
  induction n with
  | zero =>
    intro l hl hn
    refine ⟨l, ⟨hl, fun m hm s => Classical.byContradiction fun c => ?_⟩, fun x h => h⟩
    have := up_less (hs l hl) (hs m hm) s c
    have := hB m hm
    omega
  | succ n ih =>
    intro l hl hn
    by_cases c : MaxIn L l
    · exact ⟨l, c, fun x h => h⟩
    · have : ∃ m ∈ L, subL l m ∧ m ≠ l := Classical.byContradiction fun d => c ⟨hl, fun m hm s => Classical.byContradiction fun e => d ⟨m, hm, s, e⟩⟩
      obtain ⟨m, hm, s, e⟩ := this
      have := up_less (hs l hl) (hs m hm) s e
      obtain ⟨k, hk, sk⟩ := ih m hm (by omega)
      exact ⟨k, hk, fun x hx => sk x (s x hx)⟩
theorem max_over' {L : List (List Int)} (hs : ∀ l ∈ L, l.Pairwise (· < ·) ∧ l.length ≤ 100) {l : List Int} (hl : l ∈ L) : ∃ k, MaxIn L k ∧ subL l k :=
  max_over (fun l h => (hs l h).1) (B := 100) (fun l h => (hs l h).2) _ l hl (Nat.le_refl _)
theorem max_step {L : List (List Int)} {w : List Int} (hs : ∀ l ∈ L, l.Pairwise (· < ·) ∧ w.length ≤ l.length) (hw : w.Pairwise (· < ·)) (hn : w ∉ L) (l : List Int) :
    MaxIn (L ++ [w]) l ↔ MaxIn L l ∨ (l = w ∧ ¬ ∃ m ∈ L, subL w m) := by
  have old : ∀ l ∈ L, ¬ subL l w := fun l hl s => by
    have := up_eq (hs l hl).1 hw s (hs l hl).2
    exact hn (this ▸ hl)
  constructor
  · rintro ⟨hl, hm⟩
    rcases List.mem_append.mp hl with h | h
    · exact .inl ⟨h, fun m hm' s => hm m (List.mem_append_left _ hm') s⟩
    · have e := List.mem_singleton.mp h
      subst e
      refine .inr ⟨rfl, fun ⟨m, hm', s⟩ => ?_⟩
      have := hm m (List.mem_append_left _ hm') s
      exact hn (this ▸ hm')
  · rintro (⟨hl, hm⟩ | ⟨rfl, hno⟩)
    · refine ⟨List.mem_append_left _ hl, fun m hm' s => ?_⟩
      rcases List.mem_append.mp hm' with h | h
      · exact hm m h s
      · rw [List.mem_singleton.mp h] at s
        exact absurd s (old l hl)
    · refine ⟨List.mem_append_right _ (List.mem_singleton.mpr rfl), fun m hm' s => ?_⟩
      rcases List.mem_append.mp hm' with h | h
      · exact absurd ⟨m, h, s⟩ hno
      · exact List.mem_singleton.mp h
theorem max_congr {L M : List (List Int)} (h : ∀ l, l ∈ L ↔ l ∈ M) (l : List Int) : MaxIn L l ↔ MaxIn M l := by
  unfold MaxIn
  rw [h l]
  exact ⟨fun ⟨a, b⟩ => ⟨a, fun m hm => b m ((h m).mpr hm)⟩, fun ⟨a, b⟩ => ⟨a, fun m hm => b m ((h m).mp hm)⟩⟩
theorem lex_tot : ∀ {a b : List Int}, HT.lexLt a b = false → HT.lexLt b a = false → a = b
  | [], [], _, _ => rfl
  | [], b :: m, h, _ => by cases h
  | a :: l, [], _, h => by cases h
  | a :: l, b :: m, h1, h2 => by
    rw [HT.lexLt_cons] at h1 h2
    by_cases e : a = b
    · subst e
      rw [if_pos rfl] at h1 h2
      rw [lex_tot h1 h2]
    · rw [if_neg e] at h1
      rw [if_neg (Ne.symm e)] at h2
      have := of_decide_eq_false h1
      have := of_decide_eq_false h2
      omega
def SrtL (l : List (List Int)) : Prop := l.Pairwise fun a b => HT.lexLt b a = false
theorem srtL_uniq : ∀ {l m : List (List Int)}, SrtL l → SrtL m → l.Nodup → m.Nodup → (∀ x, x ∈ l ↔ x ∈ m) → l = m
  | [], [], _, _, _, _, _ => rfl
  | [], b :: m, _, _, _, _, h => absurd ((h b).mpr List.mem_cons_self) (by simp)
  | a :: l, [], _, _, _, _, h => absurd ((h a).mp List.mem_cons_self) (by simp)
  | a :: l, b :: m, hl, hm, nl, nm, h => by
    obtain ⟨l1, l2⟩ := List.pairwise_cons.mp hl
    obtain ⟨m1, m2⟩ := List.pairwise_cons.mp hm
    obtain ⟨n1, n2⟩ := List.nodup_cons.mp nl
    obtain ⟨k1, k2⟩ := List.nodup_cons.mp nm
    have e : a = b := by
      rcases List.mem_cons.mp ((h a).mp List.mem_cons_self) with z | z
      · exact z
      · rcases List.mem_cons.mp ((h b).mpr List.mem_cons_self) with y | y
        · exact y.symm
        · exact lex_tot (m1 a z) (l1 b y)
    subst e
    rw [srtL_uniq l2 m2 n2 k2 fun x => ⟨fun hx => ?_, fun hx => ?_⟩]
    · rcases List.mem_cons.mp ((h x).mp (List.mem_cons_of_mem _ hx)) with z | z
      · exact absurd (z ▸ hx) n1
      · exact z
    · rcases List.mem_cons.mp ((h x).mpr (List.mem_cons_of_mem _ hx)) with z | z
      · exact absurd (z ▸ hx) k1
      · exact z
/-- these are the greatest of the lots, in their order -/
structure Great (lots G : List (List Int)) : Prop where
  srt : SrtL G
  nd : G.Nodup
  mem : ∀ l, l ∈ G ↔ MaxIn lots l
theorem Great.uniq {lots lots2 G G2 : List (List Int)} (h : Great lots G) (g : Great lots2 G2) (e : ∀ l, MaxIn lots l ↔ MaxIn lots2 l) : G = G2 :=
  srtL_uniq h.srt g.srt h.nd g.nd fun x => (h.mem x).trans ((e x).trans (g.mem x).symm)
theorem Great.has {lots G : List (List Int)} (h : Great lots G) (hs : ∀ l ∈ lots, l.Pairwise (· < ·) ∧ l.length ≤ 100) (s : List Int) : (∃ e ∈ G, subL s e) ↔ ∃ e ∈ lots, subL s e := by
  constructor
  · rintro ⟨e, he, k⟩
    exact ⟨e, ((h.mem e).mp he).1, k⟩
  · rintro ⟨e, he, k⟩
    obtain ⟨m, hm, sm⟩ := max_over' hs he
    exact ⟨m, (h.mem m).mpr hm, fun x hx => sm x (k x hx)⟩
/-- the lot that stands there -/
def lotK (H : Hp) : V → List Int
  | .ref t => match H t with
    | some (.tup ys) => ys.map fun v : V => match v with
      | .int i => i
      | _ => 0
    | _ => []
  | _ => []
theorem lotK_eq {H : Hp} {v : V} {l : List Int} (h : LtV H v l) : lotK H v = l := by
  obtain ⟨c, rfl, h⟩ := h
  unfold lotK
  simp only [h, List.map_map]
  exact List.map_id l
theorem lots_K {H : Hp} : ∀ {xs : List V} {ls : List (List Int)}, Paired (LtV H) xs ls → ls = xs.map (lotK H) ∧ ∀ x ∈ xs, LtV H x (lotK H x)
  | _, _, .nil => ⟨rfl, fun x h => nomatch h⟩
  | _, _, .cons h t => by
    obtain ⟨e, g⟩ := lots_K t
    have ek := lotK_eq h
    refine ⟨by rw [List.map_cons, ek, ← e], fun x hx => ?_⟩
    rcases List.mem_cons.mp hx with z | z
    · rw [z, ek]; exact h
    · exact g x z
theorem K_lots {H : Hp} : ∀ {xs : List V}, (∀ x ∈ xs, LtV H x (lotK H x)) → Paired (LtV H) xs (xs.map (lotK H))
  | [], _ => .nil
  | x :: xs, h => .cons (h x List.mem_cons_self) (K_lots fun y hy => h y (List.mem_cons_of_mem _ hy))
end Fp
namespace Fp
open PySem PySem.Spec PyProof.Rows L2
theorem flt_take {α : Type} {p : α → Bool} {l : List α} {i : Nat} {x : α} (h : l[i]? = some x) : (l.take (i + 1)).filter p = (l.take i).filter p ++ (if p x = true then [x] else []) := by
  rw [List.take_add_one, h, List.filter_append]
  congr 1
  show [x].filter p = _
  rw [List.filter_cons]
  rfl
theorem flt_le {α : Type} {p : α → Bool} {l : List α} {i : Nat} : ((l.take i).filter p).length ≤ l.length := Nat.le_trans (List.length_filter_le _ _) (by rw [List.length_take]; omega)
theorem op_notIn_seqK {X : Cx} {K : PySem.W.Frag} (e : X.K = K := by rfl) : OpR X (compareOp .NotIn) (rIn K true) := by subst e; exact op_notIn_seq
theorem nat_flat : ∀ l : List Nat, (natV l).all flatV = true
  | [] => rfl
  | a :: l => by
    show (flatV (V.int (a : Int)) && (natV l).all flatV) = true
    rw [nat_flat l]; rfl
theorem inV_nat (p : Nat) (l : List Nat) : inV (.int (p : Nat)) (natV l) = decide (p ∈ l) := by
  unfold inV natV
  rw [List.any_map, Bool.eq_iff_iff, List.any_eq_true, decide_eq_true_iff]
  have e : ∀ a b : Nat, eqV (V.int (a : Int)) (V.int (b : Int)) = true ↔ a = b := fun a b => by
    show ((a : Int) == (b : Int)) = true ↔ a = b
    rw [beq_iff_eq]; omega
  constructor
  · rintro ⟨x, hx, h⟩
    have := (e x p).mp h
    rw [← this]; exact hx
  · intro h
    exact ⟨p, h, (e p p).mpr rfl⟩
theorem inS (p : Nat) (l : List Nat) : (if false = true then !inV (.int (p : Nat)) (natV l) else inV (.int (p : Nat)) (natV l)) = decide (p ∈ l) := by rw [inV_nat]; rfl
def spWDown : Sp := fun vs H Q _ => ∃ (n : Nat) (v : V) (r : RowN) (cm vw : Addr) (came view : List Nat), vs = [.int n, v, .ref cm, .ref vw] ∧ 1 ≤ n ∧ n ≤ 5 ∧ DV H v (rowND r) ∧ r.length = n ∧ H cm = some (.tup (natV came)) ∧ H vw = some (.tup (natV view)) ∧ (∀ x ∈ view, x < n) ∧ view.length ≤ n ∧
  ∀ l H', Same H H' → H l = none → H' l = some (.lst (natV (wdown n r came view))) → Q (.ref l) H'
def spWTo : Sp := fun vs H Q _ => ∃ (n : Nat) (v : V) (r : RowN), vs = [.int n, v] ∧ 1 ≤ n ∧ n ≤ 5 ∧ DV H v (rowND r) ∧ OkN n r ∧ atB n (rowND r) = true ∧ ∀ t H' Vs, Same H H' → H' t = some (.tup (natV (wto n r [] Vs))) → ViewsOf r Vs → Q (.ref t) H'
section
variable {P : Program} {w : World} {K : PySem.W.Frag} {mg : Str → Option Value} {base : Heap} {f : Addr} {fd : FuncData} {C : Addr}
abbrev s_weaving_down : Stmt := top 26
theorem sc_weaving_down : FnScope ["many", "row", "came", "view", "hands", "hand"] ["many", "row", "came", "view"] (defScope s_weaving_down) := ⟨rfl, rfl, rfl, by decide +kernel, rfl, by decide +kernel, by decide +kernel⟩
theorem ok_weaving_down (F : Fun K "weaving_down" "weaving_down" s_weaving_down f fd) (T : RTx mg) : FnOk P w K mg base CX0 1 f fd ["many", "row", "came", "view"] spWDown := by
  refine F.ok sc_weaving_down (fun vs H Q E h => ?_) (fun cdv A outer s H vs Q E hr h => ?_)
  · obtain ⟨n, v, r, cm, vw, came, view, rfl, _⟩ := h
    rfl
  obtain ⟨n, v, r, cm, vw, came, view, rfl, h1, h5, hd, hrl, hcm, hvw, hlt, hvn, k⟩ := h
  have hvl : view.length ≤ 5 := by omega
  refine ⟨_, (pss_cons (ps_setLc (i := 4) (own := [("hand", 5)]) (g := (gName 5))  rfl sc_weaving_down.nd rfl rfl (sw_true rfl rfl rfl (by decide +kernel)) (pi_tup (pv 3)) (blkOk_by (own := [("hand", 5)]) (N := ["many", "row", "came", "view", "hands", "hand"]) (sc := defScope s_weaving_down) (by decide +kernel)) (fun _ _ _ _ _ => (pg_name (i := 5) sc_weaving_down.nd rfl (Or.inl rfl))) (fun _ _ _ _ _ => (pts_one (pt_cmpR op_notIn_seqK (pv 5) (pv 2) rfl))) (fun _ _ _ _ _ => (pv 5)))
  (pss_one (ps_ret (pe_op op_cat (pe_op op_rep (pv 4) (pe_op op_add (pe_op op_mul pe_int (pe_op op_sub (pv 0) (pe_callB call_len rfl T.len (by decide +kernel) (pa_cons (pv 3) pa_nil)))) pe_int)) (pe_lc (own := [("hand", 5)]) (g := (gName 5))  rfl sc_weaving_down.nd (pi_list (pv 4)) (blkOk_by (own := [("hand", 5)]) (N := ["many", "row", "came", "view", "hands", "hand"]) (sc := defScope s_weaving_down) (by decide +kernel)) (fun _ _ _ _ _ => (pg_name (i := 5) sc_weaving_down.nd rfl (Or.inl rfl))) (fun _ _ _ _ _ => (pts_one (pt_cmpR op_notN (pe_ix ix_tupK (pv 1) (pv 5) (fun _ _ => rfl)) pe_non (nomark _)))) (fun _ _ _ _ _ => (pv 5))))))), ?_⟩
  have rD := hd
  cases rD with
  | @tup a xs ds ha hds hl =>
  have hxl := hds.len
  rw [List.length_map] at hxl
  refine seq_in ?_
  refine asg_in ?_
  refine ⟨_, rfl, vw, rfl, ⟨_, .of hvw⟩, fun D hD => ?_⟩
  refine lc_tup (K := K) (a := vw) (xs := natV view) (fun i H' => Same H H' ∧ H' D = some (.lst (natV ((view.take i).filter fun h => decide (h ∉ came))))) ⟨same_new hD _, upd_same⟩ (fun i H' _ z => .of (z.1 _ _ hvw)) ?_ ?_
  · rintro i x H' hx ⟨g, h⟩
    obtain ⟨p, hp, rfl⟩ := natV_get hx
    have fl := flt_le (p := fun h => decide (h ∉ came)) (l := view) (i := i)
    refine ⟨rfl, _, rfl, _, rfl, cm, _, rfl, .inr (.of (g _ _ hcm)), rfl, nat_flat came, ?_⟩
    rw [inV_nat]
    refine ⟨_, rfl, ?_⟩
    have eb : (if true = true then !decide (p ∈ came) else decide (p ∈ came)) = decide (p ∉ came) := by simp
    rw [eb]
    refine ite2 (fun c => ?_) (fun c => ?_)
    · refine ⟨_, rfl, _, h, szt (by rw [natL]; omega), fun o u ho => ?_, ?_⟩
      · rw [upd_ne (ne_of_none ho hD)]; exact g _ _ ho
      · rw [upd_same, flt_take hp, if_pos c]
        unfold natV
        rw [List.map_append]; rfl
    · refine ⟨g, ?_⟩
      rw [h, flt_take hp, if_neg c, List.append_nil]
  rintro H1 ⟨g1, h1⟩
  rw [natL, List.take_length] at h1
  have hm : ∀ q ∈ view.filter fun h => decide (h ∉ came), q ∈ view := fun q hq => (List.mem_filter.mp hq).1
  have hl5 : (view.filter fun h => decide (h ∉ came)).length ≤ 5 := Nat.le_trans (List.length_filter_le _ _) hvl
  have hw : wdown n r came view = (List.replicate (2 * (n - view.length) + 1) (view.filter fun h => decide (h ∉ came))).flatten ++ (view.filter fun h => decide (h ∉ came)).filter fun h => (r.getD h none).isSome := rfl
  rw [hw] at k
  generalize view.filter (fun h => decide (h ∉ came)) = hs at h1 hm hl5 k
  refine g_set ?_
  refine nx_in ?_
  refine ret_in ?_
  refine ⟨_, rfl, _, rfl, _, rfl, _, view.length, rfl, (show LenV K (.ref vw) H1 view.length from .inr ⟨_, .of (g1 _ _ hvw), (natL view).symm⟩), _, _, rfl, rfl, 2, _, rfl, rfl, .inl (by decide), _, _, rfl, rfl, D, _, natV hs, rfl, rfl, h1, by omega, by omega, szl (by rw [natL]; have : hs.length * (2 * ((n : Int) - (view.length : Nat)) + 1).toNat ≤ 5 * 11 := Nat.mul_le_mul hl5 (by omega); omega), fun p1 np1 => ?_⟩
  have er : (List.replicate (2 * ((n : Int) - (view.length : Nat)) + 1).toNat (natV hs)).flatten = natV (List.replicate (2 * (n - view.length) + 1) hs).flatten := by
    rw [show (2 * ((n : Int) - (view.length : Nat)) + 1).toNat = 2 * (n - view.length) + 1 by omega]
    unfold natV
    rw [List.map_flatten, List.map_replicate]
  rw [er]
  have g2 := same_new np1 (.lst (natV (List.replicate (2 * (n - view.length) + 1) hs).flatten))
  have hp12 : upd H1 p1 (.lst (natV (List.replicate (2 * (n - view.length) + 1) hs).flatten)) p1 = some (.lst (natV (List.replicate (2 * (n - view.length) + 1) hs).flatten)) := upd_same
  have h2 := g2 _ _ h1
  generalize upd H1 p1 (.lst (natV (List.replicate (2 * (n - view.length) + 1) hs).flatten)) = H2 at g2 hp12 h2 ⊢
  have g02 := g1.trans g2
  refine ⟨_, rfl, D, rfl, ⟨_, .of h2⟩, fun D2 hD2 => ?_⟩
  refine lc_list (K := K) (a := D) (xs := natV hs) (fun i H' => Same H2 H' ∧ H' D2 = some (.lst (natV ((hs.take i).filter fun h => (r.getD h none).isSome)))) ⟨same_new hD2 _, upd_same⟩ (fun i H' _ z => .of (z.1 _ _ h2)) ?_ ?_
  · rintro i x H' hx ⟨g, h⟩
    obtain ⟨p, hp, rfl⟩ := natV_get hx
    have fl := flt_le (p := fun h => (r.getD h none).isSome) (l := hs) (i := i)
    have hpn : p < r.length := by rw [hrl]; exact hlt p (hm p (List.mem_of_getElem? hp))
    obtain ⟨y, hy, dy⟩ := DVs.get hds (show (r.map nD)[p]? = some (nD r[p]) by rw [List.getElem?_map, List.getElem?_eq_getElem hpn]; rfl)
    refine ⟨rfl, _, rfl, _, rfl, a, xs, _, y, rfl, rfl, .of (g _ _ (g02 _ _ ha)), atI_nat hy, rfl, _, rfl, ?_⟩
    rw [dy.non_iff]
    have eg : r.getD p none = r[p] := by rw [List.getD_eq_getElem?_getD, List.getElem?_eq_getElem hpn]; rfl
    have en : (!(nD r[p]).isNon) = (r.getD p none).isSome := by
      rw [eg]
      cases r[p] <;> rfl
    rw [en]
    refine ite2 (fun c => ?_) (fun c => ?_)
    · refine ⟨_, rfl, _, h, szt (by rw [natL]; omega), fun o u ho => ?_, ?_⟩
      · rw [upd_ne (ne_of_none ho hD2)]; exact g _ _ ho
      · rw [upd_same, flt_take hp, if_pos c]
        unfold natV
        rw [List.map_append]; rfl
    · refine ⟨g, ?_⟩
      rw [h, flt_take hp, if_neg c, List.append_nil]
  rintro H3 ⟨g3, h3⟩
  rw [natL, List.take_length] at h3
  have lw : ((List.replicate (2 * (n - view.length) + 1) hs).flatten).length ≤ 55 := by
    rw [List.length_flatten, List.map_replicate, List.sum_replicate_nat]
    exact Nat.mul_le_mul (show 2 * (n - view.length) + 1 ≤ 11 by omega) hl5
  have lf : (hs.filter fun h => (r.getD h none).isSome).length ≤ 5 := Nat.le_trans (List.length_filter_le _ _) hl5
  refine ⟨p1, D2, _, _, rfl, rfl, g3 _ _ hp12, h3, szl (by rw [natL, natL]; omega), fun p4 np4 => ?_⟩
  have g4 := same_new np4 (.lst (natV (List.replicate (2 * (n - view.length) + 1) hs).flatten ++ natV (hs.filter fun h => (r.getD h none).isSome)))
  refine k p4 _ ((g02.trans g3).trans g4) (((g02.trans g3)).free np4) ?_
  rw [upd_same]
  unfold natV
  rw [List.map_append]
abbrev s_weaving_to : Stmt := top 25
theorem sc_weaving_to : FnScope ["many", "row", "weaving", "came", "view", "views"] ["many", "row"] (defScope s_weaving_to) := ⟨rfl, rfl, rfl, by decide +kernel, rfl, by decide +kernel, by decide +kernel⟩
theorem ok_weaving_to (F : Fun K "weaving_to" "weaving_to" s_weaving_to f fd) (T : RTx mg) (G_is_at_once : Fd P w K mg base CX0 "is_at_once" 4 ["many", "value"] spAtD) (G_weaving_down : Fd P w K mg base CX0 "weaving_down" 1 ["many", "row", "came", "view"] spWDown) : FnOk P w K mg base CX0 5 f fd ["many", "row"] spWTo := by
  refine F.ok sc_weaving_to (fun vs H Q E h => ?_) (fun cdv A outer s0 H vs Q E hr h => ?_)
  · obtain ⟨n, v, r, rfl, _⟩ := h
    rfl
  obtain ⟨n, v, r, rfl, h1, h5, hd, R, hat, k⟩ := h
  refine ⟨_, (pss_cons (ps_if (pt_not (pt_val (pe_fd G_is_at_once (hr.mono (by first | decide | omega)) rfl (pa_cons (pv 0) (pa_cons (pv 1) pa_nil))))) (pss_one (ps_no)) pss_nil)
  (pss_cons (ps_set (i := 2) sc_weaving_to.nd rfl (Or.inl rfl) (pe_lst pa_nil))
  (pss_cons (ps_set (i := 3) sc_weaving_to.nd rfl (Or.inl rfl) (pe_tup pa_nil))
  (pss_cons (ps_set (i := 5) sc_weaving_to.nd rfl (Or.inl rfl) (pe_callB (cr_sortedSL rfl) rfl T.sorted (by decide +kernel) (pa_cons (pe_callTy (cr_setOfT rfl (u64 hr)) rfl T.set (by decide +kernel) (pa_cons (pe_lc (own := [("view", 4)]) (g := (gName 4))  rfl sc_weaving_to.nd (pi_tup (pv 1)) (blkOk_by (own := [("view", 4)]) (N := ["many", "row", "weaving", "came", "view", "views"]) (sc := defScope s_weaving_to) (by decide +kernel)) (fun _ _ _ _ _ => (pg_name (i := 4) sc_weaving_to.nd rfl (Or.inl rfl))) (fun _ _ _ _ _ => (pts_one (pt_cmpR op_notN (pv 4) pe_non (nomark _)))) (fun _ _ _ _ _ => (pv 4))) pa_nil)) pa_nil)))
  (pss_cons (ps_for PassesOwn.never rfl (pi_list (pe_sortedLen (u64 hr) rfl T.sorted rfl T.len (pa_cons (pv 5) pa_nil))) (pg_name (i := 4) sc_weaving_to.nd rfl (Or.inl rfl)) (pss_cons (ps_expr (pe_bm PySem.F.plainAttrs_list PySem.F.slot_list_extend PySem.F.type_list_extend mt_extend (pv 2) (pa_cons (pe_fd G_weaving_down (hr.mono (by first | decide | omega)) rfl (pa_cons (pv 0) (pa_cons (pv 1) (pa_cons (pv 3) (pa_cons (pv 4) pa_nil))))) pa_nil)))
  (pss_one (ps_set (i := 3) sc_weaving_to.nd rfl (Or.inl rfl) (pv 4)))))
  (pss_one (ps_ret (pe_callTy call_tuple_of rfl T.tuple (by decide +kernel) (pa_cons (pv 2) pa_nil))))))))), ?_⟩
  refine seq_in ?_
  refine ⟨_, rfl, _, rfl, n, v, rowND r, rfl, h1, h5, hd, fun H1 g1 => ⟨_, rfl, ?_⟩⟩
  rw [hat]
  refine iteF ?_
  refine next_in ?_
  refine nx_in ?_
  refine seq_in ?_
  refine asg_in ?_
  refine ⟨szl (by show 0 ≤ _; decide), fun wl nwl => ?_⟩
  refine g_set ?_
  refine nx_in ?_
  refine seq_in ?_
  refine asg_in ?_
  refine ⟨szl (by show 0 ≤ _; decide), fun cm0 ncm => ?_⟩
  refine g_set ?_
  refine nx_in ?_
  have s1 := same_new nwl (.lst [])
  have s2 := same_new ncm (.tup [])
  have g3 : Same H (upd (upd H1 wl (.lst [])) cm0 (.tup [])) := (g1.trans s1).trans s2
  have nwH : H wl = none := g1.free nwl
  have hwl3 : upd (upd H1 wl (.lst [])) cm0 (.tup []) wl = some (.lst []) := s2 _ _ upd_same
  have hcm3 : upd (upd H1 wl (.lst [])) cm0 (.tup []) cm0 = some (.tup []) := upd_same
  generalize upd (upd H1 wl (.lst [])) cm0 (.tup []) = H3 at g3 hwl3 hcm3 ⊢
  have hd3 := hd.same g3
  cases hd3 with
  | @tup a xs ds ha hds hl =>
  have hxl := hds.len
  rw [List.length_map] at hxl
  refine seq_in ?_
  refine asg_in ?_
  refine ⟨_, rfl, a, rfl, ⟨_, .of ha⟩, fun D hD => ?_⟩
  refine lc_tup (K := K) (a := a) (xs := xs) (fun i H' => Same H3 H' ∧ ∃ ks : List (Addr × List Int), H' D = some (.lst (ks.map fun p => V.ref p.1)) ∧ ks.length ≤ i ∧ (∀ p ∈ ks, H3 p.1 = some (.tup (p.2.map V.int)) ∧ ∃ (j : Nat) (l : List Nat), r[j]? = some (some l) ∧ p.2 = natI l) ∧
    ∀ (j : Nat) (l : List Nat), j < i → r[j]? = some (some l) → ∃ p ∈ ks, p.2 = natI l) ⟨same_new hD _, [], upd_same, Nat.le_refl _, (fun p h => by cases h), fun j l h => (by omega)⟩ (fun i H' _ z => .of (z.1 _ _ ha)) ?_ ?_
  · rintro i x H' hx ⟨g, ks, h, hkl, hk1, hk2⟩
    have hir : i < r.length := by rw [← hxl]; exact get_lt hx
    obtain ⟨d, hdd, dv⟩ := DVs.at_ hds hx
    rw [List.getElem?_map, List.getElem?_eq_getElem hir] at hdd
    have hdd : nD r[i] = d := Option.some.inj hdd
    refine ⟨rfl, _, rfl, rfl, _, rfl, ?_⟩
    rw [dv.non_iff, ← hdd]
    cases e : r[i] with
    | none =>
      refine ite_no rfl ⟨g, ks, h, by omega, hk1, fun j l hj hl => ?_⟩
      by_cases c : j = i
      · rw [c, List.getElem?_eq_getElem hir, e] at hl
        cases hl
      · exact hk2 j l (by omega) hl
    | some l =>
      rw [e] at hdd
      rw [← hdd] at dv
      have R5 : r.length ≤ 5 := by rw [R.len]; exact h5
      obtain ⟨c, rfl, hc, _⟩ := dv.lot (by
        have hl' : r[i]? = some (some l) := by rw [List.getElem?_eq_getElem hir, e]
        show lotB (lotD (natI l)) = true
        refine lotOfB_lotB (n := n) (lotOfB_lotD.mpr ⟨fun x hx => ?_, ?_⟩)
        · obtain ⟨y, hy, rfl⟩ := List.mem_map.mp hx
          have := R.rng _ _ hl' y hy
          omega
        · unfold natI
          rw [List.pairwise_map]
          exact (R.up _ _ hl').imp fun h => by omega)
      rw [show lotOf (nD (some l)) = natI l from lotOf_lotD _] at hc
      refine ite_yes rfl ⟨_, rfl, _, h, szt (by rw [List.length_map]; omega), fun o u ho => ?_, ks ++ [(c, natI l)], ?_, by rw [List.length_append]; exact Nat.succ_le_succ hkl, fun p hp => ?_, fun j m hj hm => ?_⟩
      · rw [upd_ne (ne_of_none ho hD)]; exact g _ _ ho
      · rw [upd_same, List.map_append]; rfl
      · rcases List.mem_append.mp hp with z | z
        · exact hk1 p z
        · rw [List.mem_singleton.mp z]
          exact ⟨hc, i, l, by rw [List.getElem?_eq_getElem hir, e], rfl⟩
      · by_cases c2 : j = i
        · rw [c2, List.getElem?_eq_getElem hir, e] at hm
          have hm : l = m := Option.some.inj (Option.some.inj hm)
          exact ⟨(c, natI l), by simp, by rw [hm]⟩
        · obtain ⟨p, hp, e2⟩ := hk2 j m (by omega) hm
          exact ⟨p, List.mem_append_left _ hp, e2⟩
  rintro H4 ⟨g4, ks, h4, hkl, hk1, hk2⟩
  have R5 : r.length ≤ 5 := by rw [R.len]; exact h5
  have hk4 : ∀ p ∈ ks, H4 p.1 = some (.tup (p.2.map V.int)) := fun p hp => g4 _ _ (hk1 p hp).1
  refine ⟨D, ks, rfl, .of h4, fun p hp => .of (hk4 p hp), by omega, fun sa L nsa hL1 hL2 => ?_⟩
  have t1 : Same H4 (upd H4 sa (SetTO P w sa L)) := same_new nsa (SetTO P w sa L)
  refine ⟨sa, L, rfl, upd_same, fun p hp => .of (t1 _ _ (hk4 p (hL1 p hp))), fun p hp => ?_, fun M u pm nd few pw nu => ?_⟩
  · obtain ⟨_, j, l, hj, e⟩ := hk1 p (hL1 p hp)
    rw [e]
    intro z
    have := R.self _ _ hj
    rw [List.map_eq_nil_iff.mp z] at this
    cases this
  have t2 : Same (upd H4 sa (SetTO P w sa L)) (upd (upd H4 sa (SetTO P w sa L)) u (.lst (M.map fun q => V.ref q.1))) := by
    have nu' : upd H4 sa (SetTO P w sa L) u = none := nu
    exact same_new nu' _
  have t12 := t1.trans t2
  have hu5 : upd (upd H4 sa (SetTO P w sa L)) u (.lst (M.map fun q => V.ref q.1)) u = some (.lst (M.map fun q => V.ref q.1)) := upd_same
  clear nu
  refine g_set ?_
  refine nx_in ?_
  change tSeq _ _ _ _ (upd (upd H4 sa (SetTO P w sa L)) u (.lst (M.map fun q => V.ref q.1)))
  clear t2
  generalize upd (upd H4 sa (SetTO P w sa L)) u (.lst (M.map fun q => V.ref q.1)) = H5 at t12 hu5 ⊢
  have hM : ∀ p ∈ M, p ∈ ks := fun p hp => hL1 p (pm.mem_iff.mp hp)
  have ht5 : ∀ p ∈ M, LtV H5 (.ref p.1) p.2 := fun p hp => ⟨p.1, rfl, t12 _ _ (hk4 p (hM p hp))⟩
  refine seq_in ?_
  refine ⟨_, rfl, u, M.map fun q => V.ref q.1, fun x => ((lotK H5 x).length : Nat), rfl, .of hu5, fun x hx => ?_, fun q nq => ⟨q, rfl, ⟨_, .of upd_same⟩, ?_⟩⟩
  · obtain ⟨p, hp, rfl⟩ := List.mem_map.mp hx
    obtain ⟨c, e, h⟩ := ht5 p hp
    cases e
    refine ⟨_, _, rfl, .of h, ?_⟩
    dsimp only
    rw [lotK_eq (ht5 p hp), List.length_map]
  have hperm : ((M.map fun q => V.ref q.1).mergeSort (lenLe false fun x => ((lotK H5 x).length : Nat))).Perm (M.map fun q => V.ref q.1) := List.mergeSort_perm _ _
  have hsrt : ((M.map fun q => V.ref q.1).mergeSort (lenLe false fun x => ((lotK H5 x).length : Nat))).Pairwise fun a b => lenLe false (fun x => ((lotK H5 x).length : Nat)) a b = true := by
    refine List.pairwise_mergeSort (fun a b c h1 h2 => ?_) (fun a b => ?_) _
    · have h1 := of_decide_eq_true h1
      have h2 := of_decide_eq_true h2
      exact decide_eq_true (by omega)
    · show (decide _ || decide _) = true
      rw [Bool.or_eq_true, decide_eq_true_iff, decide_eq_true_iff]
      omega
  generalize (M.map fun q => V.ref q.1).mergeSort (lenLe false fun x => ((lotK H5 x).length : Nat)) = ws at hperm hsrt nq ⊢
  have hwM : (ws.map (lotK H5)).Perm (M.map (·.2)) := by
    have := hperm.map (lotK H5)
    rw [List.map_map] at this
    refine this.trans (List.Perm.of_eq (List.map_congr_left fun p hp => lotK_eq (ht5 p hp)))
  have hwn : (ws.map (lotK H5)).Nodup := hwM.nodup_iff.mpr nd
  -- what stands in it
  have hw : ∀ x ∈ ws, LtV H5 x (lotK H5 x) ∧ ∃ (j : Nat) (l : List Nat), r[j]? = some (some l) ∧ lotK H5 x = natI l := fun x hx => by
    obtain ⟨p, hp, rfl⟩ := List.mem_map.mp (hperm.mem_iff.mp hx)
    rw [lotK_eq (ht5 p hp)]
    exact ⟨ht5 p hp, (hk1 p (hM p hp)).2⟩
  have back : ∀ (l : List Nat), (natI l).map Int.toNat = l := fun l => by
    unfold natI
    rw [List.map_map]
    exact (List.map_congr_left fun x _ => by show ((x : Nat) : Int).toNat = x; omega).trans (List.map_id l)
  have hVO : ViewsOf r (ws.map fun x => (lotK H5 x).map Int.toNat) := by
    refine ⟨fun V hV => ?_, fun j l hj => ?_, ?_⟩
    · obtain ⟨x, hx, rfl⟩ := List.mem_map.mp hV
      obtain ⟨_, j, l, hj, e⟩ := hw x hx
      exact ⟨j, by rw [e, back]; exact hj⟩
    · obtain ⟨p, hp, e⟩ := hk2 j l (by rw [hxl]; exact (List.getElem?_eq_some_iff.mp hj).1) hj
      have h2 := hwM.mem_iff.mpr (((pm.map (·.2)).mem_iff).mpr (hL2 p hp))
      obtain ⟨x, hx, e2⟩ := List.mem_map.mp h2
      refine List.mem_map.mpr ⟨x, hx, ?_⟩
      rw [e2, e, back]
    · rw [List.pairwise_map]
      have hn2 : ws.Pairwise fun a b => lotK H5 a ≠ lotK H5 b := List.pairwise_map.mp hwn
      refine List.Pairwise.imp_of_mem (fun {x y} hx hy hh => ?_) (hsrt.and hn2)
      obtain ⟨_, j, l, hj, e⟩ := hw x hx
      obtain ⟨_, i, m, hi, e2⟩ := hw y hy
      obtain ⟨hle, hne⟩ := hh
      have hle : ((lotK H5 x).length : Int) ≤ ((lotK H5 y).length : Nat) := of_decide_eq_true hle
      rw [e, e2] at hne hle
      rw [e, e2, back, back]
      have hle : l.length ≤ m.length := by
        unfold natI at hle
        rw [List.length_map, List.length_map] at hle
        omega
      have ne : l ≠ m := fun z => hne (by rw [z])
      have hul := R.up _ _ hj
      have hum := R.up _ _ hi
      rcases R.cmp j i l m hj hi with c | c
      · refine ⟨Nat.lt_of_le_of_ne hle fun z => ne ?_, c⟩
        refine srt_eqN hul hum fun x => ⟨c x, fun hx => ?_⟩
        refine Classical.byContradiction fun nx => ?_
        have := nodup_le (l := x :: l) (m := m) (List.nodup_cons.mpr ⟨nx, nodup_up hul⟩) fun y hy => by
          rcases List.mem_cons.mp hy with e | e
          · rw [e]; exact hx
          · exact c y e
        rw [List.length_cons] at this
        omega
      · exfalso
        refine ne (srt_eqN hul hum fun x => ⟨fun hx => ?_, c x⟩)
        refine Classical.byContradiction fun nx => ?_
        have := nodup_le (l := x :: m) (m := l) (List.nodup_cons.mpr ⟨nx, nodup_up hum⟩) fun y hy => by
          rcases List.mem_cons.mp hy with e | e
          · rw [e]; exact hx
          · exact c y e
        rw [List.length_cons] at this
        omega
  generalize eVs : (ws.map fun x => (lotK H5 x).map Int.toNat) = Vs at hVO
  have few6 := hVO.few h5 R
  have lws : ws.length = Vs.length := by rw [← eVs, List.length_map]
  have g5 : Same H3 H5 := g4.trans t12
  have s6 := same_new nq (.lst ws)
  have hq6 : upd H5 q (.lst ws) q = some (.lst ws) := upd_same
  have hwl6 := s6 _ _ (g5 _ _ hwl3)
  have hcm6 := s6 _ _ (g5 _ _ hcm3)
  have nqw : q ≠ wl := Ne.symm (ne_of_none (g5 _ _ hwl3) nq)
  have g6 : Same H (upd H5 q (.lst ws)) := (g3.trans g5).trans s6
  generalize upd H5 q (.lst ws) = H6 at s6 hq6 hwl6 hcm6 g6 ⊢
  refine for_list (K := K) (a := q) (xs := ws) (fun i σ H' => ∃ (cm : Addr) (u4 : Option V) (acc came : List Nat), σ = [some (.int n), some (.ref a), some (.ref wl), some (.ref cm), u4, some (.ref u)] ∧ But [wl] H6 H' ∧ H' wl = some (.lst (natV acc)) ∧ H' cm = some (.tup (natV came)) ∧ acc ++ wto n r came (Vs.drop i) = wto n r [] Vs ∧ acc.length ≤ 60 * i) ?_ ?_ ?_ ?_
  · exact ⟨cm0, _, [], [], rfl, But.refl _ _, hwl6, hcm6, rfl, Nat.le_refl _⟩
  · rintro i σ H' _ ⟨_, _, _, _, rfl, g, _⟩
    exact .of (g _ _ (by simpa using nqw) hq6)
  · rintro i x σ H7 hx ⟨cm, u4, acc, came, rfl, g7, hwl7, hcm7, hacc, hal⟩
    have hxm := List.mem_of_getElem? hx
    have hil := get_lt hx
    obtain ⟨⟨c, rfl, hc⟩, j, l, hj, el⟩ := hw x hxm
    have hVi : Vs[i]? = some l := by rw [← eVs, List.getElem?_map, hx]; show some ((lotK H5 _).map Int.toNat) = _; rw [el, back]
    have hli : i < Vs.length := by rw [← lws]; exact hil
    have hdrop : Vs.drop i = l :: Vs.drop (i + 1) := by
      rw [List.drop_eq_getElem_cons hli]
      rw [List.getElem?_eq_getElem hli] at hVi
      rw [Option.some.inj hVi]
    have hc7 : H7 c = some (.tup (natV l)) := by
      have hne : c ∉ [wl] := fun m => by
        have := s6 _ _ hc
        rw [List.mem_singleton.mp m, hwl6] at this
        cases this
      have := g7 _ _ hne (s6 _ _ hc)
      rw [this, el]
      unfold natV natI
      rw [List.map_map]; rfl
    have hd7 : DV H7 (.ref a) (rowND r) := by
      have := (DV.tup ha hds hl : DV H3 (.ref a) (rowND r)).same (g5.trans s6)
      exact this.kd (DKp.but g7 fun b hb => by rw [List.mem_singleton.mp hb]; exact ⟨⟨_, hwl6⟩, _, hwl7⟩)
    have hln : l.length ≤ n := by
      have := nodup_le (l := l) (m := List.range n) (nodup_up (R.up _ _ hj)) fun x hx => List.mem_range.mpr (R.rng _ _ hj x hx)
      rwa [List.length_range] at this
    refine g_set ?_
    refine seq_in ?_
    refine ⟨_, rfl, .inl ⟨rfl, _, .of hwl7⟩, _, rfl, _, rfl, _, rfl, _, rfl, n, _, r, cm, c, came, l, rfl, h1, h5, hd7, R.len, hcm7, hc7, R.rng _ _ hj, hln, fun dl H8 g8 ndl hdl => ?_⟩
    have wdl := wdown_len (n := n) (r := r) (came := came) h5 (show l.length ≤ 5 by omega)
    have l6 := few6.1
    refine ⟨wl, dl, _, _, rfl, rfl, g8 _ _ hwl7, hdl, szl (by rw [natL, natL]; omega), ?_⟩
    refine nx_in ?_
    refine asg_in ?_
    refine ⟨_, rfl, ?_⟩
    refine g_set ?_
    refine ⟨c, _, acc ++ wdown n r came l, l, rfl, (g7.trans (.of g8)).put (by simp), ?_, ?_, ?_, ?_⟩
    · rw [upd_same]
      unfold natV
      rw [List.map_append]
    · rw [upd_ne (fun z => by rw [z, hwl7] at hc7; cases hc7)]
      exact g8 _ _ hc7
    · rw [← hacc, hdrop, List.append_assoc]; rfl
    · rw [List.length_append]; omega
  · rintro σ H7 ⟨cm, u4, acc, came, rfl, g7, hwl7, hcm7, hacc, hal⟩
    have e0 : acc = wto n r [] Vs := by
      rw [← hacc, lws, List.drop_length]
      show acc = acc ++ []
      rw [List.append_nil]
    refine nx_in ?_
    refine ret_in ?_
    refine ⟨_, rfl, wl, _, rfl, .inl ⟨.of hwl7, fun t nt => ?_⟩⟩
    have g8 := same_new nt (.tup (natV acc))
    refine k t _ Vs ?_ (by rw [upd_same, e0]) hVO
    intro b o q
    exact g8 _ _ (g7 b o (fun m => by rw [List.mem_singleton.mp m, nwH] at q; cases q) (g6 _ _ q))
end
end Fp
/-! texts of rows of views: unlike rows have unlike texts -/
namespace Fp
open PySem PySem.Spec PyProof.Rows L2
def tlN : List Nat → List Nat
  | [] => [41]
  | x :: xs => 44 :: 32 :: (48 + x) :: tlN xs
def txN : List Nat → List Nat
  | [] => [40, 41]
  | [a] => [40, 48 + a, 44, 41]
  | a :: b :: r => 40 :: (48 + a) :: tlN (b :: r)
def vtN : Option (List Nat) → List Nat
  | none => [78, 111, 110, 101]
  | some l => txN l
theorem tlN_inj : ∀ {l m s t : List Nat}, tlN l ++ s = tlN m ++ t → l = m ∧ s = t
  | [], [], s, t, h => by
    simp only [tlN, List.cons_append, List.nil_append, List.cons.injEq, true_and] at h
    exact ⟨rfl, h⟩
  | [], y :: m, s, t, h => by
    simp only [tlN, List.cons_append, List.cons.injEq] at h
    omega
  | x :: l, [], s, t, h => by
    simp only [tlN, List.cons_append, List.cons.injEq] at h
    omega
  | x :: l, y :: m, s, t, h => by
    simp only [tlN, List.cons_append, List.cons.injEq, true_and] at h
    obtain ⟨h1, h2⟩ := h
    obtain ⟨e1, e2⟩ := tlN_inj h2
    exact ⟨by rw [e1, show x = y by omega], e2⟩
theorem txN_inj : ∀ {l m s t : List Nat}, txN l ++ s = txN m ++ t → l = m ∧ s = t
  | [], [], s, t, h => by
    simp only [txN, List.cons_append, List.nil_append, List.cons.injEq, true_and] at h
    exact ⟨rfl, h⟩
  | [], [b], s, t, h => by
    simp only [txN, List.cons_append, List.cons.injEq] at h
    omega
  | [], b :: c :: m, s, t, h => by
    simp only [txN, List.cons_append, List.cons.injEq] at h
    omega
  | [a], [], s, t, h => by
    simp only [txN, List.cons_append, List.cons.injEq] at h
    omega
  | [a], [b], s, t, h => by
    simp only [txN, List.cons_append, List.nil_append, List.cons.injEq, true_and] at h
    exact ⟨by rw [show a = b by omega], h.2⟩
  | [a], b :: c :: m, s, t, h => by
    simp only [txN, tlN, List.cons_append, List.cons.injEq] at h
    omega
  | a :: c :: l, [], s, t, h => by
    simp only [txN, List.cons_append, List.cons.injEq] at h
    omega
  | a :: c :: l, [b], s, t, h => by
    simp only [txN, tlN, List.cons_append, List.cons.injEq] at h
    omega
  | a :: c :: l, b :: d :: m, s, t, h => by
    simp only [txN, List.cons_append, List.cons.injEq, true_and] at h
    obtain ⟨h1, h2⟩ := h
    obtain ⟨e1, e2⟩ := tlN_inj h2
    exact ⟨by rw [e1, show a = b by omega], e2⟩
theorem txN_head : ∀ l : List Nat, ∃ r, txN l = 40 :: r
  | [] => ⟨_, rfl⟩
  | [a] => ⟨_, rfl⟩
  | a :: b :: r => ⟨_, rfl⟩
theorem vtN_inj {a b : Option (List Nat)} {s t : List Nat} (h : vtN a ++ s = vtN b ++ t) : a = b ∧ s = t := by
  cases a with
  | none =>
    cases b with
    | none =>
      simp only [vtN, List.cons_append, List.nil_append, List.cons.injEq, true_and] at h
      exact ⟨rfl, h⟩
    | some m =>
      obtain ⟨r, e⟩ := txN_head m
      simp only [vtN, e, List.cons_append, List.cons.injEq] at h
      omega
  | some l =>
    cases b with
    | none =>
      obtain ⟨r, e⟩ := txN_head l
      simp only [vtN, e, List.cons_append, List.cons.injEq] at h
      omega
    | some m =>
      obtain ⟨e1, e2⟩ := txN_inj (show txN l ++ s = txN m ++ t from h)
      exact ⟨by rw [e1], e2⟩
def tlR : RowN → List Nat
  | [] => [41]
  | o :: r => 44 :: 32 :: (vtN o ++ tlR r)
def txR : RowN → List Nat
  | [] => [40, 41]
  | [o] => 40 :: (vtN o ++ [44, 41])
  | o :: p :: r => 40 :: (vtN o ++ tlR (p :: r))
theorem tlR_inj : ∀ {r s : RowN}, tlR r = tlR s → r = s
  | [], [], _ => rfl
  | [], p :: s, h => by
    simp only [tlR, List.cons.injEq] at h
    omega
  | o :: r, [], h => by
    simp only [tlR, List.cons.injEq] at h
    omega
  | o :: r, p :: s, h => by
    simp only [tlR, List.cons.injEq, true_and] at h
    obtain ⟨e1, e2⟩ := vtN_inj h
    rw [e1, tlR_inj e2]
theorem txR_inj : ∀ {r s : RowN}, r.length = s.length → txR r = txR s → r = s
  | [], [], _, _ => rfl
  | [], _ :: _, h, _ => by cases h
  | _ :: _, [], h, _ => by cases h
  | [o], [p], _, h => by
    simp only [txR, List.cons.injEq, true_and] at h
    rw [(vtN_inj h).1]
  | [o], _ :: _ :: _, h, _ => by simp at h
  | _ :: _ :: _, [p], h, _ => by simp at h
  | o :: o' :: r, p :: p' :: s, _, h => by
    simp only [txR, List.cons.injEq, true_and] at h
    obtain ⟨e1, e2⟩ := vtN_inj h
    rw [e1, tlR_inj e2]
abbrev cq (z : Str) : List Nat := z.cps.toList
theorem int_txt : ∀ p : Nat, p < 10 → cq (PyData.int (p : Int)).shown = [48 + p] := by decide +kernel
theorem cq_app (x y : Str) : cq (x ++ y) = cq x ++ cq y := by
  show (x.cps ++ y.cps).toList = _
  exact Array.toList_append
def joinL (ts : List (List Nat)) : List Nat := match ts with
  | [] => []
  | [x] => x
  | x :: y :: r => x ++ (44 :: 32 :: joinL (y :: r))
theorem cq_join : ∀ ts : List Str, cq (Str.join ", " ts) = joinL (ts.map cq)
  | [] => rfl
  | [x] => rfl
  | x :: y :: r => by
    show cq (x ++ ", " ++ Str.join ", " (y :: r)) = _
    rw [cq_app, cq_app, cq_join (y :: r)]
    have e : cq (", " : Str) = [44, 32] := by decide +kernel
    rw [e, List.append_assoc]
    rfl
theorem cq_tup (ds : List PyData) : cq (PyData.tuple ds).shown = 40 :: (joinL (ds.map fun d => cq d.shown) ++ if ds.length = 1 then [44, 41] else [41]) := by
  have e0 : (PyData.tuple ds).shown = ("(" : Str) ++ Str.join ", " (ds.map PyData.shown) ++ (if (ds.map PyData.shown).length == 1 then (",)" : String) else ")" : String) := by
    simp only [PyData.shown]
    rw [shownAll_eq_map]
    rfl
  rw [e0, cq_app, cq_app, cq_join, List.map_map, List.length_map]
  have e1 : cq ("(" : Str) = [40] := by decide +kernel
  have e2 : cq (",)" : Str) = [44, 41] := by decide +kernel
  have e3 : cq (")" : Str) = [41] := by decide +kernel
  rw [e1]
  by_cases c : ds.length = 1
  · rw [if_pos c, if_pos (by rw [c]; rfl), e2]; rfl
  · rw [if_neg c, if_neg (by simpa using c), e3]; rfl
theorem view_txt {l : List Nat} (h : ∀ p ∈ l, p < 10) : cq (vwD (some l)).shown = txN l := by
  show cq (PyData.tuple (l.map fun (p : Nat) => PyData.int (p : Int))).shown = _
  rw [cq_tup, List.map_map, List.length_map]
  have e : l.map ((fun d => cq d.shown) ∘ fun (p : Nat) => PyData.int (p : Int)) = l.map fun p => [48 + p] := List.map_congr_left fun p hp => int_txt p (h p hp)
  rw [e]
  clear e h
  have go : ∀ (m : List Nat) (b : Nat), joinL ((b :: m).map fun p => [48 + p]) ++ [41] = (48 + b) :: tlN m := fun m => by
    induction m with
    | nil => intro b; rfl
    | cons c r ih =>
      intro b
      show [48 + b] ++ (44 :: 32 :: joinL ((c :: r).map fun p => [48 + p])) ++ [41] = _
      simp only [List.cons_append, List.nil_append, tlN]
      rw [← ih c]
  match l with
  | [] => rfl
  | [a] => rfl
  | a :: b :: r =>
    rw [if_neg (by simp), go]
    rfl
theorem row_txt {r : RowN} (h : ∀ l, some l ∈ r → ∀ p ∈ l, p < 10) : cq (PyData.tuple (r.map vwD)).shown = txR r := by
  rw [cq_tup, List.map_map, List.length_map]
  have e : r.map ((fun d => cq d.shown) ∘ vwD) = r.map vtN := List.map_congr_left fun o ho => by
    cases o with
    | none =>
      show cq (PyData.none).shown = _
      decide +kernel
    | some l => exact view_txt (h l ho)
  rw [e]
  clear e h
  have go : ∀ (m : RowN) (b : Option (List Nat)), joinL ((b :: m).map vtN) ++ [41] = vtN b ++ tlR m := fun m => by
    induction m with
    | nil => intro b; rfl
    | cons c s ih =>
      intro b
      show vtN b ++ (44 :: 32 :: joinL ((c :: s).map vtN)) ++ [41] = _
      rw [List.append_assoc]
      show vtN b ++ (44 :: 32 :: (joinL ((c :: s).map vtN) ++ [41])) = _
      rw [ih c]; rfl
  match r with
  | [] => rfl
  | [o] => rfl
  | o :: p :: s =>
    rw [if_neg (by simp), go]
    rfl
/-- unlike rows have unlike texts -/
theorem row_shown {r s : RowN} (hl : r.length = s.length) (h : ∀ l, some l ∈ r → ∀ p ∈ l, p < 10) (g : ∀ l, some l ∈ s → ∀ p ∈ l, p < 10) : (PyData.tuple (r.map vwD)).shown = (PyData.tuple (s.map vwD)).shown ↔ r = s := by
  constructor
  · intro e
    refine txR_inj hl ?_
    rw [← row_txt h, ← row_txt g, e]
  · rintro rfl
    rfl
end Fp
namespace Fp
open PySem PySem.Spec PyProof.Rows L2
/-- whether a value leads to a row -/
def leadB (n : Nat) (r : RowN) (d : Dt) : Bool := weavB n d && decide (((LS.new n).woven (wvL d)).vw = r)
theorem toP_nD (o : Option (List Nat)) : toP 1 (nD o) = vwD o := by
  cases o with
  | none => rfl
  | some l =>
    show PyData.tuple (((natI l).map Dt.int).map (toP 0)) = PyData.tuple _
    unfold natI
    rw [List.map_map, List.map_map]
    rfl
theorem toP_row (r : RowN) : toP 2 (rowND r) = .tuple (r.map vwD) := by
  show PyData.tuple ((r.map nD).map (toP 1)) = _
  rw [List.map_map]
  congr 1
  exact List.map_congr_left fun o _ => toP_nD o
theorem nD_pl (o : Option (List Nat)) : pl 1 (nD o) = true := by
  cases o with
  | none => rfl
  | some l =>
    refine pl_tup.mpr fun d hd => ?_
    obtain ⟨x, _, rfl⟩ := List.mem_map.mp hd
    rfl
theorem rowND_pl (r : RowN) : pl 2 (rowND r) = true := pl_tup.mpr fun d hd => by
  obtain ⟨o, _, rfl⟩ := List.mem_map.mp hd
  exact nD_pl o
theorem vw_eqv (r s : RowN) : PyData.eqv (.tuple (r.map vwD)) (.tuple (s.map vwD)) = decide (r = s) := by
  rw [Bool.eq_iff_iff, decide_eq_true_iff, ← toP_row, ← toP_row, eqv_iff (rowND_pl r) (rowND_pl s)]
  exact ⟨rowND_inj, fun h => by rw [h]⟩
theorem DV.dpR {K : PySem.W.Frag} {H : Hp} {v : V} {r : RowN} (h : DV H v (rowND r)) : Dp K H v (.tuple (r.map vwD)) := by
  have := h.dp (K := K) (rowND_pl r)
  rwa [toP_row] at this
theorem OkN.small {n : Nat} (h5 : n ≤ 5) {r : RowN} (R : OkN n r) : ∀ l, some l ∈ r → (∀ p ∈ l, p < 5) ∧ l.length ≤ 5 := fun l hl => by
  obtain ⟨i, hi⟩ := List.mem_iff_getElem?.mp hl
  have := nodup_le (l := l) (m := List.range n) (nodup_up (R.up _ _ hi)) fun x hx => List.mem_range.mpr (R.rng _ _ hi x hx)
  rw [List.length_range] at this
  exact ⟨fun p hp => by have := R.rng _ _ hi p hp; omega, by omega⟩
theorem LS.WF.small {s : LS} (W : s.WF) : ∀ l, some l ∈ s.vw → (∀ p ∈ l, p < 5) ∧ l.length ≤ 5 := fun l hl => by
  obtain ⟨q, hq⟩ := mem_getD.mp hl
  have V := W.view hq
  have := W.n5
  exact ⟨fun p hp => by have := V.lt p hp; omega, V.len⟩
theorem vwL_sm {m : RowN} (h : ∀ l, some l ∈ m → (∀ p ∈ l, p < 5) ∧ l.length ≤ 5) (hl : m.length ≤ 5) : Sm 3 100 (.tuple (m.map vwD)) := by
  refine (Sms.all (k := 2) (n := 5) fun d hd => ?_).tup.mono (Nat.le_refl _) (by rw [List.length_map]; omega)
  obtain ⟨o, ho, rfl⟩ := List.mem_map.mp hd
  cases o with
  | none => exact Sm.non.mono (by decide) (by decide)
  | some l =>
    obtain ⟨a, b⟩ := h l ho
    exact natV_sm (fun p hp => by have := a p hp; omega) b
def spShowsW : Sp := fun vs H Q _ => ∃ (n : Nat) (v u : V) (r : RowN) (d : Dt), vs = [.int n, v, u] ∧ 1 ≤ n ∧ n ≤ 5 ∧ DV H v (rowND r) ∧ atB n (rowND r) = true ∧ r.length = n ∧ BV H u d ∧ ∀ H', Same H H' → Q (.bl (leadB n r d)) H'
def spLWvg : Sp := fun vs H Q _ => ∃ (n : Nat) (u : V) (d : Dt), vs = [.int n, u] ∧ 1 ≤ n ∧ n ≤ 5 ∧ BV H u d ∧ ∀ H', Same H H' → Q (.bl (weavB n d)) H'
def spLeads : Sp := fun vs H Q _ => ∃ (n : Nat) (v u : V) (r : RowN) (d : Dt), vs = [.int n, v, u] ∧ 1 ≤ n ∧ n ≤ 5 ∧ DV H v (rowND r) ∧ OkN n r ∧ BV H u d ∧ ∀ H', Same H H' → Q (.bl (leadB n r d)) H'
section
variable {P : Program} {w : World} {K : PySem.W.Frag} {mg : Str → Option Value} {base : Heap} {f : Addr} {fd : FuncData} {C : Addr}
abbrev s_shows_weaving_to : Stmt := top 27
theorem sc_shows_weaving_to : FnScope ["many", "row", "value", "levels"] ["many", "row", "value"] (defScope s_shows_weaving_to) := ⟨rfl, rfl, rfl, by decide +kernel, rfl, by decide +kernel, by decide +kernel⟩
theorem ok_shows_weaving_to (F : Fun K "shows_weaving_to" "shows_weaving_to" s_shows_weaving_to f fd) (hC : LC K C) (G_is_at_once : Fd P w K mg base CX0 "is_at_once" 4 ["many", "value"] spAtD) (G_is_weaving : Fd P w K mg base CX0 "is_weaving" 3 ["value", "many"] spWvgB) (M_Levels : MkC P w K mg base "Levels" C 3 ["self", "many"] (spLInit K C)) (M_weave : Md P w K mg base CX0 C "weave" 5 ["self", "weaving"] (spWeaveN K C)) : FnOk P w K mg base CX0 6 f fd ["many", "row", "value"] spShowsW := by
  refine F.ok sc_shows_weaving_to (fun vs H Q E h => ?_) (fun cdv A outer s0 H vs Q E hr h => ?_)
  · obtain ⟨n, v, u, r, d, rfl, _⟩ := h
    rfl
  obtain ⟨n, v, u, r, d, rfl, h1, h5, hd, hat, hrl, hu, k⟩ := h
  refine ⟨_, (pss_cons (ps_if (pt_not (pt_val (pe_fd G_is_at_once (hr.mono (by first | decide | omega)) rfl (pa_cons (pv 0) (pa_cons (pv 1) pa_nil))))) (pss_one (ps_no)) pss_nil)
  (pss_cons (ps_if (pt_not (pt_val (pe_fd G_is_weaving (hr.mono (by first | decide | omega)) rfl (pa_cons (pv 2) (pa_cons (pv 0) pa_nil))))) (pss_one (ps_ret pe_bl)) pss_nil)
  (pss_cons (ps_set (i := 3) sc_shows_weaving_to.nd rfl (Or.inl rfl) (pe_mk M_Levels (hr.mono (by first | decide | omega)) rfl (pa_cons (pv 0) pa_nil)))
  (pss_cons (ps_expr (pe_md (pv 3) hC.cl M_weave (hr.mono (by first | decide | omega)) (pa_cons (pv 2) pa_nil)))
  (pss_one (ps_ret (pe_cmpR (op_eqDK (u64 hr)) (pe_fld (pv 3) rfl) (pv 1) (nomark _)))))))), ?_⟩
  refine seq_in ?_
  refine ⟨_, rfl, _, rfl, n, v, rowND r, rfl, h1, h5, hd, fun H1 g1 => ⟨_, rfl, ?_⟩⟩
  rw [hat]
  refine iteF ?_
  refine next_in ?_
  refine nx_in ?_
  refine seq_in ?_
  have hu1 := hu.same g1
  refine ⟨_, rfl, _, rfl, u, d, n, rfl, hu1, fun H2 g2 => ⟨_, rfl, ?_⟩⟩
  have g02 := g1.trans g2
  cases hw : weavB n d with
  | false =>
    refine iteT ?_
    refine ret_in ?_
    have e : leadB n r d = false := by unfold leadB; rw [hw, Bool.false_and]
    rw [e] at k
    exact k _ g02
  | true =>
    refine iteF ?_
    refine next_in ?_
    refine nx_in ?_
    refine seq_in ?_
    refine asg_in ?_
    refine ⟨_, rfl, fun x xx hx hxx hne => ⟨x, xx, n, rfl, h1, h5, upd_same, by rw [upd_ne hne]; exact upd_same, fun H0 b0 D0 => ⟨rfl, ?_⟩⟩⟩
    have F0 : Same H2 H0 := Same.into (Same.trans (same_new hxx (.own x)) (same_new (by rw [upd_ne (Ne.symm hne)]; exact hx) (.ins C xx []))) b0 hx
    refine g_set ?_
    refine nx_in ?_
    refine seq_in ?_
    obtain ⟨a, rfl, ha, hlt, hl⟩ := (hu.same (g02.trans F0)).wv hw
    have hn : (LS.new n).n = n := by simp [LS.new, LS.n]
    have W := LS.WF.new h1 h5
    obtain ⟨dx0, fs0, ob0, _, _, _, _, nw0⟩ := D0.ob
    refine ⟨_, rfl, x, dx0, fs0, rfl, ob0, nw0, _, rfl, x, a, wvL d, LS.new n, rfl, D0, W, .inl ha, by rw [hn]; exact hlt, hl, by show (0 : Nat) < 10000; decide, fun t ys ds H3 b3 D3 ht hp er => ?_⟩
    refine nx_in ?_
    refine ret_in ?_
    have W3 := LS.wf_woven W (ws := wvL d) (by rw [hn]; exact hlt)
    obtain ⟨dx, la, lb, rr, e, vv, rv, D⟩ := D3
    have F3 : Same H2 H3 := Same.into (Same.refl _) (fun b o nb q => b3 b o nb (F0 _ _ q)) hx
    refine ⟨_, rfl, x, C, dx, _, _, rfl, D.obj, hC.cl, hC.nV, l_vw, _, rfl, _, _, .tup D.vw.sq (vw_dp D.vwP), (hd.same (g02.trans F3)).dpR, by rw [← toP_row]; exact toP_shaped (by decide), by rw [← toP_row]; exact toP_shaped (by decide), ?_⟩
    rw [vw_eqv]
    have e : leadB n r d = decide (((LS.new n).woven (wvL d)).vw = r) := by unfold leadB; rw [hw, Bool.true_and]
    rw [e] at k
    exact k _ (g02.trans F3)
abbrev s_law_is_weaving : Stmt := top 43
theorem sc_law_is_weaving : FnScope ["many", "value", "one"] ["many", "value"] (defScope s_law_is_weaving) := ⟨rfl, rfl, rfl, by decide +kernel, rfl, by decide +kernel, by decide +kernel⟩
theorem ok_law_is_weaving (F : Fun K "_law_is_weaving" "_law_is_weaving" s_law_is_weaving f fd) (T : RTx mg) (G_law_int : Fd P w K mg base CX0 "_law_int" 1 ["value", "low", "high"] spIntD) : FnOk P w K mg base CX0 2 f fd ["many", "value"] spLWvg := by
  refine F.ok sc_law_is_weaving (fun vs H Q E h => ?_) (fun cdv A outer s0 H vs Q E hr h => ?_)
  · obtain ⟨n, u, d, rfl, _⟩ := h
    rfl
  obtain ⟨n, u, d, rfl, h1, h5, hu, k⟩ := h
  refine ⟨_, (pss_one (ps_ret (pe_and (pe_callB call_isi rfl T.isinstance (by decide +kernel) (pa_cons (pv 1) (pa_cons (pe_bltn (v := .ty "tuple") rfl T.tuple boot_tuple rfl) pa_nil))) (pe_and (pe_cmpR op_le (pe_callB call_len rfl T.len (by decide +kernel) (pa_cons (pv 1) pa_nil)) pe_int (nomark _)) (pe_one (pe_callB (cr_all rfl) rfl T.all (by decide +kernel) (pa_cons (pe_lc (own := [("one", 2)]) (g := (gName 2)) (tt := tYes) rfl sc_law_is_weaving.nd (pi_tup (pv 1)) (blkOk_by (own := [("one", 2)]) (N := ["many", "value", "one"]) (sc := defScope s_law_is_weaving) (by decide +kernel)) (fun _ _ _ _ _ => (pg_name (i := 2) sc_law_is_weaving.nd rfl (Or.inl rfl))) (fun _ _ _ _ _ => pts_nil) (fun _ _ _ _ _ => (pe_fd G_law_int (hr.mono (by first | decide | omega)) rfl (pa_cons (pv 2) (pa_cons pe_int (pa_cons (pe_op op_sub (pv 0) pe_int) pa_nil)))))) pa_nil))))))), ?_⟩
  obtain ⟨t, ty, kt⟩ := hu.ty (K := K)
  refine ret_in ?_
  cases ed : d.isTup with
  | false =>
    rw [ed] at kt
    refine ⟨_, rfl, _, _, _, _, false, rfl, .ty "tuple", ty, kt, _, rfl, iteF ?_⟩
    have e : weavB n d = false := by cases d <;> first | rfl | cases ed
    rw [e] at k
    exact k _ (Same.refl _)
  | true =>
    rw [ed] at kt
    obtain ⟨ds, rfl⟩ : ∃ ds, d = .tup ds := by cases d <;> first | exact ⟨_, rfl⟩ | cases ed
    obtain ⟨a, xs, rfl, ha, dv, hl⟩ := hu.tup
    have hxl := dv.len
    refine ⟨_, rfl, _, _, _, _, true, rfl, .ty "tuple", ty, kt, _, rfl, iteT ?_⟩
    refine ⟨_, rfl, _, xs.length, rfl, (show LenV K (.ref a) H xs.length from .inr ⟨_, .of ha, rfl⟩), _, _, rfl, rfl, _, rfl, ite2 (fun c => ?_) (fun c => ?_)⟩
    rotate_left
    · have c' : ¬ ((xs.length : Nat) : Int) ≤ 3000 := fun z => c (decide_eq_true z)
      have e : weavB n (.tup ds) = false := by
        show (decide (ds.length ≤ 3000) && _) = false
        rw [decide_eq_false (by omega), Bool.false_and]
      rw [e] at k
      exact k _ (Same.refl _)
    have c' : ((xs.length : Nat) : Int) ≤ 3000 := of_decide_eq_true c
    refine ⟨_, rfl, a, rfl, ⟨_, .of ha⟩, fun D hD => ?_⟩
    refine lc_bools walk_tup (fun i => belB n (ds.getD i .non)) hD (by omega) (fun H' g => .of (g _ _ ha)) (fun i x H1 H2 hi g y Q4 N kk => ?_) fun H1 g1 h1' => ?_
    · obtain ⟨rfl, hx⟩ := y
      obtain ⟨dx, hdx, vx⟩ := DVs.at_ dv hx
      have eg : ds.getD i .non = dx := by rw [List.getD_eq_getElem?_getD, hdx] <;> rfl
      rw [eg] at kk
      refine ⟨rfl, yes_in ?_⟩
      have e : inB ((n : Int) - 1) dx = belB n dx := by
        unfold inB belB
        congr 1
        rw [Bool.eq_iff_iff, decide_eq_true_iff, decide_eq_true_iff]
        omega
      refine ⟨_, rfl, _, rfl, _, _, rfl, rfl, _, dx, _, rfl, vx.same g, ?_⟩
      rw [e]
      exact kk _ (Same.refl _)
    refine ⟨D, _, rfl, .of h1', ?_⟩
    rw [all_id_map, hxl, all_getD]
    have e : weavB n (.tup ds) = ds.all (belB n) := by
      show (decide (ds.length ≤ 3000) && _) = _
      rw [decide_eq_true (by omega), Bool.true_and]
    rw [e] at k
    exact k _ g1
abbrev s_law_leads : Stmt := top 44
theorem sc_law_leads : FnScope ["many", "row", "value", "stair"] ["many", "row", "value"] (defScope s_law_leads) := ⟨rfl, rfl, rfl, by decide +kernel, rfl, by decide +kernel, by decide +kernel⟩
theorem ok_law_leads (F : Fun K "_law_leads" "_law_leads" s_law_leads f fd) (T : RTx mg) (G_law_is_weaving : Fd P w K mg base CX0 "_law_is_weaving" 2 ["many", "value"] spLWvg) (G_law_fresh : Fd P w K mg base CX0 "_law_fresh" 1 ["many"] spSFresh) (G_law_woven : Fd P w K mg base CX0 "_law_woven" 3 ["stair", "weaving"] (spSWovN K)) : FnOkG P w K mg base CX0 4 f fd ["many", "row", "value"] spLeads := by
  refine fun_okG F sc_law_leads (fun vs H Q E h => ?_) (fun cdv A outer s0 H vs Q E hr hgu h => ?_)
  · obtain ⟨n, v, u, r, d, rfl, _⟩ := h
    rfl
  obtain ⟨n, v, u, r, d, rfl, h1, h5, hd, R, hu, k⟩ := h
  refine ⟨_, (pss_cons (ps_if (pt_not (pt_val (pe_fd G_law_is_weaving (hr.mono (by first | decide | omega)) rfl (pa_cons (pv 0) (pa_cons (pv 2) pa_nil))))) (pss_one (ps_ret pe_bl)) pss_nil)
  (pss_cons (ps_set (i := 3) sc_law_leads.nd rfl (Or.inl rfl) (pe_fd G_law_fresh (hr.mono (by first | decide | omega)) rfl (pa_cons (pv 0) pa_nil)))
  (pss_cons (ps_expr (pe_fd G_law_woven (hr.mono (by first | decide | omega)) rfl (pa_cons (pv 3) (pa_cons (pv 2) pa_nil))))
  (pss_one (ps_ret (pe_cmpR op_eq (pe_callB (call_reprK hgu (u66 hr)) rfl T.repr (by decide +kernel) (pa_cons (pe_callTy call_tuple_of rfl T.tuple (by decide +kernel) (pa_cons (pe_dget (hu_of hr) (pv 3) pe_str (fun _ _ => rfl)) pa_nil)) pa_nil)) (pe_callB (call_reprK hgu (u66 hr)) rfl T.repr (by decide +kernel) (pa_cons (pv 1) pa_nil)) (nomark _))))))), ?_⟩
  refine seq_in ?_
  refine ⟨_, rfl, _, rfl, n, u, d, rfl, h1, h5, hu, fun H1 g1 => ⟨_, rfl, ?_⟩⟩
  cases hw : weavB n d with
  | false =>
    refine iteT ?_
    refine ret_in ?_
    have e : leadB n r d = false := by unfold leadB; rw [hw, Bool.false_and]
    rw [e] at k
    exact k _ g1
  | true =>
    refine iteF ?_
    refine next_in ?_
    refine nx_in ?_
    refine seq_in ?_
    refine asg_in ?_
    refine ⟨_, rfl, n, rfl, h1, h5, fun o L H2 g2 hfree S => ?_⟩
    refine g_set ?_
    refine nx_in ?_
    refine seq_in ?_
    obtain ⟨a, rfl, ha, hlt, hl⟩ := (hu.same (g1.trans g2)).wv hw
    have hn : (LS.new n).n = n := by simp [LS.new, LS.n]
    have W := LS.WF.new h1 h5
    refine ⟨_, rfl, _, rfl, o, a, L, wvL d, LS.new n, rfl, S, W, .inl ha, by rw [hn]; exact hlt, hl, fun t ys ds H3 b3 S3 ht hp er => ?_⟩
    refine nx_in ?_
    refine ret_in ?_
    have W3 := LS.wf_woven W (ws := wvL d) (by rw [hn]; exact hlt)
    obtain ⟨l1, l2, l3, vv, rfl, D⟩ := S3
    have F3 : Same H1 H3 := fun b o q => b3 b o (fun m => by rw [hfree b m] at q; cases q) (g2 _ _ q)
    have g03 := g1.trans F3
    refine ⟨_, rfl, o, _, rfl, sg_views D.dict, l3, vv, rfl, .inl ⟨.of D.views, fun tt ntt => ?_⟩⟩
    have s4 := same_new ntt (.tup vv)
    have hvt : SqT K (upd H3 tt (.tup vv)) tt vv := .of upd_same
    have nn : ((LS.new n).woven (wvL d)).vw.length = n := by rw [W3.lw, LS.n_woven, hn]
    have rl := R.len
    refine ⟨_, _, 3, 100, rfl, .tup hvt (vw_dp (pr_imp (fun _ _ => ViewAt.mono (TK.of s4)) D.vwP)), vwL_sm W3.small (by omega), by decide, by decide, _, rfl, _, _, 3, 100, rfl, (hd.same (g03.trans s4)).dpR, vwL_sm (R.small h5) (by omega), by decide, by decide, rfl, ?_⟩
    have es : decide (V.str (PyData.tuple (((LS.new n).woven (wvL d)).vw.map vwD)).shown = V.str (PyData.tuple (r.map vwD)).shown) = leadB n r d := by
      unfold leadB
      rw [hw, Bool.true_and, Bool.eq_iff_iff, decide_eq_true_iff, decide_eq_true_iff]
      have := row_shown (r := ((LS.new n).woven (wvL d)).vw) (s := r) (by omega) (fun l hl p hp => by have := (W3.small l hl).1 p hp; omega) (fun l hl p hp => by have := (R.small h5 l hl).1 p hp; omega)
      exact ⟨fun z => this.mp (by injection z), fun z => by rw [this.mpr z]⟩
    have k2 := k _ (g03.trans s4)
    rw [← es] at k2
    exact k2
end
end Fp
/-! a short tuple, many times -/
namespace L2
open PySem PySem.Spec PyProof.Rows
def rRepL (K : PySem.W.Frag) : R2 := fun x y H Q => ∃ (l : Addr) (m : Nat) (xs : List V), x = .ref l ∧ y = .int (m : Nat) ∧ SqT K H l xs ∧ 1 ≤ xs.length ∧ xs.length ≤ 10 ∧ 2 ≤ m ∧ m ≤ 100000 ∧ ∀ p, H p = none → Q (.ref p) (upd H p (.tup (List.replicate m xs).flatten))
section
variable {X : Cx}
theorem op_repL : OpR X (binaryOp .Mult) (rRepL X.K) := by
  intro pins s σ H x y v u Q I rx ry h
  obtain ⟨l, m, xs, rfl, rfl, hT, hx1, hx2, hm1, hm2, q⟩ := h
  cases rx
  obtain ⟨t, rfl⟩ := ry
  obtain ⟨its, r, ⟨o, ho, hc, n, hd⟩, _⟩ := I.tuple hT
  obtain ⟨cls, dd, data, sl⟩ := o
  cases (show cls = _ from hc)
  cases (show data = _ from hd)
  have hl := r.length
  have prod : m * xs.length ≤ 1000000 := Nat.le_trans (Nat.mul_le_mul hm2 hx2) (by decide)
  have fl : (List.replicate m its).flatten.length ≤ sizeLine := by
    rw [PyProof.Rows.lm_len_rep_flat, ← hl, sizeLine_eq]; omega
  have ne : its.toArray.isEmpty = false := by
    cases its with
    | nil => rw [List.length_nil] at hl; omega
    | cons a b => rfl
  have big : ((its.toArray.size : Nat) : Int) * (m : Int) ≤ 1000000 := by
    rw [List.size_toArray, ← hl, ← Int.natCast_mul, Nat.mul_comm]
    exact Int.ofNat_le.mpr prod
  have mn : ((m : Int)).toNat = m := Int.toNat_natCast m
  have sz : (List.foldl (fun x1 x2 => x1 ++ x2) #[] (List.replicate ((m : Int)).toNat its.toArray)).size ≤ sizeLine := by
    rw [mn, size_rep, List.size_toArray]; exact fl
  have body := tuple_mulW l its.toArray n dd sl (m : Int) t (by rw [Bool.or_eq_false_iff, decide_eq_false_iff_not, decide_eq_false_iff_not]; omega) (by rw [ne, Bool.false_or]; exact beq_eq_false_iff_ne.mpr (by omega))
    (by rw [ne, Bool.or_false]; exact decide_eq_false (by omega)) (by omega) (by unfold Builtin.Tuple.tupleTooMany; rw [sizeLine_eq]; exact decide_eq_false (by omega)) sz
  refine wpAny_binaryOp_repeat_ref (T := "tuple") (U := "int") (by decide) ⟨_, ho, rfl⟩ (fun s' => typeIs_int s' (m : Int) t) noFill_tuple_mul F.fills_int_mul F.slot_int_rmul repeat_tuple F.slot_int_index.lookup
    (call_meets F.slot_int_rmul (typeIs_int s (m : Int) t) F.entry_int_rmul (F.args_int_rmul_2 _ _) (int_rmul_tuple (m : Int) t l its.toArray n dd sl)
      ⟨ho, rfl, ⟨_, ho, rfl⟩, call_meets F.slot_tuple_mul ⟨_, ho, rfl⟩ F.entry_tuple_mul (F.args_tuple_mul_2 _ _) body ⟨ho, ?_⟩⟩)
  rw [mn, size_rep]
  have nw := I.hok.fresh (Nat.le_refl s.heap.objs.size)
  refine ⟨.ref s.heap.objs.size, _, I.laid (t' := s.toks) (o := .tup (List.replicate m xs).flatten) (fun b ob q => Heap.get?_push_of_some _ q) (Nat.le_refl _) ⟨?_, _, r.rep m, IsTup.new _ _⟩, rfl, q _ nw⟩
  rw [PyProof.Rows.lm_len_rep_flat, sizeLine_eq]; omega
end
end L2
namespace Fp
open PySem PySem.Spec PyProof.Rows L2
theorem op_repLK {X : Cx} {K : PySem.W.Frag} (e : X.K = K := by rfl) : OpR X (binaryOp .Mult) (rRepL K) := by subst e; exact op_repL
end Fp
namespace Fp
open PySem PySem.Spec PyProof.Rows L2
/-- row, many  ->  many, row -/
def kwW {α : Type} : List α → List α
  | [a, b] => [b, a]
  | _ => []
/-- value, row, many  ->  many, row, value -/
def kwV {α : Type} : List α → List α
  | [a, b, c] => [c, b, a]
  | _ => []
theorem kwW_rel {zs : List V} {ws : List Value} (h : Vals zs ws) : Vals (kwW zs) (kwW ws) := by
  cases h with
  | nil => exact .nil
  | cons a h => cases h with
    | nil => exact .nil
    | cons b h => cases h with
      | nil => exact .cons b (.cons a .nil)
      | cons c h => exact .nil
theorem kwV_rel {zs : List V} {ws : List Value} (h : Vals zs ws) : Vals (kwV zs) (kwV ws) := by
  cases h with
  | nil => exact .nil
  | cons a h => cases h with
    | nil => exact .nil
    | cons b h => cases h with
      | nil => exact .nil
      | cons c h => cases h with
        | nil => exact .cons c (.cons b (.cons a .nil))
        | cons d h => exact .nil
/-- a weaving as data -/
def wvD (ws : List Nat) : Dt := .tup (ws.map fun p : Nat => Dt.int (p : Int))
theorem wvL_wvD (ws : List Nat) : wvL (wvD ws) = ws := by
  show (ws.map fun p : Nat => Dt.int (p : Int)).map (fun d => d.toInt.toNat) = ws
  rw [List.map_map]
  exact (List.map_congr_left fun x _ => by show ((x : Nat) : Int).toNat = x; omega).trans (List.map_id ws)
theorem wvD_ok {n : Nat} {ws : List Nat} (h : ∀ p ∈ ws, p < n) (hl : ws.length ≤ 3000) : weavB n (wvD ws) = true := by
  show (decide ((ws.map fun p : Nat => Dt.int (p : Int)).length ≤ 3000) && (ws.map fun p : Nat => Dt.int (p : Int)).all (belB n)) = true
  rw [List.length_map, decide_eq_true hl, Bool.true_and, List.all_eq_true]
  intro d hd
  obtain ⟨x, hx, rfl⟩ := List.mem_map.mp hd
  have := h x hx
  exact belB_iff.mpr ⟨rfl, by show (0 : Int) ≤ x; omega, by show (x : Int) < n; omega⟩
theorem dvs_nat (H : Hp) : ∀ ws : List Nat, DVs H (natV ws) (ws.map fun p : Nat => Dt.int (p : Int))
  | [] => .nil
  | p :: ws => .cons (.int _) (dvs_nat H ws)
theorem dv_nat {H : Hp} {t : Addr} {ws : List Nat} (h : H t = some (.tup (natV ws))) (hl : ws.length ≤ 1000) : DV H (.ref t) (wvD ws) := .tup h (dvs_nat H ws) (by rw [List.length_map]; exact hl)
/-- what stands while values are made -/
structure S28 (p : Addr) (v : V) (r : RowN) (t : Addr) (ws : List Nat) (H0 H : Hp) (k : Nat) : Prop where
  b : But [p] H0 H
  pot : PotAt H p k
  row : DV H v (rowND r)
  told : H t = some (.tup (natV ws))
section
variable {p : Addr} {v : V} {r : RowN} {t : Addr} {ws : List Nat} {H0 H H' : Hp} {k j : Nat}
theorem S28.same (S : S28 p v r t ws H0 H k) (g : Same H H') : S28 p v r t ws H0 H' k := ⟨S.b.trans (.of g), pot_sm g S.pot, S.row.same g, g _ _ S.told⟩
theorem S28.draw (S : S28 p v r t ws H0 H k) (g : But [p] H H') (h : PotAt H' p j) : S28 p v r t ws H0 H' j := ⟨S.b.trans g, h, S.row.kd (.pot g S.pot h), (DKp.pot g S.pot h).t S.told⟩
theorem S28.put {l : Addr} {xs ys : List V} (S : S28 p v r t ws H0 H k) (hl : H0 l = none ∧ l ≠ p) (h : H l = some (.lst xs)) : S28 p v r t ws H0 (upd H l (.lst ys)) k := by
  refine ⟨but_put S.b hl.1, pot_put S.pot hl.2, S.row.kd (.put h), (DKp.put h).t S.told⟩
theorem S28.mono (S : S28 p v r t ws H0 H k) (h : k ≤ j) : S28 p v r t ws H0 H j := ⟨S.b, S.pot.mono h, S.row, S.told⟩
end
def BVs (H : Hp) (vs : List V) : Prop := ∀ v ∈ vs, ∃ d, BV H v d
theorem BVs.kd {H H' : Hp} {vs : List V} (h : BVs H vs) (g : DKp H H') : BVs H' vs := fun v hv => by
  obtain ⟨d, hd⟩ := h v hv
  exact ⟨d, hd.kd g⟩
theorem BVs.same {H H' : Hp} {vs : List V} (h : BVs H vs) (g : Same H H') : BVs H' vs := h.kd (.of g)
theorem BVs.snoc {H : Hp} {vs : List V} {v : V} {d : Dt} (h : BVs H vs) (g : BV H v d) : BVs H (vs ++ [v]) := fun x hx => by
  rcases List.mem_append.mp hx with z | z
  · exact h x z
  · rw [List.mem_singleton.mp z]; exact ⟨d, g⟩
theorem BVs.nil {H : Hp} : BVs H [] := fun x hx => by cases hx
theorem BVs.app' {H : Hp} {vs us : List V} (h : BVs H vs) (g : BVs H us) : BVs H (vs ++ us) := fun x hx => (List.mem_append.mp hx).elim (h x) (g x)
theorem dvs_rep (H : Hp) (x : Int) : ∀ m : Nat, DVs H (List.replicate m [V.int x]).flatten (List.replicate m (Dt.int x))
  | 0 => .nil
  | m + 1 => .cons (.int x) (dvs_rep H x m)
theorem BV.long {H : Hp} {c : Addr} {xs : List V} {ds : List Dt} (h : H c = some (.tup xs)) (dv : DVs H xs ds) (hl : ds.length ≤ 4000) : BV H (.ref c) (.tup ds) := .inr ⟨c, xs, ds, rfl, h, dv, hl, rfl⟩
theorem rep1_len (x : Int) (m : Nat) : ((List.replicate m [V.int x]).flatten).length = m := by
  rw [List.length_flatten, List.map_replicate, List.sum_replicate_nat]
  show m * 1 = m
  omega
def spRight : Sp := fun vs H Q _ => ∃ p : Addr, vs = [.ref p] ∧ PotAt H p 0 ∧ ∀ H', But [p] H H' → Q (.bl true) H'
section
variable {P : Program} {w : World} {K : PySem.W.Frag} {mg : Str → Option Value} {base : Heap} {f : Addr} {fd : FuncData} {C : Addr}
abbrev s_law_right : Stmt := top 45
theorem sc_law_right : FnScope ["pot", "many", "lap", "row", "told", "levels", "some", "at", "value"] ["pot"] (defScope s_law_right) := ⟨rfl, rfl, rfl, by decide +kernel, rfl, by decide +kernel, by decide +kernel⟩
theorem ok_law_right (F : Fun K "_law_right" "_law_right" s_law_right f fd) (T : RTx mg) (hC : LC K C) (G_law_take : Fd P w K mg base CX0 "_law_take" 1 ["pot", "upto"] spTake) (G_law_drawn_row : Fd P w K mg base CX0 "_law_drawn_row" 3 ["pot", "many", "is_whole_v"] spDRow) (G_law_odd : Fd P w K mg base CX0 "_law_odd" 3 ["pot"] spOdd) (G_law_bent : Fd P w K mg base CX0 "_law_bent" 7 ["pot", "value"] (spBent 4)) (G_law_weaving : Fd P w K mg base CX0 "_law_weaving" 3 ["pot", "many", "steps"] spWvg9) (G_weaving_to : Fd P w K mg base CX0 "weaving_to" 5 ["many", "row"] spWTo) (K_weaving_to : FdKw P w K mg base CX0 "weaving_to" 5 ["many", "row"] ["row", "many"] kwW kwW spWTo)
    (G_shows_weaving_to : Fd P w K mg base CX0 "shows_weaving_to" 6 ["many", "row", "value"] spShowsW) (K_shows : FdKw P w K mg base CX0 "shows_weaving_to" 6 ["many", "row", "value"] ["value", "row", "many"] kwV kwV spShowsW) (G_law_leads : FdG P w K mg base CX0 "_law_leads" 4 ["many", "row", "value"] spLeads)
    (M_Levels : MkC P w K mg base "Levels" C 3 ["self", "many"] (spLInit K C)) (M_weave : Md P w K mg base CX0 C "weave" 5 ["self", "weaving"] (spWeaveN K C)) : FnOkG P w K mg base CX0 8 f fd ["pot"] spRight := by
  refine fun_okG F sc_law_right (fun vs H Q E h => ?_) (fun cdv A outer s H vs Q E hr hgu h => ?_)
  · obtain ⟨p, rfl, _⟩ := h
    rfl
  obtain ⟨p, rfl, hP, q⟩ := h
  refine ⟨_, (pss_cons (ps_set (i := 1) sc_law_right.nd rfl (Or.inl rfl) (pe_op op_add pe_int (pe_fd G_law_take (hr.mono (by first | decide | omega)) rfl (pa_cons (pv 0) (pa_cons pe_int pa_nil)))))
  (pss_cons (ps_for PassesOwn.never rfl (pi_range1 rfl T.range (pa_cons pe_int pa_nil)) (pg_name (i := 2) sc_law_right.nd rfl (Or.inl rfl)) (pss_cons (ps_set (i := 3) sc_law_right.nd rfl (Or.inl rfl) (pe_fd G_law_drawn_row (hr.mono (by first | decide | omega)) rfl (pa_cons (pv 0) (pa_cons (pv 1) (pa_cons (pe_cmpR op_eq (pe_fd G_law_take (hr.mono (by first | decide | omega)) rfl (pa_cons (pv 0) (pa_cons pe_int pa_nil))) pe_int (nomark _)) pa_nil)))))
  (pss_cons (ps_set (i := 4) sc_law_right.nd rfl (Or.inl rfl) (pe_mid (pe_ifExp (pt_cmpR op_lt (pv 2) pe_int (nomark _)) (pe_fd G_weaving_to (hr.mono (by first | decide | omega)) rfl (pa_cons (pv 1) (pa_cons (pv 3) pa_nil))) (pe_fdKw K_weaving_to (hr.mono (by decide)) rfl (pk_cons (pv 3) (pk_cons (pv 1) pk_nil))))))
  (pss_cons (ps_if (pt_not (pt_val (pe_fdG G_law_leads (hr.mono (by decide)) hgu rfl (pa_cons (pv 1) (pa_cons (pv 3) (pa_cons (pv 4) pa_nil)))))) (pss_one (ps_ret pe_bl)) pss_nil)
  (pss_cons (ps_set (i := 5) sc_law_right.nd rfl (Or.inl rfl) (pe_mk M_Levels (hr.mono (by first | decide | omega)) rfl (pa_cons (pv 1) pa_nil)))
  (pss_cons (ps_expr (pe_md (pv 5) hC.cl M_weave (hr.mono (by first | decide | omega)) (pa_cons (pv 4) pa_nil)))
  (pss_cons (ps_if (PW.pt (pw_or (pt_cmpR op_ne (pe_callB (call_reprK hgu (u66 hr)) rfl T.repr (by decide +kernel) (pa_cons (pe_fld (pv 5) rfl) pa_nil)) (pe_callB (call_reprK hgu (u66 hr)) rfl T.repr (by decide +kernel) (pa_cons (pv 3) pa_nil)) (nomark _)) (pw_or1 (pt_cmpR op_notBl (pe_fd G_shows_weaving_to (hr.mono (by first | decide | omega)) rfl (pa_cons (pv 1) (pa_cons (pv 3) (pa_cons (pv 4) pa_nil)))) pe_bl (nomark _))))) (pss_one (ps_ret pe_bl)) pss_nil)
  (pss_cons (ps_set (i := 6) sc_law_right.nd rfl (Or.inl rfl) (pe_lst (pa_cons (pe_fd G_law_bent (hr.mono (by first | decide | omega)) rfl (pa_cons (pv 0) (pa_cons (pv 4) pa_nil))) (pa_cons (pe_revT (pv 4)) (pa_cons (pe_op op_catA (pv 4) (pv 4)) (pa_cons (pe_fd G_law_weaving (hr.mono (by first | decide | omega)) rfl (pa_cons (pv 0) (pa_cons (pv 1) (pa_cons pe_int pa_nil)))) (pa_cons (pe_fd G_law_odd (hr.mono (by first | decide | omega)) rfl (pa_cons (pv 0) pa_nil)) (pa_cons (pe_callTy call_list_of rfl T.list (by decide +kernel) (pa_cons (pv 4) pa_nil)) pa_nil))))))))
  (pss_cons (ps_set (i := 7) sc_law_right.nd rfl (Or.inl rfl) (pe_fd G_law_take (hr.mono (by first | decide | omega)) rfl (pa_cons (pv 0) (pa_cons (pe_op op_add (pe_callB call_len rfl T.len (by decide +kernel) (pa_cons (pv 4) pa_nil)) pe_int) pa_nil))))
  (pss_cons (ps_expr (pe_bm PySem.F.plainAttrs_list PySem.F.slot_list_extend PySem.F.type_list_extend mt_extend (pv 6) (pa_cons (pe_lst (pa_cons (pe_op op_catA (pv 4) (pe_fd G_law_weaving (hr.mono (by first | decide | omega)) rfl (pa_cons (pv 0) (pa_cons (pv 1) (pa_cons pe_int pa_nil))))) (pa_cons (pe_op op_catA (pv 4) (pe_op op_repLK (pe_tup (pa_cons (pe_op op_sub (pv 1) pe_int) pa_nil)) (pe_op op_sub pe_int (pe_callB call_len rfl T.len (by decide +kernel) (pa_cons (pv 4) pa_nil))))) (pa_cons (pe_op op_catA (pv 4) (pe_op op_repLK (pe_tup (pa_cons pe_int pa_nil)) (pe_op op_sub pe_int (pe_callB call_len rfl T.len (by decide +kernel) (pa_cons (pv 4) pa_nil))))) pa_nil)))) pa_nil)))
  (pss_cons (ps_expr (pe_bm PySem.F.plainAttrs_list PySem.F.slot_list_extend PySem.F.type_list_extend mt_extend (pv 6) (pa_cons (pe_lst (pa_cons (pe_op op_catA (pe_op op_catA (pe_slice sl_tupA (pv 4) po_none (po_some (pv 7))) (pe_tup (pa_cons (pe_op op_add (pv 1) pe_int) pa_nil))) (pe_slice sl_tupA (pv 4) (po_some (pv 7)) po_none)) (pa_cons (pe_op op_catA (pe_op op_catA (pe_slice sl_tupA (pv 4) po_none (po_some (pv 7))) (pe_tup (pa_cons (pv 1) pa_nil))) (pe_slice sl_tupA (pv 4) (po_some (pv 7)) po_none)) (pa_cons (pe_op op_catA (pv 4) (pe_tup (pa_cons (pe_un un_neg pe_int) pa_nil))) pa_nil)))) pa_nil)))
  (pss_one (ps_for PassesOwn.never rfl (pi_list (pv 6)) (pg_name (i := 8) sc_law_right.nd rfl (Or.inl rfl)) (pss_one (ps_if (pt_cmpR op_ne (pe_callB call_reprB rfl T.repr (by decide +kernel) (pa_cons (pe_fdKw K_shows (hr.mono (by decide)) rfl (pk_cons (pv 8) (pk_cons (pv 3) (pk_cons (pv 1) pk_nil)))) pa_nil)) (pe_callB call_reprB rfl T.repr (by decide +kernel) (pa_cons (pe_fdG G_law_leads (hr.mono (by decide)) hgu rfl (pa_cons (pv 1) (pa_cons (pv 3) (pa_cons (pv 8) pa_nil)))) pa_nil)) (nomark _)) (pss_one (ps_ret pe_bl)) pss_nil)))))))))))))))
  (pss_one (ps_ret pe_bl)))), ?_⟩
  refine seq_in ?_
  refine asg_in ?_
  refine ⟨_, rfl, p, 5, 0, rfl, by decide, by decide, by omega, hP, fun d0 H1 hd0 g1 hP1 => ⟨_, _, rfl, rfl, ?_⟩⟩
  dsimp only
  rw [show (1 + (d0 : Int)) = ((d0 + 1 : Nat) : Int) by omega]
  have h1 : 1 ≤ d0 + 1 := by omega
  have h5 : d0 + 1 ≤ 5 := by omega
  generalize d0 + 1 = n at h1 h5 ⊢
  clear hd0
  refine seq_in ?_
  refine ⟨_, rfl, by decide, by decide, for_range (lo := 0) (n := 3) (fun i σ H' => ∃ u2 u3 u4 u5 u6 u7 u8, σ = [some (.ref p), some (.int n), u2, u3, u4, u5, u6, u7, u8] ∧ But [p] H H' ∧ PotAt H' p (1 + 600 * i)) ⟨_, _, _, _, _, _, _, rfl, g1, hP1⟩ ?_ ?_⟩
  rotate_left
  · rintro σ H2 ⟨u2, u3, u4, u5, u6, u7, u8, rfl, g2, _⟩
    refine nx_in ?_
    refine ret_in ?_
    exact q _ g2
  rintro i σ H2 hi ⟨u2, u3, u4, u5, u6, u7, u8, rfl, g2, hP2⟩
  refine g_set ?_
  refine seq_in ?_
  refine asg_in ?_
  refine ⟨_, rfl, _, rfl, _, rfl, p, 2, 1 + 600 * i, rfl, by decide, by decide, by omega, hP2, fun d2 H3 hd2 g3 hP3 => ⟨rfl, p, n, _, _, rfl, h1, h5, by omega, hP3, fun v H4 dr g4 hP4 dv hat hwh => ?_⟩⟩
  clear hwh
  obtain ⟨r, rfl, R, _⟩ := at_row (by omega) hat
  refine g_set ?_
  refine nx_in ?_
  refine seq_in ?_
  refine asg_in ?_
  refine ⟨fun y H' => ∃ (t : Addr) (Vs : List (List Nat)), y = .ref t ∧ Same H4 H' ∧ H' t = some (.tup (natV (wto n r [] Vs))) ∧ ViewsOf r Vs, ?_, ?_⟩
  · refine ⟨_, rfl, _, _, rfl, rfl, _, rfl, ite2 (fun c => ?_) (fun c => ?_)⟩
    · exact ⟨_, rfl, _, rfl, n, v, r, rfl, h1, h5, dv, R, hat, fun t H' Vs g ht hV => ⟨t, Vs, rfl, g, ht, hV⟩⟩
    · exact ⟨_, rfl, _, rfl, rfl, n, v, r, rfl, h1, h5, dv, R, hat, fun t H' Vs g ht hV => ⟨t, Vs, rfl, g, ht, hV⟩⟩
  rintro y H5 ⟨t, Vs, rfl, g5, ht5, hV⟩
  have evw := wto_ok h1 h5 R hV
  have few := hV.few h5 R
  have wlen : (wto n r [] Vs).length ≤ 360 := by
    have := wto_len (n := n) (r := r) (came := []) h5 few.2
    have := few.1
    omega
  have wlt : ∀ x ∈ wto n r [] Vs, x < n := wto_lt fun V hV' x hx => by
    obtain ⟨i, hi⟩ := hV.is V hV'
    exact R.rng _ _ hi x hx
  generalize wto n r [] Vs = ws at evw wlen wlt ht5
  have S5 : S28 p v r t ws H H5 (1 + 600 * i + 21) := ⟨((g2.trans g3).trans g4).trans (.of g5), pot_sm g5 hP4, dv.same g5, ht5⟩
  have elead : leadB n r (wvD ws) = true := by
    unfold leadB
    rw [wvD_ok wlt (by omega), wvL_wvD, Bool.true_and]
    exact decide_eq_true evw
  refine g_set ?_
  refine nx_in ?_
  refine seq_in ?_
  refine ⟨_, rfl, _, rfl, _, rfl, n, v, .ref t, r, wvD ws, rfl, h1, h5, S5.row, R, .inl (dv_nat S5.told (by omega)), fun H6 g6 => ⟨_, rfl, ?_⟩⟩
  rw [elead]
  refine iteF ?_
  refine next_in ?_
  refine nx_in ?_
  refine seq_in ?_
  refine asg_in ?_
  have S6 := S5.same g6
  refine ⟨_, rfl, fun x xx hx hxx hne => ⟨x, xx, n, rfl, h1, h5, upd_same, by rw [upd_ne hne]; exact upd_same, fun H0 b0 D0 => ⟨rfl, ?_⟩⟩⟩
  have F0 : Same H6 H0 := Same.into (Same.trans (same_new hxx (.own x)) (same_new (by rw [upd_ne (Ne.symm hne)]; exact hx) (.ins C xx []))) b0 hx
  have S7 := S6.same F0
  refine g_set ?_
  refine nx_in ?_
  refine seq_in ?_
  have hn : (LS.new n).n = n := by simp [LS.new, LS.n]
  have W := LS.WF.new h1 h5
  obtain ⟨dx0, fs0, ob0, _, _, _, _, nw0⟩ := D0.ob
  refine ⟨_, rfl, x, dx0, fs0, rfl, ob0, nw0, _, rfl, x, t, ws, LS.new n, rfl, D0, W, .inl S7.told, by rw [hn]; exact wlt, by omega, by show (0 : Nat) < 10000; decide, fun t8 ys ds H8 b8 D8 ht8 hp8 er8 => ?_⟩
  refine nx_in ?_
  refine seq_in ?_
  have W8 := LS.wf_woven W (ws := ws) (by rw [hn]; exact wlt)
  obtain ⟨dx, la, lb, rr, e, vv, rv, D⟩ := D8
  have F8 : Same H6 H8 := Same.into (Same.refl _) (fun b o nb q => b8 b o nb (F0 _ _ q)) hx
  have S8 := S6.same F8
  have rl := R.len
  refine ⟨_, rfl, x, C, dx, _, _, rfl, D.obj, hC.cl, hC.nV, l_vw, _, _, 3, 100, rfl, .tup D.vw.sq (vw_dp D.vwP), vwL_sm W8.small (by rw [evw]; omega), by decide, by decide, _, rfl, _, _, 3, 100, rfl, S8.row.dpR, vwL_sm (R.small h5) (by omega), by decide, by decide, rfl, _, rfl, ?_⟩
  rw [evw]
  refine ite_no (by simp) ?_
  refine ⟨_, rfl, _, rfl, _, rfl, n, v, .ref t, r, wvD ws, rfl, h1, h5, S8.row, hat, R.len, .inl (dv_nat S8.told (by omega)), fun H9 g9 => ⟨_, _, rfl, rfl, _, rfl, ?_⟩⟩
  rw [elead]
  refine iteF ?_
  refine next_in ?_
  refine nx_in ?_
  refine seq_in ?_
  refine asg_in ?_
  have S9 := S8.same g9
  generalize hk9 : 1 + 600 * i + 21 = k9 at S9
  have wl : (natV ws).length = ws.length := natL ws
  -- six values
  refine ⟨_, rfl, _, rfl, p, k9, 1, .ref t, wvD ws, rfl, by decide, by decide, by omega, S9.pot, dv_nat S9.told (by omega), ⟨by rw [List.length_map]; omega, fun d hd => ?pb⟩, fun v1 d1 Ha ga hPa dv1 => ?_⟩
  case pb =>
    obtain ⟨x, _, rfl⟩ := List.mem_map.mp hd
    trivial
  have Sa := S9.draw ga hPa
  have B1 : BVs Ha [v1] := BVs.nil.snoc (.inl dv1)
  refine ⟨_, rfl, t, natV ws, rfl, .of Sa.told, fun r2 nr2 => ?_⟩
  have sb := same_new nr2 (.tup (natV ws).reverse)
  have Sb := Sa.same sb
  have B2 := (B1.same sb).snoc (.inl (.tup upd_same (dvs_nat _ ws).rev (by rw [List.length_reverse, List.length_map]; omega)))
  generalize upd Ha r2 (.tup (natV ws).reverse) = Hb at sb Sb B2 ⊢
  refine ⟨_, rfl, _, rfl, ?_⟩
  refine catA_any Sb.told Sb.told (by omega) fun c3 Hc gc hc3 => ?_
  have Sc := Sb.same gc
  have B3 := (B2.same gc).snoc (.inl (.tup hc3 ((dvs_nat _ ws).app (dvs_nat _ ws)) (by rw [List.length_append, List.length_map]; omega)))
  refine ⟨_, rfl, _, rfl, p, n, 20, _, rfl, h1, h5, by decide, Sc.pot, by omega, fun t4 w4 Hd gd hPd ht4 hlt4 hl4 => ?_⟩
  have Sd := Sc.draw gd hPd
  have B4 := (B3.kd (.pot gd Sc.pot hPd)).snoc (.inl (dv_nat ht4 (by omega)))
  refine ⟨_, rfl, p, _, rfl, by omega, Sd.pot, fun v5 d5 He ge hPe dv5 => ?_⟩
  have Se := Sd.draw ge hPe
  have B5 := (B4.kd (.pot ge Sd.pot hPe)).snoc (.inl dv5)
  refine ⟨_, rfl, t, natV ws, rfl, .inr (.of Se.told), fun l6 nl6 => ?_⟩
  have sf := same_new nl6 (.lst (natV ws))
  have Sf := Se.same sf
  have B6 := (B5.same sf).snoc (.inl (.lst upd_same))
  generalize upd He l6 (.lst (natV ws)) = Hf at sf Sf B6 ⊢
  refine ⟨szl (by show 6 ≤ _; decide), fun sm nsm => ?_⟩
  have sg := same_new nsm (.lst [v1, .ref r2, .ref c3, .ref t4, v5, .ref l6])
  have Sg := Sf.same sg
  have B6 : BVs _ [v1, .ref r2, .ref c3, .ref t4, v5, .ref l6] := B6.same sg
  have hsm : upd Hf sm (.lst [v1, .ref r2, .ref c3, .ref t4, v5, .ref l6]) sm = some (.lst [v1, .ref r2, .ref c3, .ref t4, v5, .ref l6]) := upd_same
  have hlen6 : [v1, .ref r2, .ref c3, .ref t4, v5, .ref l6].length = 6 := rfl
  have nsmH := but_none Sf.b Sf.pot nsm
  generalize upd Hf sm (.lst [v1, .ref r2, .ref c3, .ref t4, v5, .ref l6]) = Hg at Sg B6 hsm ⊢
  generalize [v1, .ref r2, .ref c3, .ref t4, v5, .ref l6] = vs6 at B6 hsm hlen6
  clear B1 B2 B3 B4 B5 sf sg sb
  refine g_set ?_
  refine nx_in ?_
  refine seq_in ?_
  refine asg_in ?_
  refine ⟨_, rfl, _, rfl, _, ws.length, rfl, (show LenV K (.ref t) Hg ws.length from .inr ⟨_, .of Sg.told, wl.symm⟩), _, _, rfl, rfl, p, ws.length + 1, _, rfl, by omega, by omega, by omega, Sg.pot, fun at_ Hh hat_ gh hPh => ?_⟩
  have Sh := Sg.draw gh hPh
  have kh := DKp.pot gh Sg.pot hPh
  have B6h := B6.kd kh
  have hsmh := gh _ _ (by simpa using nsmH.2) hsm
  refine g_set ?_
  refine nx_in ?_
  refine seq_in ?_
  -- three long values
  refine ⟨_, rfl, .inl ⟨rfl, _, .of hsmh⟩, ?_⟩
  refine ⟨_, rfl, _, rfl, _, rfl, p, n, 90, _, rfl, h1, h5, by decide, Sh.pot, by omega, fun t7 w7 Hi gi hPi ht7 hlt7 hl7 => ?_⟩
  have Si := Sh.draw gi hPi
  have B6i := B6h.kd (.pot gi Sh.pot hPi)
  have hsmi := gi _ _ (by simpa using nsmH.2) hsmh
  have w7l : (natV w7).length = w7.length := natL w7
  refine catA_any Si.told ht7 (by omega) fun c7 Hj gj hc7 => ?_
  have Sj := Si.same gj
  have B7 : BVs Hj [.ref c7] := BVs.nil.snoc (.inl (.tup hc7 ((dvs_nat _ ws).app (dvs_nat _ w7)) (by rw [List.length_append, List.length_map, List.length_map]; omega)))
  have long : ∀ {H1 : Hp} {m : Nat} {z : Int} {k : Nat} {Q1 : VK}, S28 p v r t ws H H1 k → 2 ≤ m → m ≤ 3001 → ws.length + m ≤ 3500 → (∀ c H2, Same H1 H2 → BVs H2 [.ref c] → Q1 (.ref c) H2) → ∀ {b : Addr} {c : Int}, H1 b = some (.tup [.int z]) → c = (m : Nat) → rRepL K (.ref b) (.int c) H1 (fun y H2 => rCatA K (.ref t) y H2 Q1) := fun {H1 m z k Q1} S hm1 hm2 hm3 kk {b c} hb hc => by
    subst hc
    refine ⟨b, m, _, rfl, rfl, .of hb, Nat.le_refl _, by show 1 ≤ 10; decide, hm1, by omega, fun q nq => ?_⟩
    have sq := same_new nq (.tup (List.replicate m [V.int z]).flatten)
    refine catA_any ((S.same sq).told) upd_same (by rw [rep1_len, wl]; omega) fun c H2 g2 hc => ?_
    refine kk c H2 (sq.trans g2) (BVs.nil.snoc (.long hc ((dvs_nat _ ws).app (dvs_rep _ z m)) ?_))
    rw [List.length_append, List.length_map, List.length_replicate]; omega
  refine ⟨_, rfl, _, rfl, _, _, rfl, rfl, szl (by show 1 ≤ _; decide), fun b8 nb8 => ?_⟩
  have sk := same_new nb8 (.tup [.int ((n : Int) - 1)])
  have Sk := Sj.same sk
  refine ⟨_, rfl, _, ws.length, rfl, (show LenV K (.ref t) _ ws.length from .inr ⟨_, .of Sk.told, wl.symm⟩), _, _, rfl, rfl, ?_⟩
  refine long (m := 3000 - ws.length) Sk (by omega) (by omega) (by omega) (fun c8 Hk gk bk => ?_) upd_same (by omega)
  have B8 := ((B7.same sk).same gk).app' bk
  have Sl := Sk.same gk
  have g68 := ((gj.trans sk).trans gk)
  clear bk
  refine ⟨_, rfl, szl (by show 1 ≤ _; decide), fun b9 nb9 => ?_⟩
  have sl := same_new nb9 (.tup [.int 0])
  have Sm := Sl.same sl
  refine ⟨_, rfl, _, ws.length, rfl, (show LenV K (.ref t) _ ws.length from .inr ⟨_, .of Sm.told, wl.symm⟩), _, _, rfl, rfl, ?_⟩
  refine long (m := 3001 - ws.length) Sm (by omega) (by omega) (by omega) (fun c9 Hl gl bl => ?_) upd_same (by omega)
  have B9 := ((B8.same sl).same gl).app' bl
  have Sn := Sm.same gl
  have g69 := (g68.trans sl).trans gl
  clear bl B7 B8
  refine ⟨szl (by show 3 ≤ _; decide), fun e1 ne1 => ?_⟩
  have so := same_new ne1 (.lst [.ref c7, .ref c8, .ref c9])
  have So := Sn.same so
  have B9 : BVs _ [.ref c7, .ref c8, .ref c9] := B9.same so
  have g6o := g69.trans so
  have hsmo := g6o _ _ hsmi
  have B6o := B6i.same g6o
  have he1 : upd Hl e1 (.lst [.ref c7, .ref c8, .ref c9]) e1 = some (.lst [.ref c7, .ref c8, .ref c9]) := upd_same
  generalize upd Hl e1 (.lst [.ref c7, .ref c8, .ref c9]) = Hm at So B9 g6o hsmo B6o he1 ⊢
  refine ⟨sm, e1, vs6, _, rfl, rfl, hsmo, he1, szl (by rw [hlen6]; show 6 + 3 ≤ _; decide), ?_⟩
  have kp := DKp.put (ys := vs6 ++ [.ref c7, .ref c8, .ref c9]) hsmo
  have B99 := ((B6o.app' B9).kd kp)
  have Sp : S28 p v r t ws H (upd Hm sm (.lst (vs6 ++ [.ref c7, .ref c8, .ref c9]))) _ := So.put nsmH hsmo
  have hsmp : upd Hm sm (.lst (vs6 ++ [.ref c7, .ref c8, .ref c9])) sm = some (.lst (vs6 ++ [.ref c7, .ref c8, .ref c9])) := upd_same
  have hlen9 : (vs6 ++ [V.ref c7, V.ref c8, V.ref c9]).length = 9 := by rw [List.length_append, hlen6]; rfl
  generalize upd Hm sm (.lst (vs6 ++ [.ref c7, .ref c8, .ref c9])) = Hn at B99 Sp hsmp ⊢
  generalize vs6 ++ [V.ref c7, V.ref c8, V.ref c9] = vs9 at B99 hsmp hlen9
  refine nx_in ?_
  refine seq_in ?_
  refine ⟨_, rfl, .inl ⟨rfl, _, .of hsmp⟩, ?_⟩
  have cutter : ∀ {σ : L2.St} {H1 : Hp} {k : Nat} {tz : TE} {Q1 : VK}, S28 p v r t ws H H1 k → σ[4]? = some (some (.ref t)) → σ[7]? = some (some (.int (at_ : Nat))) → (∀ (Hq : Hp) (Qz : VK), (∀ z : Int, Qz (.int z) Hq) → tz σ Hq Qz) → (∀ c H2, Same H1 H2 → BVs H2 [.ref c] → Q1 (.ref c) H2) →
      tOp (rCatA K) (tOp (rCatA K) (tSl (rSlA K) (tVar 4) tNoPart (tPart (tVar 7))) (tTup (tCons tz tNil))) (tSl (rSlA K) (tVar 4) (tPart (tVar 7)) tNoPart) σ H1 Q1 := fun {σ H1 k tz Q1} S h4 h7 htz kk => by
    refine ⟨_, h4, ?_⟩
    refine noP_in ?_
    refine ⟨_, h7, _, rfl, ?_⟩
    refine slA_any S.told fun b Hb gb hb => ?_
    rw [cutA_to] at hb
    refine htz _ _ fun z => ?_
    refine ⟨szl (by show 1 ≤ _; decide), fun t2 nt2 => ?_⟩
    have s2 := same_new nt2 (.tup [.int z])
    refine catA_any (s2 _ _ hb) upd_same (by rw [List.length_take, wl]; show _ + 1 ≤ _; omega) fun c Hc gc hc => ?_
    refine ⟨_, h4, _, h7, _, rfl, ?_⟩
    refine noP_in ?_
    have g1 := (gb.trans s2).trans gc
    refine slA_any ((S.same g1).told) fun b6 H6' g6' hb6 => ?_
    rw [cutA_from] at hb6
    refine catA_any (g6' _ _ hc) hb6 (by rw [List.length_append, List.length_take, List.length_drop, wl]; show _ + 1 + _ ≤ _; omega) fun c7' H7' g7' hc7' => ?_
    refine kk c7' H7' ((g1.trans g6').trans g7') (BVs.nil.snoc (.inl (.tup hc7' (((dvs_nat _ ws).take.app (.cons (.int z) .nil)).app (dvs_nat _ ws).drop) ?_)))
    rw [List.length_append, List.length_append, List.length_take, List.length_drop, List.length_map]
    show _ + 1 + _ ≤ _
    omega
  refine cutter Sp rfl rfl (fun Hq Qz hz => ⟨_, rfl, _, _, rfl, rfl, hz _⟩) fun f1 Hp1 gp1 bp1 => ?_
  have Sq := Sp.same gp1
  refine cutter Sq rfl rfl (fun Hq Qz hz => ⟨_, rfl, hz _⟩) fun f2 Hp2 gp2 bp2 => ?_
  have Sr := Sq.same gp2
  refine ⟨_, rfl, 1, rfl, szl (by show 1 ≤ _; decide), fun t2 nt2 => ?_⟩
  have sr := same_new nt2 (.tup [.int (-1)])
  have Ss := Sr.same sr
  refine catA_any Ss.told upd_same (by rw [wl]; show _ + 1 ≤ _; omega) fun f3 Hp3 gp3 hf3 => ?_
  have St := Ss.same gp3
  have bp3 : BVs Hp3 [.ref f3] := BVs.nil.snoc (.inl (.tup hf3 ((dvs_nat _ ws).app (.cons (.int (-1)) .nil)) (by rw [List.length_append, List.length_map]; show _ + 1 ≤ _; omega)))
  have B12 := (((bp1.same gp2).app' bp2).same (sr.trans gp3)).app' bp3
  have g12 := ((gp1.trans gp2).trans sr).trans gp3
  refine ⟨szl (by show 3 ≤ _; decide), fun e2 ne2 => ?_⟩
  have st := same_new ne2 (.lst [.ref f1, .ref f2, .ref f3])
  have Su := St.same st
  have B12 : BVs _ [.ref f1, .ref f2, .ref f3] := B12.same st
  have g13 := g12.trans st
  have hsmu := g13 _ _ hsmp
  have B99u := B99.same g13
  have he2 : upd Hp3 e2 (.lst [.ref f1, .ref f2, .ref f3]) e2 = some (.lst [.ref f1, .ref f2, .ref f3]) := upd_same
  generalize upd Hp3 e2 (.lst [.ref f1, .ref f2, .ref f3]) = Hu at Su B12 hsmu B99u he2 ⊢
  refine ⟨sm, e2, vs9, _, rfl, rfl, hsmu, he2, szl (by rw [hlen9]; show 9 + 3 ≤ _; decide), ?_⟩
  have kp2 := DKp.put (ys := vs9 ++ [.ref f1, .ref f2, .ref f3]) hsmu
  have BV12 := (B99u.app' B12).kd kp2
  have Sv : S28 p v r t ws H (upd Hu sm (.lst (vs9 ++ [.ref f1, .ref f2, .ref f3]))) _ := Su.put nsmH hsmu
  have hsmv : upd Hu sm (.lst (vs9 ++ [.ref f1, .ref f2, .ref f3])) sm = some (.lst (vs9 ++ [.ref f1, .ref f2, .ref f3])) := upd_same
  generalize upd Hu sm (.lst (vs9 ++ [.ref f1, .ref f2, .ref f3])) = Hv at BV12 Sv hsmv ⊢
  generalize vs9 ++ [V.ref f1, V.ref f2, V.ref f3] = vs at BV12 hsmv
  refine nx_in ?_
  refine ⟨_, rfl, sm, rfl, ⟨_, .of hsmv⟩, for_list (K := K) (a := sm) (xs := vs) (fun i' σ H' => ∃ u8, σ = [some (.ref p), some (.int n), some (.int (0 + (i : Nat))), some v, some (.ref t), some (.ref x), some (.ref sm), some (.int (at_ : Nat)), u8] ∧ Same Hv H') ⟨_, rfl, Same.refl _⟩ (fun i' σ H' _ z => ?_) ?_ ?_⟩
  · obtain ⟨_, rfl, g⟩ := z
    exact .of (g _ _ hsmv)
  · rintro i' y σ H' hx ⟨u8', rfl, g⟩
    obtain ⟨dd, bv⟩ := BV12 y (List.mem_of_getElem? hx)
    refine g_set ?_
    have Sw := Sv.same g
    refine ⟨_, rfl, _, rfl, _, rfl, rfl, n, v, y, r, dd, rfl, h1, h5, Sw.row, hat, R.len, bv.same g, fun Ha' ga' => ⟨_, rfl, ?_⟩⟩
    refine ⟨_, rfl, _, rfl, _, rfl, n, v, y, r, dd, rfl, h1, h5, (Sw.same ga').row, R, (bv.same g).same ga', fun Hb' gb' => ⟨_, rfl, rfl, _, rfl, ?_⟩⟩
    refine ite_no (by simp) ?_
    refine next_in ?_
    exact ⟨_, rfl, (g.trans ga').trans gb'⟩
  · rintro σ H' ⟨u8', rfl, g⟩
    exact ⟨_, _, _, _, _, _, _, rfl, (Sv.same g).b, (Sv.same g).pot.mono (by omega)⟩
end
end Fp
namespace Fp
open PySem PySem.Spec PyProof.Rows L2
def spLaw (K : PySem.W.Frag) : Sp := fun vs H Q _ => ∃ (a : Addr) (ns : List Int), vs = [.ref a] ∧ SqL K H a (ns.map V.int) ∧ ns.length ≤ 63 ∧ ∀ H', Q (.bl true) H'
section
variable {P : Program} {w : World} {K : PySem.W.Frag} {mg : Str → Option Value} {base : Heap} {f : Addr} {fd : FuncData}
abbrev s_law : Stmt := top 46
theorem sc_law : FnScope ["script", "place"] ["script"] (defScope s_law) := ⟨rfl, rfl, rfl, by decide +kernel, rfl, by decide +kernel, by decide +kernel⟩
theorem ok_law (F : Fun K "law" "law" s_law f fd) (T : LTx mg) (G_law_cells : Fd P w K mg base CX0 "_law_cells" 1 ["script", "limit"] (spCells K)) (G_law_pot : Fd P w K mg base CX0 "_law_pot" 1 ["script", "place"] (spPot K)) (G_law_right : FdG P w K mg base CX0 "_law_right" 8 ["pot"] spRight) : FnOkG P w K mg base CX0 (8 + 1) f fd ["script"] (spLaw K) := by
  refine fun_okG F sc_law (fun vs H Q E h => ?_) (fun cdv A outer s H vs Q E hr hgu h => ?_)
  · obtain ⟨a, ns, rfl, _⟩ := h
    rfl
  obtain ⟨a, ns, rfl, hS, hl, k⟩ := h
  refine ⟨_, (pss_one (ps_ret (pe_callB (cr_all rfl) rfl T.all (by decide +kernel) (pa_cons (pe_lc (own := [("place", 1)]) (g := (gName 1)) (tt := tYes) rfl sc_law.nd (pi_list (pe_fd G_law_cells (hr.mono (by first | decide | omega)) rfl (pa_cons (pv 0) (pa_cons pe_int pa_nil)))) (blkOk_by (own := [("place", 1)]) (N := ["script", "place"]) (sc := defScope s_law) (by decide +kernel)) (fun _ _ _ _ _ => (pg_name (i := 1) sc_law.nd rfl (Or.inl rfl))) (fun _ _ _ _ _ => pts_nil) (fun _ _ _ _ _ => (pe_fdG G_law_right hr hgu rfl (pa_cons (pe_fd G_law_pot (hr.mono (by decide)) rfl (pa_cons (pv 0) (pa_cons (pv 1) pa_nil))) pa_nil)))) pa_nil)))), ?_⟩
  refine ⟨_, rfl, a, ns, 2, rfl, hS, hl, by decide, fun l H1 n hn g1 hl0 hl1 => ?_⟩
  refine ⟨l, rfl, ⟨_, .of hl1⟩, fun D hD => ?_⟩
  have hlen : ((List.range n).map fun i => V.int (i : Nat)).length = n := by simp
  refine lc_list (K := K) (a := l) (xs := (List.range n).map fun i => V.int (i : Nat)) (fun i H' => Same H1 H' ∧ H' D = some (.lst ((List.replicate i true).map V.bl))) ⟨same_new hD _, upd_same⟩ (fun i H' _ z => .of (z.1 _ _ hl1)) ?_ ?_
  · rintro i x Hi hx ⟨gi, hDi⟩
    have hi : i < n := by have := get_lt hx; rw [hlen] at this; exact this
    have hx' : x = .int (i : Nat) := by
      rw [List.getElem?_map, List.getElem?_range hi] at hx
      exact (Option.some.inj hx).symm
    subst hx'
    refine ⟨rfl, _, rfl, _, rfl, a, ns, i, rfl, gi.seq (g1.seq hS), hl, by omega, fun lp H3 g3 hlp hP => ?_⟩
    have lpD : D ≠ lp := ne_of_none hDi hlp
    refine ⟨lp, rfl, hP, fun H4 g4 => ?_⟩
    refine ⟨_, g4 _ _ (by simpa using lpD) (g3 _ _ hDi), Nat.lt_of_le_of_lt (show _ ≤ 1000 by rw [List.length_map, List.length_replicate]; omega) (by decide), fun b o q => ?_, ?_⟩
    · rw [upd_ne (ne_of_none q hD)]
      have q2 := gi b o q
      exact g4 _ _ (by simpa using ne_of_none q2 hlp) (g3 _ _ q2)
    · rw [upd_same, List.replicate_succ', List.map_append]
      rfl
  · rintro Hi ⟨gi, hDi⟩
    refine ⟨D, List.replicate ((List.range n).map fun i => V.int (i : Nat)).length true, rfl, .of hDi, ?_⟩
    rw [show (List.replicate ((List.range n).map fun i => V.int (i : Nat)).length true).all id = true by simp]
    exact k Hi
end
end Fp
namespace Fp
open PySem PySem.Spec PyProof.Rows L2
theorem all_mk {l : PySem.W.OpenLaw} {w : World} {K : PySem.W.Frag} {h : Heap} {mg : Str → Option Value} {fa : Addr} (X : K.In h) (G : h.Ns mainGlobals mg) (hfa : mg "law" = some (.ref fa))
    {C : Addr}
    (aCP : PySem.W.nsIn K mainGlobals "Levels" = some (some (.ref C)))
    {od_is_whole an_is_whole : Option Addr} {sl_is_whole : Array (Option Value)} {oc_is_whole kV_is_whole dc_is_whole pm_is_whole cd_is_whole ct_is_whole : Value} {f_is_whole : Addr}
    (a_is_whole : PySem.W.nsIn K mainGlobals "is_whole" = some (some (.ref f_is_whole)))
    (l_is_whole : K.lookup f_is_whole = some ⟨oc_is_whole, od_is_whole, .func (PySem.W.fnOf "is_whole" "is_whole" (defArgs s_is_whole) (defBody s_is_whole) (defScope s_is_whole) .none kV_is_whole dc_is_whole pm_is_whole an_is_whole cd_is_whole ct_is_whole), sl_is_whole⟩)
    (c_is_whole : PySem.W.codeIn K cd_is_whole "is_whole" = true)
    (k_is_whole : PySem.W.keepIn K (.ref f_is_whole) = true)
    {od_is_lot an_is_lot : Option Addr} {sl_is_lot : Array (Option Value)} {oc_is_lot kV_is_lot dc_is_lot pm_is_lot cd_is_lot ct_is_lot : Value} {f_is_lot : Addr}
    (a_is_lot : PySem.W.nsIn K mainGlobals "is_lot" = some (some (.ref f_is_lot)))
    (l_is_lot : K.lookup f_is_lot = some ⟨oc_is_lot, od_is_lot, .func (PySem.W.fnOf "is_lot" "is_lot" (defArgs s_is_lot) (defBody s_is_lot) (defScope s_is_lot) .none kV_is_lot dc_is_lot pm_is_lot an_is_lot cd_is_lot ct_is_lot), sl_is_lot⟩)
    (c_is_lot : PySem.W.codeIn K cd_is_lot "is_lot" = true)
    (k_is_lot : PySem.W.keepIn K (.ref f_is_lot) = true)
    {od_is_below an_is_below : Option Addr} {sl_is_below : Array (Option Value)} {oc_is_below kV_is_below dc_is_below pm_is_below cd_is_below ct_is_below : Value} {f_is_below : Addr}
    (a_is_below : PySem.W.nsIn K mainGlobals "is_below" = some (some (.ref f_is_below)))
    (l_is_below : K.lookup f_is_below = some ⟨oc_is_below, od_is_below, .func (PySem.W.fnOf "is_below" "is_below" (defArgs s_is_below) (defBody s_is_below) (defScope s_is_below) .none kV_is_below dc_is_below pm_is_below an_is_below cd_is_below ct_is_below), sl_is_below⟩)
    (c_is_below : PySem.W.codeIn K cd_is_below "is_below" = true)
    (k_is_below : PySem.W.keepIn K (.ref f_is_below) = true)
    {od_is_weaving an_is_weaving : Option Addr} {sl_is_weaving : Array (Option Value)} {oc_is_weaving kV_is_weaving dc_is_weaving pm_is_weaving cd_is_weaving ct_is_weaving : Value} {f_is_weaving : Addr}
    (a_is_weaving : PySem.W.nsIn K mainGlobals "is_weaving" = some (some (.ref f_is_weaving)))
    (l_is_weaving : K.lookup f_is_weaving = some ⟨oc_is_weaving, od_is_weaving, .func (PySem.W.fnOf "is_weaving" "is_weaving" (defArgs s_is_weaving) (defBody s_is_weaving) (defScope s_is_weaving) .none kV_is_weaving dc_is_weaving pm_is_weaving an_is_weaving cd_is_weaving ct_is_weaving), sl_is_weaving⟩)
    (c_is_weaving : PySem.W.codeIn K cd_is_weaving "is_weaving" = true)
    (k_is_weaving : PySem.W.keepIn K (.ref f_is_weaving) = true)
    {od_lies_in an_lies_in : Option Addr} {sl_lies_in : Array (Option Value)} {oc_lies_in kV_lies_in dc_lies_in pm_lies_in cd_lies_in ct_lies_in : Value} {f_lies_in : Addr}
    (a_lies_in : PySem.W.nsIn K mainGlobals "lies_in" = some (some (.ref f_lies_in)))
    (l_lies_in : K.lookup f_lies_in = some ⟨oc_lies_in, od_lies_in, .func (PySem.W.fnOf "lies_in" "lies_in" (defArgs s_lies_in) (defBody s_lies_in) (defScope s_lies_in) .none kV_lies_in dc_lies_in pm_lies_in an_lies_in cd_lies_in ct_lies_in), sl_lies_in⟩)
    (c_lies_in : PySem.W.codeIn K cd_lies_in "lies_in" = true)
    (k_lies_in : PySem.W.keepIn K (.ref f_lies_in) = true)
    {od_exchanged an_exchanged : Option Addr} {sl_exchanged : Array (Option Value)} {oc_exchanged kV_exchanged dc_exchanged pm_exchanged cd_exchanged ct_exchanged : Value} {f_exchanged : Addr}
    (a_exchanged : PySem.W.nsIn K mainGlobals "exchanged" = some (some (.ref f_exchanged)))
    (l_exchanged : K.lookup f_exchanged = some ⟨oc_exchanged, od_exchanged, .func (PySem.W.fnOf "exchanged" "exchanged" (defArgs s_exchanged) (defBody s_exchanged) (defScope s_exchanged) .none kV_exchanged dc_exchanged pm_exchanged an_exchanged cd_exchanged ct_exchanged), sl_exchanged⟩)
    (c_exchanged : PySem.W.codeIn K cd_exchanged "exchanged" = true)
    (k_exchanged : PySem.W.keepIn K (.ref f_exchanged) = true)
    {od_check_many an_check_many : Option Addr} {sl_check_many : Array (Option Value)} {oc_check_many kV_check_many dc_check_many pm_check_many cd_check_many ct_check_many : Value} {f_check_many : Addr}
    (a_check_many : PySem.W.nsIn K mainGlobals "check_many" = some (some (.ref f_check_many)))
    (l_check_many : K.lookup f_check_many = some ⟨oc_check_many, od_check_many, .func (PySem.W.fnOf "check_many" "check_many" (defArgs s_check_many) (defBody s_check_many) (defScope s_check_many) .none kV_check_many dc_check_many pm_check_many an_check_many cd_check_many ct_check_many), sl_check_many⟩)
    (c_check_many : PySem.W.codeIn K cd_check_many "check_many" = true)
    (k_check_many : PySem.W.keepIn K (.ref f_check_many) = true)
    {od_is_at_once an_is_at_once : Option Addr} {sl_is_at_once : Array (Option Value)} {oc_is_at_once kV_is_at_once dc_is_at_once pm_is_at_once cd_is_at_once ct_is_at_once : Value} {f_is_at_once : Addr}
    (a_is_at_once : PySem.W.nsIn K mainGlobals "is_at_once" = some (some (.ref f_is_at_once)))
    (l_is_at_once : K.lookup f_is_at_once = some ⟨oc_is_at_once, od_is_at_once, .func (PySem.W.fnOf "is_at_once" "is_at_once" (defArgs s_is_at_once) (defBody s_is_at_once) (defScope s_is_at_once) .none kV_is_at_once dc_is_at_once pm_is_at_once an_is_at_once cd_is_at_once ct_is_at_once), sl_is_at_once⟩)
    (c_is_at_once : PySem.W.codeIn K cd_is_at_once "is_at_once" = true)
    (k_is_at_once : PySem.W.keepIn K (.ref f_is_at_once) = true)
    {od_is_view an_is_view : Option Addr} {sl_is_view : Array (Option Value)} {oc_is_view kV_is_view dc_is_view pm_is_view cd_is_view ct_is_view : Value} {f_is_view : Addr}
    (a_is_view : PySem.W.nsIn K mainGlobals "is_view" = some (some (.ref f_is_view)))
    (l_is_view : K.lookup f_is_view = some ⟨oc_is_view, od_is_view, .func (PySem.W.fnOf "is_view" "is_view" (defArgs s_is_view) (defBody s_is_view) (defScope s_is_view) .none kV_is_view dc_is_view pm_is_view an_is_view cd_is_view ct_is_view), sl_is_view⟩)
    (c_is_view : PySem.W.codeIn K cd_is_view "is_view" = true)
    (k_is_view : PySem.W.keepIn K (.ref f_is_view) = true)
    {od_fit an_fit : Option Addr} {sl_fit : Array (Option Value)} {oc_fit kV_fit dc_fit pm_fit cd_fit ct_fit : Value} {f_fit : Addr}
    (a_fit : PySem.W.nsIn K mainGlobals "fit" = some (some (.ref f_fit)))
    (l_fit : K.lookup f_fit = some ⟨oc_fit, od_fit, .func (PySem.W.fnOf "fit" "fit" (defArgs s_fit) (defBody s_fit) (defScope s_fit) .none kV_fit dc_fit pm_fit an_fit cd_fit ct_fit), sl_fit⟩)
    (c_fit : PySem.W.codeIn K cd_fit "fit" = true)
    (k_fit : PySem.W.keepIn K (.ref f_fit) = true)
    {od_weaving_to an_weaving_to : Option Addr} {sl_weaving_to : Array (Option Value)} {oc_weaving_to kV_weaving_to dc_weaving_to pm_weaving_to cd_weaving_to ct_weaving_to : Value} {f_weaving_to : Addr}
    (a_weaving_to : PySem.W.nsIn K mainGlobals "weaving_to" = some (some (.ref f_weaving_to)))
    (l_weaving_to : K.lookup f_weaving_to = some ⟨oc_weaving_to, od_weaving_to, .func (PySem.W.fnOf "weaving_to" "weaving_to" (defArgs s_weaving_to) (defBody s_weaving_to) (defScope s_weaving_to) .none kV_weaving_to dc_weaving_to pm_weaving_to an_weaving_to cd_weaving_to ct_weaving_to), sl_weaving_to⟩)
    (c_weaving_to : PySem.W.codeIn K cd_weaving_to "weaving_to" = true)
    (k_weaving_to : PySem.W.keepIn K (.ref f_weaving_to) = true)
    {od_weaving_down an_weaving_down : Option Addr} {sl_weaving_down : Array (Option Value)} {oc_weaving_down kV_weaving_down dc_weaving_down pm_weaving_down cd_weaving_down ct_weaving_down : Value} {f_weaving_down : Addr}
    (a_weaving_down : PySem.W.nsIn K mainGlobals "weaving_down" = some (some (.ref f_weaving_down)))
    (l_weaving_down : K.lookup f_weaving_down = some ⟨oc_weaving_down, od_weaving_down, .func (PySem.W.fnOf "weaving_down" "weaving_down" (defArgs s_weaving_down) (defBody s_weaving_down) (defScope s_weaving_down) .none kV_weaving_down dc_weaving_down pm_weaving_down an_weaving_down cd_weaving_down ct_weaving_down), sl_weaving_down⟩)
    (c_weaving_down : PySem.W.codeIn K cd_weaving_down "weaving_down" = true)
    (k_weaving_down : PySem.W.keepIn K (.ref f_weaving_down) = true)
    {od_shows_weaving_to an_shows_weaving_to : Option Addr} {sl_shows_weaving_to : Array (Option Value)} {oc_shows_weaving_to kV_shows_weaving_to dc_shows_weaving_to pm_shows_weaving_to cd_shows_weaving_to ct_shows_weaving_to : Value} {f_shows_weaving_to : Addr}
    (a_shows_weaving_to : PySem.W.nsIn K mainGlobals "shows_weaving_to" = some (some (.ref f_shows_weaving_to)))
    (l_shows_weaving_to : K.lookup f_shows_weaving_to = some ⟨oc_shows_weaving_to, od_shows_weaving_to, .func (PySem.W.fnOf "shows_weaving_to" "shows_weaving_to" (defArgs s_shows_weaving_to) (defBody s_shows_weaving_to) (defScope s_shows_weaving_to) .none kV_shows_weaving_to dc_shows_weaving_to pm_shows_weaving_to an_shows_weaving_to cd_shows_weaving_to ct_shows_weaving_to), sl_shows_weaving_to⟩)
    (c_shows_weaving_to : PySem.W.codeIn K cd_shows_weaving_to "shows_weaving_to" = true)
    (k_shows_weaving_to : PySem.W.keepIn K (.ref f_shows_weaving_to) = true)
    {od_law_pot an_law_pot : Option Addr} {sl_law_pot : Array (Option Value)} {oc_law_pot kV_law_pot dc_law_pot pm_law_pot cd_law_pot ct_law_pot : Value} {f_law_pot : Addr}
    (a_law_pot : PySem.W.nsIn K mainGlobals "_law_pot" = some (some (.ref f_law_pot)))
    (l_law_pot : K.lookup f_law_pot = some ⟨oc_law_pot, od_law_pot, .func (PySem.W.fnOf "_law_pot" "_law_pot" (defArgs s_law_pot) (defBody s_law_pot) (defScope s_law_pot) .none kV_law_pot dc_law_pot pm_law_pot an_law_pot cd_law_pot ct_law_pot), sl_law_pot⟩)
    (c_law_pot : PySem.W.codeIn K cd_law_pot "_law_pot" = true)
    (k_law_pot : PySem.W.keepIn K (.ref f_law_pot) = true)
    {od_law_take an_law_take : Option Addr} {sl_law_take : Array (Option Value)} {oc_law_take kV_law_take dc_law_take pm_law_take cd_law_take ct_law_take : Value} {f_law_take : Addr}
    (a_law_take : PySem.W.nsIn K mainGlobals "_law_take" = some (some (.ref f_law_take)))
    (l_law_take : K.lookup f_law_take = some ⟨oc_law_take, od_law_take, .func (PySem.W.fnOf "_law_take" "_law_take" (defArgs s_law_take) (defBody s_law_take) (defScope s_law_take) .none kV_law_take dc_law_take pm_law_take an_law_take cd_law_take ct_law_take), sl_law_take⟩)
    (c_law_take : PySem.W.codeIn K cd_law_take "_law_take" = true)
    (k_law_take : PySem.W.keepIn K (.ref f_law_take) = true)
    {od_law_of an_law_of : Option Addr} {sl_law_of : Array (Option Value)} {oc_law_of kV_law_of dc_law_of pm_law_of cd_law_of ct_law_of : Value} {f_law_of : Addr}
    (a_law_of : PySem.W.nsIn K mainGlobals "_law_of" = some (some (.ref f_law_of)))
    (l_law_of : K.lookup f_law_of = some ⟨oc_law_of, od_law_of, .func (PySem.W.fnOf "_law_of" "_law_of" (defArgs s_law_of) (defBody s_law_of) (defScope s_law_of) .none kV_law_of dc_law_of pm_law_of an_law_of cd_law_of ct_law_of), sl_law_of⟩)
    (c_law_of : PySem.W.codeIn K cd_law_of "_law_of" = true)
    (k_law_of : PySem.W.keepIn K (.ref f_law_of) = true)
    {od_law_some an_law_some : Option Addr} {sl_law_some : Array (Option Value)} {oc_law_some kV_law_some dc_law_some pm_law_some cd_law_some ct_law_some : Value} {f_law_some : Addr}
    (a_law_some : PySem.W.nsIn K mainGlobals "_law_some" = some (some (.ref f_law_some)))
    (l_law_some : K.lookup f_law_some = some ⟨oc_law_some, od_law_some, .func (PySem.W.fnOf "_law_some" "_law_some" (defArgs s_law_some) (defBody s_law_some) (defScope s_law_some) .none kV_law_some dc_law_some pm_law_some an_law_some cd_law_some ct_law_some), sl_law_some⟩)
    (c_law_some : PySem.W.codeIn K cd_law_some "_law_some" = true)
    (k_law_some : PySem.W.keepIn K (.ref f_law_some) = true)
    {od_law_cells an_law_cells : Option Addr} {sl_law_cells : Array (Option Value)} {oc_law_cells kV_law_cells dc_law_cells pm_law_cells cd_law_cells ct_law_cells : Value} {f_law_cells : Addr}
    (a_law_cells : PySem.W.nsIn K mainGlobals "_law_cells" = some (some (.ref f_law_cells)))
    (l_law_cells : K.lookup f_law_cells = some ⟨oc_law_cells, od_law_cells, .func (PySem.W.fnOf "_law_cells" "_law_cells" (defArgs s_law_cells) (defBody s_law_cells) (defScope s_law_cells) .none kV_law_cells dc_law_cells pm_law_cells an_law_cells cd_law_cells ct_law_cells), sl_law_cells⟩)
    (c_law_cells : PySem.W.codeIn K cd_law_cells "_law_cells" = true)
    (k_law_cells : PySem.W.keepIn K (.ref f_law_cells) = true)
    {od_law_odd an_law_odd : Option Addr} {sl_law_odd : Array (Option Value)} {oc_law_odd kV_law_odd dc_law_odd pm_law_odd cd_law_odd ct_law_odd : Value} {f_law_odd : Addr}
    (a_law_odd : PySem.W.nsIn K mainGlobals "_law_odd" = some (some (.ref f_law_odd)))
    (l_law_odd : K.lookup f_law_odd = some ⟨oc_law_odd, od_law_odd, .func (PySem.W.fnOf "_law_odd" "_law_odd" (defArgs s_law_odd) (defBody s_law_odd) (defScope s_law_odd) .none kV_law_odd dc_law_odd pm_law_odd an_law_odd cd_law_odd ct_law_odd), sl_law_odd⟩)
    (c_law_odd : PySem.W.codeIn K cd_law_odd "_law_odd" = true)
    (k_law_odd : PySem.W.keepIn K (.ref f_law_odd) = true)
    {od_law_bent an_law_bent : Option Addr} {sl_law_bent : Array (Option Value)} {oc_law_bent kV_law_bent dc_law_bent pm_law_bent cd_law_bent ct_law_bent : Value} {f_law_bent : Addr}
    (a_law_bent : PySem.W.nsIn K mainGlobals "_law_bent" = some (some (.ref f_law_bent)))
    (l_law_bent : K.lookup f_law_bent = some ⟨oc_law_bent, od_law_bent, .func (PySem.W.fnOf "_law_bent" "_law_bent" (defArgs s_law_bent) (defBody s_law_bent) (defScope s_law_bent) .none kV_law_bent dc_law_bent pm_law_bent an_law_bent cd_law_bent ct_law_bent), sl_law_bent⟩)
    (c_law_bent : PySem.W.codeIn K cd_law_bent "_law_bent" = true)
    (k_law_bent : PySem.W.keepIn K (.ref f_law_bent) = true)
    {od_law_int an_law_int : Option Addr} {sl_law_int : Array (Option Value)} {oc_law_int kV_law_int dc_law_int pm_law_int cd_law_int ct_law_int : Value} {f_law_int : Addr}
    (a_law_int : PySem.W.nsIn K mainGlobals "_law_int" = some (some (.ref f_law_int)))
    (l_law_int : K.lookup f_law_int = some ⟨oc_law_int, od_law_int, .func (PySem.W.fnOf "_law_int" "_law_int" (defArgs s_law_int) (defBody s_law_int) (defScope s_law_int) .none kV_law_int dc_law_int pm_law_int an_law_int cd_law_int ct_law_int), sl_law_int⟩)
    (c_law_int : PySem.W.codeIn K cd_law_int "_law_int" = true)
    (k_law_int : PySem.W.keepIn K (.ref f_law_int) = true)
    {od_law_fresh an_law_fresh : Option Addr} {sl_law_fresh : Array (Option Value)} {oc_law_fresh kV_law_fresh dc_law_fresh pm_law_fresh cd_law_fresh ct_law_fresh : Value} {f_law_fresh : Addr}
    (a_law_fresh : PySem.W.nsIn K mainGlobals "_law_fresh" = some (some (.ref f_law_fresh)))
    (l_law_fresh : K.lookup f_law_fresh = some ⟨oc_law_fresh, od_law_fresh, .func (PySem.W.fnOf "_law_fresh" "_law_fresh" (defArgs s_law_fresh) (defBody s_law_fresh) (defScope s_law_fresh) .none kV_law_fresh dc_law_fresh pm_law_fresh an_law_fresh cd_law_fresh ct_law_fresh), sl_law_fresh⟩)
    (c_law_fresh : PySem.W.codeIn K cd_law_fresh "_law_fresh" = true)
    (k_law_fresh : PySem.W.keepIn K (.ref f_law_fresh) = true)
    {od_law_next an_law_next : Option Addr} {sl_law_next : Array (Option Value)} {oc_law_next kV_law_next dc_law_next pm_law_next cd_law_next ct_law_next : Value} {f_law_next : Addr}
    (a_law_next : PySem.W.nsIn K mainGlobals "_law_next" = some (some (.ref f_law_next)))
    (l_law_next : K.lookup f_law_next = some ⟨oc_law_next, od_law_next, .func (PySem.W.fnOf "_law_next" "_law_next" (defArgs s_law_next) (defBody s_law_next) (defScope s_law_next) .none kV_law_next dc_law_next pm_law_next an_law_next cd_law_next ct_law_next), sl_law_next⟩)
    (c_law_next : PySem.W.codeIn K cd_law_next "_law_next" = true)
    (k_law_next : PySem.W.keepIn K (.ref f_law_next) = true)
    {od_law_step an_law_step : Option Addr} {sl_law_step : Array (Option Value)} {oc_law_step kV_law_step dc_law_step pm_law_step cd_law_step ct_law_step : Value} {f_law_step : Addr}
    (a_law_step : PySem.W.nsIn K mainGlobals "_law_step" = some (some (.ref f_law_step)))
    (l_law_step : K.lookup f_law_step = some ⟨oc_law_step, od_law_step, .func (PySem.W.fnOf "_law_step" "_law_step" (defArgs s_law_step) (defBody s_law_step) (defScope s_law_step) .none kV_law_step dc_law_step pm_law_step an_law_step cd_law_step ct_law_step), sl_law_step⟩)
    (c_law_step : PySem.W.codeIn K cd_law_step "_law_step" = true)
    (k_law_step : PySem.W.keepIn K (.ref f_law_step) = true)
    {od_law_woven an_law_woven : Option Addr} {sl_law_woven : Array (Option Value)} {oc_law_woven kV_law_woven dc_law_woven pm_law_woven cd_law_woven ct_law_woven : Value} {f_law_woven : Addr}
    (a_law_woven : PySem.W.nsIn K mainGlobals "_law_woven" = some (some (.ref f_law_woven)))
    (l_law_woven : K.lookup f_law_woven = some ⟨oc_law_woven, od_law_woven, .func (PySem.W.fnOf "_law_woven" "_law_woven" (defArgs s_law_woven) (defBody s_law_woven) (defScope s_law_woven) .none kV_law_woven dc_law_woven pm_law_woven an_law_woven cd_law_woven ct_law_woven), sl_law_woven⟩)
    (c_law_woven : PySem.W.codeIn K cd_law_woven "_law_woven" = true)
    (k_law_woven : PySem.W.keepIn K (.ref f_law_woven) = true)
    {od_law_weaving an_law_weaving : Option Addr} {sl_law_weaving : Array (Option Value)} {oc_law_weaving kV_law_weaving dc_law_weaving pm_law_weaving cd_law_weaving ct_law_weaving : Value} {f_law_weaving : Addr}
    (a_law_weaving : PySem.W.nsIn K mainGlobals "_law_weaving" = some (some (.ref f_law_weaving)))
    (l_law_weaving : K.lookup f_law_weaving = some ⟨oc_law_weaving, od_law_weaving, .func (PySem.W.fnOf "_law_weaving" "_law_weaving" (defArgs s_law_weaving) (defBody s_law_weaving) (defScope s_law_weaving) .none kV_law_weaving dc_law_weaving pm_law_weaving an_law_weaving cd_law_weaving ct_law_weaving), sl_law_weaving⟩)
    (c_law_weaving : PySem.W.codeIn K cd_law_weaving "_law_weaving" = true)
    (k_law_weaving : PySem.W.keepIn K (.ref f_law_weaving) = true)
    {od_law_drawn_row an_law_drawn_row : Option Addr} {sl_law_drawn_row : Array (Option Value)} {oc_law_drawn_row kV_law_drawn_row dc_law_drawn_row pm_law_drawn_row cd_law_drawn_row ct_law_drawn_row : Value} {f_law_drawn_row : Addr}
    (a_law_drawn_row : PySem.W.nsIn K mainGlobals "_law_drawn_row" = some (some (.ref f_law_drawn_row)))
    (l_law_drawn_row : K.lookup f_law_drawn_row = some ⟨oc_law_drawn_row, od_law_drawn_row, .func (PySem.W.fnOf "_law_drawn_row" "_law_drawn_row" (defArgs s_law_drawn_row) (defBody s_law_drawn_row) (defScope s_law_drawn_row) .none kV_law_drawn_row dc_law_drawn_row pm_law_drawn_row an_law_drawn_row cd_law_drawn_row ct_law_drawn_row), sl_law_drawn_row⟩)
    (c_law_drawn_row : PySem.W.codeIn K cd_law_drawn_row "_law_drawn_row" = true)
    (k_law_drawn_row : PySem.W.keepIn K (.ref f_law_drawn_row) = true)
    {od_law_is_weaving an_law_is_weaving : Option Addr} {sl_law_is_weaving : Array (Option Value)} {oc_law_is_weaving kV_law_is_weaving dc_law_is_weaving pm_law_is_weaving cd_law_is_weaving ct_law_is_weaving : Value} {f_law_is_weaving : Addr}
    (a_law_is_weaving : PySem.W.nsIn K mainGlobals "_law_is_weaving" = some (some (.ref f_law_is_weaving)))
    (l_law_is_weaving : K.lookup f_law_is_weaving = some ⟨oc_law_is_weaving, od_law_is_weaving, .func (PySem.W.fnOf "_law_is_weaving" "_law_is_weaving" (defArgs s_law_is_weaving) (defBody s_law_is_weaving) (defScope s_law_is_weaving) .none kV_law_is_weaving dc_law_is_weaving pm_law_is_weaving an_law_is_weaving cd_law_is_weaving ct_law_is_weaving), sl_law_is_weaving⟩)
    (c_law_is_weaving : PySem.W.codeIn K cd_law_is_weaving "_law_is_weaving" = true)
    (k_law_is_weaving : PySem.W.keepIn K (.ref f_law_is_weaving) = true)
    {od_law_leads an_law_leads : Option Addr} {sl_law_leads : Array (Option Value)} {oc_law_leads kV_law_leads dc_law_leads pm_law_leads cd_law_leads ct_law_leads : Value} {f_law_leads : Addr}
    (a_law_leads : PySem.W.nsIn K mainGlobals "_law_leads" = some (some (.ref f_law_leads)))
    (l_law_leads : K.lookup f_law_leads = some ⟨oc_law_leads, od_law_leads, .func (PySem.W.fnOf "_law_leads" "_law_leads" (defArgs s_law_leads) (defBody s_law_leads) (defScope s_law_leads) .none kV_law_leads dc_law_leads pm_law_leads an_law_leads cd_law_leads ct_law_leads), sl_law_leads⟩)
    (c_law_leads : PySem.W.codeIn K cd_law_leads "_law_leads" = true)
    (k_law_leads : PySem.W.keepIn K (.ref f_law_leads) = true)
    {od_law_right an_law_right : Option Addr} {sl_law_right : Array (Option Value)} {oc_law_right kV_law_right dc_law_right pm_law_right cd_law_right ct_law_right : Value} {f_law_right : Addr}
    (a_law_right : PySem.W.nsIn K mainGlobals "_law_right" = some (some (.ref f_law_right)))
    (l_law_right : K.lookup f_law_right = some ⟨oc_law_right, od_law_right, .func (PySem.W.fnOf "_law_right" "_law_right" (defArgs s_law_right) (defBody s_law_right) (defScope s_law_right) .none kV_law_right dc_law_right pm_law_right an_law_right cd_law_right ct_law_right), sl_law_right⟩)
    (c_law_right : PySem.W.codeIn K cd_law_right "_law_right" = true)
    (k_law_right : PySem.W.keepIn K (.ref f_law_right) = true)
    {od_law an_law : Option Addr} {sl_law : Array (Option Value)} {oc_law kV_law dc_law pm_law cd_law ct_law : Value} {f_law : Addr}
    (a_law : PySem.W.nsIn K mainGlobals "law" = some (some (.ref f_law)))
    (l_law : K.lookup f_law = some ⟨oc_law, od_law, .func (PySem.W.fnOf "law" "law" (defArgs s_law) (defBody s_law) (defScope s_law) .none kV_law dc_law pm_law an_law cd_law ct_law), sl_law⟩)
    (c_law : PySem.W.codeIn K cd_law "law" = true)
    (k_law : PySem.W.keepIn K (.ref f_law) = true)
    {od_Levels_init an_Levels_init : Option Addr} {sl_Levels_init : Array (Option Value)} {oc_Levels_init kV_Levels_init dc_Levels_init pm_Levels_init cd_Levels_init ct_Levels_init : Value} {f_Levels_init : Addr}
    (a_Levels_init : PySem.W.findIn K (.ref C) "__init__" = some (some (.ref f_Levels_init)))
    (l_Levels_init : K.lookup f_Levels_init = some ⟨oc_Levels_init, od_Levels_init, .func (PySem.W.fnOf "__init__" "Levels.__init__" (defArgs s_Levels_init) (defBody s_Levels_init) (defScope s_Levels_init) .none kV_Levels_init dc_Levels_init pm_Levels_init an_Levels_init cd_Levels_init ct_Levels_init), sl_Levels_init⟩)
    (c_Levels_init : PySem.W.codeIn K cd_Levels_init "Levels.__init__" = true)
    (k_Levels_init : PySem.W.keepIn K (.ref f_Levels_init) = true)
    (i_Levels_init : PySem.W.isFn K (.ref f_Levels_init) = true)
    {od_Levels_next an_Levels_next : Option Addr} {sl_Levels_next : Array (Option Value)} {oc_Levels_next kV_Levels_next dc_Levels_next pm_Levels_next cd_Levels_next ct_Levels_next : Value} {f_Levels_next : Addr}
    (a_Levels_next : PySem.W.findIn K (.ref C) "next" = some (some (.ref f_Levels_next)))
    (l_Levels_next : K.lookup f_Levels_next = some ⟨oc_Levels_next, od_Levels_next, .func (PySem.W.fnOf "next" "Levels.next" (defArgs s_Levels_next) (defBody s_Levels_next) (defScope s_Levels_next) .none kV_Levels_next dc_Levels_next pm_Levels_next an_Levels_next cd_Levels_next ct_Levels_next), sl_Levels_next⟩)
    (c_Levels_next : PySem.W.codeIn K cd_Levels_next "Levels.next" = true)
    (k_Levels_next : PySem.W.keepIn K (.ref f_Levels_next) = true)
    (i_Levels_next : PySem.W.isFn K (.ref f_Levels_next) = true)
    {od_Levels_view_from an_Levels_view_from : Option Addr} {sl_Levels_view_from : Array (Option Value)} {oc_Levels_view_from kV_Levels_view_from dc_Levels_view_from pm_Levels_view_from cd_Levels_view_from ct_Levels_view_from : Value} {f_Levels_view_from : Addr}
    (a_Levels_view_from : PySem.W.findIn K (.ref C) "view_from" = some (some (.ref f_Levels_view_from)))
    (l_Levels_view_from : K.lookup f_Levels_view_from = some ⟨oc_Levels_view_from, od_Levels_view_from, .func (PySem.W.fnOf "view_from" "Levels.view_from" (defArgs s_Levels_view_from) (defBody s_Levels_view_from) (defScope s_Levels_view_from) .none kV_Levels_view_from dc_Levels_view_from pm_Levels_view_from an_Levels_view_from cd_Levels_view_from ct_Levels_view_from), sl_Levels_view_from⟩)
    (c_Levels_view_from : PySem.W.codeIn K cd_Levels_view_from "Levels.view_from" = true)
    (k_Levels_view_from : PySem.W.keepIn K (.ref f_Levels_view_from) = true)
    (i_Levels_view_from : PySem.W.isFn K (.ref f_Levels_view_from) = true)
    {od_Levels_step an_Levels_step : Option Addr} {sl_Levels_step : Array (Option Value)} {oc_Levels_step kV_Levels_step dc_Levels_step pm_Levels_step cd_Levels_step ct_Levels_step : Value} {f_Levels_step : Addr}
    (a_Levels_step : PySem.W.findIn K (.ref C) "step" = some (some (.ref f_Levels_step)))
    (l_Levels_step : K.lookup f_Levels_step = some ⟨oc_Levels_step, od_Levels_step, .func (PySem.W.fnOf "step" "Levels.step" (defArgs s_Levels_step) (defBody s_Levels_step) (defScope s_Levels_step) .none kV_Levels_step dc_Levels_step pm_Levels_step an_Levels_step cd_Levels_step ct_Levels_step), sl_Levels_step⟩)
    (c_Levels_step : PySem.W.codeIn K cd_Levels_step "Levels.step" = true)
    (k_Levels_step : PySem.W.keepIn K (.ref f_Levels_step) = true)
    (i_Levels_step : PySem.W.isFn K (.ref f_Levels_step) = true)
    {od_Levels_weave an_Levels_weave : Option Addr} {sl_Levels_weave : Array (Option Value)} {oc_Levels_weave kV_Levels_weave dc_Levels_weave pm_Levels_weave cd_Levels_weave ct_Levels_weave : Value} {f_Levels_weave : Addr}
    (a_Levels_weave : PySem.W.findIn K (.ref C) "weave" = some (some (.ref f_Levels_weave)))
    (l_Levels_weave : K.lookup f_Levels_weave = some ⟨oc_Levels_weave, od_Levels_weave, .func (PySem.W.fnOf "weave" "Levels.weave" (defArgs s_Levels_weave) (defBody s_Levels_weave) (defScope s_Levels_weave) .none kV_Levels_weave dc_Levels_weave pm_Levels_weave an_Levels_weave cd_Levels_weave ct_Levels_weave), sl_Levels_weave⟩)
    (c_Levels_weave : PySem.W.codeIn K cd_Levels_weave "Levels.weave" = true)
    (k_Levels_weave : PySem.W.keepIn K (.ref f_Levels_weave) = true)
    (i_Levels_weave : PySem.W.isFn K (.ref f_Levels_weave) = true)
    (pgC : PySem.W.plainGet K C Str.empty = true)
    (hdC : PySem.W.hasDictIn K C = true)
    (poC : PySem.W.plainOver K C = true)
    (saC : PySem.W.findIn K (.ref C) "__setattr__" = some (some (.builtin "object.__setattr__")))
    (mkC : PySem.W.makesIn K C = true)
    (kpC : PySem.W.keepIn K (.ref C) = true)
    (np_many : PySem.W.findIn K (.ref C) "many" = some none)
    (np_levels : PySem.W.findIn K (.ref C) "levels" = some none)
    (np_views : PySem.W.findIn K (.ref C) "views" = some none)
    (np_run : PySem.W.findIn K (.ref C) "run" = some none)
    (np_looking : PySem.W.findIn K (.ref C) "looking" = some none)
    (z_isinstance : PySem.W.nsIn K mainGlobals "isinstance" = some none)
    (z_int : PySem.W.nsIn K mainGlobals "int" = some none)
    (z_bool : PySem.W.nsIn K mainGlobals "bool" = some none)
    (z_tuple : PySem.W.nsIn K mainGlobals "tuple" = some none)
    (z_list : PySem.W.nsIn K mainGlobals "list" = some none)
    (z_all : PySem.W.nsIn K mainGlobals "all" = some none)
    (z_any : PySem.W.nsIn K mainGlobals "any" = some none)
    (z_len : PySem.W.nsIn K mainGlobals "len" = some none)
    (z_sum : PySem.W.nsIn K mainGlobals "sum" = some none)
    (z_abs : PySem.W.nsIn K mainGlobals "abs" = some none)
    (z_max : PySem.W.nsIn K mainGlobals "max" = some none)
    (z_min : PySem.W.nsIn K mainGlobals "min" = some none)
    (z_range : PySem.W.nsIn K mainGlobals "range" = some none)
    (z_repr : PySem.W.nsIn K mainGlobals "repr" = some none)
    (z_set : PySem.W.nsIn K mainGlobals "set" = some none)
    (z_sorted : PySem.W.nsIn K mainGlobals "sorted" = some none)
    (z_zip : PySem.W.nsIn K mainGlobals "zip" = some none)
    (z_enumerate : PySem.W.nsIn K mainGlobals "enumerate" = some none)
    (z_str : PySem.W.nsIn K mainGlobals "str" = some none)
    {t_MOST_HANDS : Tok}
    (v_MOST_HANDS : PySem.W.nsIn K mainGlobals "MOST_HANDS" = some (some (.int 5 t_MOST_HANDS)))
    {t_MOST_WEAVING : Tok}
    (v_MOST_WEAVING : PySem.W.nsIn K mainGlobals "MOST_WEAVING" = some (some (.int 3000 t_MOST_WEAVING))) :
    ∃ fd : FuncData, (∀ (s : Shared) (v : Value), BindsTo s fd ⟨[v], []⟩ [("script", v)]) ∧ ∀ base : Heap, K.In base → base.Ns mainGlobals mg → FnOkG l.prog w K mg base CX0 (8 + 1) fa fd ["script"] (spLaw K) := by
  have e := hfa.symm.trans (PySem.W.mg_of X G a_law)
  cases e
  have F_is_whole := fun_mk (st := s_is_whole) l_is_whole c_is_whole k_is_whole
  have b_is_whole := F_is_whole.binds (ps := ["value"]) fun _ _ _ _ _ _ us hl => match us, hl with | [_], _ => rfl
  have F_is_lot := fun_mk (st := s_is_lot) l_is_lot c_is_lot k_is_lot
  have b_is_lot := F_is_lot.binds (ps := ["value"]) fun _ _ _ _ _ _ us hl => match us, hl with | [_], _ => rfl
  have F_is_below := fun_mk (st := s_is_below) l_is_below c_is_below k_is_below
  have b_is_below := F_is_below.binds (ps := ["value", "many"]) fun _ _ _ _ _ _ us hl => match us, hl with | [_, _], _ => rfl
  have F_is_weaving := fun_mk (st := s_is_weaving) l_is_weaving c_is_weaving k_is_weaving
  have b_is_weaving := F_is_weaving.binds (ps := ["value", "many"]) fun _ _ _ _ _ _ us hl => match us, hl with | [_, _], _ => rfl
  have F_lies_in := fun_mk (st := s_lies_in) l_lies_in c_lies_in k_lies_in
  have b_lies_in := F_lies_in.binds (ps := ["lot", "other"]) fun _ _ _ _ _ _ us hl => match us, hl with | [_, _], _ => rfl
  have F_exchanged := fun_mk (st := s_exchanged) l_exchanged c_exchanged k_exchanged
  have b_exchanged := F_exchanged.binds (ps := ["row", "at", "thing"]) fun _ _ _ _ _ _ us hl => match us, hl with | [_, _, _], _ => rfl
  have F_check_many := fun_mk (st := s_check_many) l_check_many c_check_many k_check_many
  have b_check_many := F_check_many.binds (ps := ["many"]) fun _ _ _ _ _ _ us hl => match us, hl with | [_], _ => rfl
  have F_is_at_once := fun_mk (st := s_is_at_once) l_is_at_once c_is_at_once k_is_at_once
  have b_is_at_once := F_is_at_once.binds (ps := ["many", "value"]) fun _ _ _ _ _ _ us hl => match us, hl with | [_, _], _ => rfl
  have F_is_view := fun_mk (st := s_is_view) l_is_view c_is_view k_is_view
  have b_is_view := F_is_view.binds (ps := ["many", "hand", "value"]) fun _ _ _ _ _ _ us hl => match us, hl with | [_, _, _], _ => rfl
  have F_fit := fun_mk (st := s_fit) l_fit c_fit k_fit
  have b_fit := F_fit.binds (ps := ["one", "other"]) fun _ _ _ _ _ _ us hl => match us, hl with | [_, _], _ => rfl
  have F_weaving_to := fun_mk (st := s_weaving_to) l_weaving_to c_weaving_to k_weaving_to
  have b_weaving_to := F_weaving_to.binds (ps := ["many", "row"]) fun _ _ _ _ _ _ us hl => match us, hl with | [_, _], _ => rfl
  have F_weaving_down := fun_mk (st := s_weaving_down) l_weaving_down c_weaving_down k_weaving_down
  have b_weaving_down := F_weaving_down.binds (ps := ["many", "row", "came", "view"]) fun _ _ _ _ _ _ us hl => match us, hl with | [_, _, _, _], _ => rfl
  have F_shows_weaving_to := fun_mk (st := s_shows_weaving_to) l_shows_weaving_to c_shows_weaving_to k_shows_weaving_to
  have b_shows_weaving_to := F_shows_weaving_to.binds (ps := ["many", "row", "value"]) fun _ _ _ _ _ _ us hl => match us, hl with | [_, _, _], _ => rfl
  have F_law_pot := fun_mk (st := s_law_pot) l_law_pot c_law_pot k_law_pot
  have b_law_pot := F_law_pot.binds (ps := ["script", "place"]) fun _ _ _ _ _ _ us hl => match us, hl with | [_, _], _ => rfl
  have F_law_take := fun_mk (st := s_law_take) l_law_take c_law_take k_law_take
  have b_law_take := F_law_take.binds (ps := ["pot", "upto"]) fun _ _ _ _ _ _ us hl => match us, hl with | [_, _], _ => rfl
  have F_law_of := fun_mk (st := s_law_of) l_law_of c_law_of k_law_of
  have b_law_of := F_law_of.binds (ps := ["pot", "some"]) fun _ _ _ _ _ _ us hl => match us, hl with | [_, _], _ => rfl
  have F_law_some := fun_mk (st := s_law_some) l_law_some c_law_some k_law_some
  have b_law_some := F_law_some.binds (ps := ["pot", "pool", "many"]) fun _ _ _ _ _ _ us hl => match us, hl with | [_, _, _], _ => rfl
  have F_law_cells := fun_mk (st := s_law_cells) l_law_cells c_law_cells k_law_cells
  have b_law_cells := F_law_cells.binds (ps := ["script", "limit"]) fun _ _ _ _ _ _ us hl => match us, hl with | [_, _], _ => rfl
  have F_law_odd := fun_mk (st := s_law_odd) l_law_odd c_law_odd k_law_odd
  have b_law_odd := F_law_odd.binds (ps := ["pot"]) fun _ _ _ _ _ _ us hl => match us, hl with | [_], _ => rfl
  have F_law_bent := fun_mk (st := s_law_bent) l_law_bent c_law_bent k_law_bent
  have b_law_bent := F_law_bent.binds (ps := ["pot", "value"]) fun _ _ _ _ _ _ us hl => match us, hl with | [_, _], _ => rfl
  have F_law_int := fun_mk (st := s_law_int) l_law_int c_law_int k_law_int
  have b_law_int := F_law_int.binds (ps := ["value", "low", "high"]) fun _ _ _ _ _ _ us hl => match us, hl with | [_, _, _], _ => rfl
  have F_law_fresh := fun_mk (st := s_law_fresh) l_law_fresh c_law_fresh k_law_fresh
  have b_law_fresh := F_law_fresh.binds (ps := ["many"]) fun _ _ _ _ _ _ us hl => match us, hl with | [_], _ => rfl
  have F_law_next := fun_mk (st := s_law_next) l_law_next c_law_next k_law_next
  have b_law_next := F_law_next.binds (ps := ["stair", "hand"]) fun _ _ _ _ _ _ us hl => match us, hl with | [_, _], _ => rfl
  have F_law_step := fun_mk (st := s_law_step) l_law_step c_law_step k_law_step
  have b_law_step := F_law_step.binds (ps := ["stair", "hand"]) fun _ _ _ _ _ _ us hl => match us, hl with | [_, _], _ => rfl
  have F_law_woven := fun_mk (st := s_law_woven) l_law_woven c_law_woven k_law_woven
  have b_law_woven := F_law_woven.binds (ps := ["stair", "weaving"]) fun _ _ _ _ _ _ us hl => match us, hl with | [_, _], _ => rfl
  have F_law_weaving := fun_mk (st := s_law_weaving) l_law_weaving c_law_weaving k_law_weaving
  have b_law_weaving := F_law_weaving.binds (ps := ["pot", "many", "steps"]) fun _ _ _ _ _ _ us hl => match us, hl with | [_, _, _], _ => rfl
  have F_law_drawn_row := fun_mk (st := s_law_drawn_row) l_law_drawn_row c_law_drawn_row k_law_drawn_row
  have b_law_drawn_row := F_law_drawn_row.binds (ps := ["pot", "many", "is_whole_v"]) fun _ _ _ _ _ _ us hl => match us, hl with | [_, _, _], _ => rfl
  have F_law_is_weaving := fun_mk (st := s_law_is_weaving) l_law_is_weaving c_law_is_weaving k_law_is_weaving
  have b_law_is_weaving := F_law_is_weaving.binds (ps := ["many", "value"]) fun _ _ _ _ _ _ us hl => match us, hl with | [_, _], _ => rfl
  have F_law_leads := fun_mk (st := s_law_leads) l_law_leads c_law_leads k_law_leads
  have b_law_leads := F_law_leads.binds (ps := ["many", "row", "value"]) fun _ _ _ _ _ _ us hl => match us, hl with | [_, _, _], _ => rfl
  have F_law_right := fun_mk (st := s_law_right) l_law_right c_law_right k_law_right
  have b_law_right := F_law_right.binds (ps := ["pot"]) fun _ _ _ _ _ _ us hl => match us, hl with | [_], _ => rfl
  have F_law := fun_mk (st := s_law) l_law c_law k_law
  have b_law := F_law.binds (ps := ["script"]) fun _ _ _ _ _ _ us hl => match us, hl with | [_], _ => rfl
  have F_Levels_init := fun_mk (st := s_Levels_init) l_Levels_init c_Levels_init k_Levels_init
  have b_Levels_init := F_Levels_init.binds (ps := ["self", "many"]) fun _ _ _ _ _ _ us hl => match us, hl with | [_, _], _ => rfl
  have F_Levels_next := fun_mk (st := s_Levels_next) l_Levels_next c_Levels_next k_Levels_next
  have b_Levels_next := F_Levels_next.binds (ps := ["self", "hand"]) fun _ _ _ _ _ _ us hl => match us, hl with | [_, _], _ => rfl
  have F_Levels_view_from := fun_mk (st := s_Levels_view_from) l_Levels_view_from c_Levels_view_from k_Levels_view_from
  have b_Levels_view_from := F_Levels_view_from.binds (ps := ["self", "hand"]) fun _ _ _ _ _ _ us hl => match us, hl with | [_, _], _ => rfl
  have F_Levels_step := fun_mk (st := s_Levels_step) l_Levels_step c_Levels_step k_Levels_step
  have b_Levels_step := F_Levels_step.binds (ps := ["self", "hand"]) fun _ _ _ _ _ _ us hl => match us, hl with | [_, _], _ => rfl
  have F_Levels_weave := fun_mk (st := s_Levels_weave) l_Levels_weave c_Levels_weave k_Levels_weave
  have b_Levels_weave := F_Levels_weave.binds (ps := ["self", "weaving"]) fun _ _ _ _ _ _ us hl => match us, hl with | [_, _], _ => rfl
  refine ⟨PySem.W.fnOf "law" "law" (defArgs s_law) (defBody s_law) (defScope s_law) .none kV_law dc_law pm_law an_law cd_law ct_law, fun s v => .of_eq rfl, fun base _ _ => ?_⟩
  have hC : LC K C := ⟨⟨pgC, hdC, poC, saC⟩, np_many, np_levels, np_views, np_run, np_looking⟩
  have T : RTx mg := ⟨(PySem.W.mg_none_of X G z_isinstance), (PySem.W.mg_none_of X G z_int), (PySem.W.mg_none_of X G z_bool), (PySem.W.mg_none_of X G z_tuple), (PySem.W.mg_none_of X G z_list), (PySem.W.mg_none_of X G z_all), (PySem.W.mg_none_of X G z_any), (PySem.W.mg_none_of X G z_len), (PySem.W.mg_none_of X G z_sum), (PySem.W.mg_none_of X G z_abs), (PySem.W.mg_none_of X G z_max), (PySem.W.mg_none_of X G z_min), (PySem.W.mg_none_of X G z_range), (PySem.W.mg_none_of X G z_repr), (PySem.W.mg_none_of X G z_set), (PySem.W.mg_none_of X G z_sorted), (PySem.W.mg_none_of X G z_zip), (PySem.W.mg_none_of X G z_enumerate), ⟨_, (PySem.W.mg_of X G v_MOST_HANDS)⟩, ⟨_, (PySem.W.mg_of X G v_MOST_WEAVING)⟩⟩
  have LT : LTx mg := ⟨(PySem.W.mg_none_of X G z_len), (PySem.W.mg_none_of X G z_int), (PySem.W.mg_none_of X G z_sum), (PySem.W.mg_none_of X G z_abs), (PySem.W.mg_none_of X G z_list), (PySem.W.mg_none_of X G z_tuple), (PySem.W.mg_none_of X G z_range), (PySem.W.mg_none_of X G z_max), (PySem.W.mg_none_of X G z_min), (PySem.W.mg_none_of X G z_repr), (PySem.W.mg_none_of X G z_all), (PySem.W.mg_none_of X G z_enumerate)⟩
  have G_is_whole : Fd l.prog w K mg base CX0 "is_whole" 1 ["value"] spWhD := ⟨_, _, (PySem.W.mg_of X G a_is_whole), k_is_whole, b_is_whole, ok_is_whole F_is_whole T⟩
  have G_check_many : Fd l.prog w K mg base CX0 "check_many" 2 ["many"] spChkD := ⟨_, _, (PySem.W.mg_of X G a_check_many), k_check_many, b_check_many, ok_check_many F_check_many T G_is_whole⟩
  have G_exchanged : Fd l.prog w K mg base CX0 "exchanged" 1 ["row", "at", "thing"] (spExch K) := ⟨_, _, (PySem.W.mg_of X G a_exchanged), k_exchanged, b_exchanged, ok_exchangedV F_exchanged ⟩
  have G_is_lot : Fd l.prog w K mg base CX0 "is_lot" 2 ["value"] spLotD := ⟨_, _, (PySem.W.mg_of X G a_is_lot), k_is_lot, b_is_lot, ok_is_lot F_is_lot T G_is_whole⟩
  have G_is_view : Fd l.prog w K mg base CX0 "is_view" 3 ["many", "hand", "value"] spViewD := ⟨_, _, (PySem.W.mg_of X G a_is_view), k_is_view, b_is_view, ok_is_view F_is_view G_is_lot⟩
  have G_lies_in : Fd l.prog w K mg base CX0 "lies_in" 1 ["lot", "other"] spLiesD := ⟨_, _, (PySem.W.mg_of X G a_lies_in), k_lies_in, b_lies_in, ok_lies_in F_lies_in T⟩
  have G_fit : Fd l.prog w K mg base CX0 "fit" 2 ["one", "other"] spFitD := ⟨_, _, (PySem.W.mg_of X G a_fit), k_fit, b_fit, ok_fit F_fit G_lies_in⟩
  have G_is_at_once : Fd l.prog w K mg base CX0 "is_at_once" 4 ["many", "value"] spAtD := ⟨_, _, (PySem.W.mg_of X G a_is_at_once), k_is_at_once, b_is_at_once, ok_is_at_once F_is_at_once T G_check_many G_is_view G_fit⟩
  have G_is_belowD : Fd l.prog w K mg base CX0 "is_below" 2 ["value", "many"] spBelD := ⟨_, _, (PySem.W.mg_of X G a_is_below), k_is_below, b_is_below, ok_is_belowD F_is_below T G_is_whole⟩
  have G_is_below : Fd l.prog w K mg base CX0 "is_below" 2 ["value", "many"] spBelow := ⟨_, _, (PySem.W.mg_of X G a_is_below), k_is_below, b_is_below, ok_is_below F_is_below T G_is_whole⟩
  have G_is_weavingB : Fd l.prog w K mg base CX0 "is_weaving" 3 ["value", "many"] spWvgB := ⟨_, _, (PySem.W.mg_of X G a_is_weaving), k_is_weaving, b_is_weaving, ok_is_weavingB F_is_weaving T G_is_belowD⟩
  have G_is_weaving : Fd l.prog w K mg base CX0 "is_weaving" 3 ["value", "many"] spWeavN := ⟨_, _, (PySem.W.mg_of X G a_is_weaving), k_is_weaving, b_is_weaving, ok_is_weaving F_is_weaving T G_is_below⟩
  have M_Levels : MkC l.prog w K mg base "Levels" C 3 ["self", "many"] (spLInit K C) := ⟨(PySem.W.mg_of X G aCP), _, _, ⟨mkC, a_Levels_init, i_Levels_init, kpC⟩, b_Levels_init, ok_Levels_init F_Levels_init hC G_check_many⟩
  have M_next : Md l.prog w K mg base CX0 C "next" 3 ["self", "hand"] (spLNext K C) := ⟨_, _, ⟨a_Levels_next, i_Levels_next, k_Levels_next⟩, b_Levels_next, ok_Levels_next F_Levels_next hC G_is_below⟩
  have M_view_from : Md l.prog w K mg base CX0 C "view_from" 1 ["self", "hand"] (spLView K C) := ⟨_, _, ⟨a_Levels_view_from, i_Levels_view_from, k_Levels_view_from⟩, b_Levels_view_from, ok_Levels_view_from F_Levels_view_from T hC⟩
  have M_step : Md l.prog w K mg base CX0 C "step" 4 ["self", "hand"] (spLStep K C) := ⟨_, _, ⟨a_Levels_step, i_Levels_step, k_Levels_step⟩, b_Levels_step, ok_Levels_step F_Levels_step hC G_exchanged M_next M_view_from⟩
  have M_weave : Md l.prog w K mg base CX0 C "weave" 5 ["self", "weaving"] (spWeaveN K C) := ⟨_, _, ⟨a_Levels_weave, i_Levels_weave, k_Levels_weave⟩, b_Levels_weave, ok_Levels_weave F_Levels_weave T hC G_is_weaving M_next M_step⟩
  have G_weaving_down : Fd l.prog w K mg base CX0 "weaving_down" 1 ["many", "row", "came", "view"] spWDown := ⟨_, _, (PySem.W.mg_of X G a_weaving_down), k_weaving_down, b_weaving_down, ok_weaving_down F_weaving_down T⟩
  have G_law_take : Fd l.prog w K mg base CX0 "_law_take" 1 ["pot", "upto"] spTake := ⟨_, _, (PySem.W.mg_of X G a_law_take), k_law_take, b_law_take, ok_law_take F_law_take LT⟩
  have G_law_of : Fd l.prog w K mg base CX0 "_law_of" 2 ["pot", "some"] (spOf K) := ⟨_, _, (PySem.W.mg_of X G a_law_of), k_law_of, b_law_of, ok_law_of F_law_of LT G_law_take⟩
  have G_law_some : Fd l.prog w K mg base CX0 "_law_some" 2 ["pot", "pool", "many"] (spSome K) := ⟨_, _, (PySem.W.mg_of X G a_law_some), k_law_some, b_law_some, ok_law_some F_law_some LT G_law_take⟩
  have G_law_cells : Fd l.prog w K mg base CX0 "_law_cells" 1 ["script", "limit"] (spCells K) := ⟨_, _, (PySem.W.mg_of X G a_law_cells), k_law_cells, b_law_cells, ok_law_cells F_law_cells LT⟩
  have G_law_pot : Fd l.prog w K mg base CX0 "_law_pot" 1 ["script", "place"] (spPot K) := ⟨_, _, (PySem.W.mg_of X G a_law_pot), k_law_pot, b_law_pot, ok_law_pot F_law_pot LT⟩
  have G_law_odd : Fd l.prog w K mg base CX0 "_law_odd" 3 ["pot"] spOdd := ⟨_, _, (PySem.W.mg_of X G a_law_odd), k_law_odd, b_law_odd, ok_law_odd F_law_odd T G_law_of⟩
  have G_law_drawn_row : Fd l.prog w K mg base CX0 "_law_drawn_row" 3 ["pot", "many", "is_whole_v"] spDRow := ⟨_, _, (PySem.W.mg_of X G a_law_drawn_row), k_law_drawn_row, b_law_drawn_row, ok_law_drawn_row F_law_drawn_row T G_law_take G_law_some⟩
  have G_law_int : Fd l.prog w K mg base CX0 "_law_int" 1 ["value", "low", "high"] spIntD := ⟨_, _, (PySem.W.mg_of X G a_law_int), k_law_int, b_law_int, ok_law_int F_law_int T⟩
  have G_law_bent : Fd l.prog w K mg base CX0 "_law_bent" 7 ["pot", "value"] (spBent 4) := all_law_bent F_law_bent b_law_bent (PySem.W.mg_of X G a_law_bent) T (PySem.W.mg_none_of X G z_str) G_law_take G_law_of G_law_odd 4
  have G_weaving_to : Fd l.prog w K mg base CX0 "weaving_to" 5 ["many", "row"] spWTo := ⟨_, _, (PySem.W.mg_of X G a_weaving_to), k_weaving_to, b_weaving_to, ok_weaving_to F_weaving_to T G_is_at_once G_weaving_down⟩
  have K_weaving_to : FdKw l.prog w K mg base CX0 "weaving_to" 5 ["many", "row"] ["row", "many"] kwW kwW spWTo := ⟨_, _, (PySem.W.mg_of X G a_weaving_to), k_weaving_to, ⟨fun s us ws _ h1 h2 => match us, ws, h1, h2 with | [], [_, _], _, _ => .of_eq rfl, fun _ r2 => kwW_rel r2⟩, ok_weaving_to F_weaving_to T G_is_at_once G_weaving_down⟩
  have G_shows_weaving_to : Fd l.prog w K mg base CX0 "shows_weaving_to" 6 ["many", "row", "value"] spShowsW := ⟨_, _, (PySem.W.mg_of X G a_shows_weaving_to), k_shows_weaving_to, b_shows_weaving_to, ok_shows_weaving_to F_shows_weaving_to hC G_is_at_once G_is_weavingB M_Levels M_weave⟩
  have K_shows : FdKw l.prog w K mg base CX0 "shows_weaving_to" 6 ["many", "row", "value"] ["value", "row", "many"] kwV kwV spShowsW := ⟨_, _, (PySem.W.mg_of X G a_shows_weaving_to), k_shows_weaving_to, ⟨fun s us ws _ h1 h2 => match us, ws, h1, h2 with | [], [_, _, _], _, _ => .of_eq rfl, fun _ r2 => kwV_rel r2⟩, ok_shows_weaving_to F_shows_weaving_to hC G_is_at_once G_is_weavingB M_Levels M_weave⟩
  have G_law_fresh : Fd l.prog w K mg base CX0 "_law_fresh" 1 ["many"] spSFresh := ⟨_, _, (PySem.W.mg_of X G a_law_fresh), k_law_fresh, b_law_fresh, ok_law_fresh F_law_fresh ⟩
  have G_law_next : Fd l.prog w K mg base CX0 "_law_next" 1 ["stair", "hand"] spSNext := ⟨_, _, (PySem.W.mg_of X G a_law_next), k_law_next, b_law_next, ok_law_next F_law_next ⟩
  have G_law_step : Fd l.prog w K mg base CX0 "_law_step" 2 ["stair", "hand"] (spSStep K) := ⟨_, _, (PySem.W.mg_of X G a_law_step), k_law_step, b_law_step, ok_law_step F_law_step T G_law_next⟩
  have G_law_woven : Fd l.prog w K mg base CX0 "_law_woven" 3 ["stair", "weaving"] (spSWovN K) := ⟨_, _, (PySem.W.mg_of X G a_law_woven), k_law_woven, b_law_woven, ok_law_woven F_law_woven T G_law_next G_law_step⟩
  have G_law_weaving : Fd l.prog w K mg base CX0 "_law_weaving" 3 ["pot", "many", "steps"] spWvg9 := ⟨_, _, (PySem.W.mg_of X G a_law_weaving), k_law_weaving, b_law_weaving, ok_law_weaving F_law_weaving LT G_law_take G_law_of⟩
  have G_law_is_weaving : Fd l.prog w K mg base CX0 "_law_is_weaving" 2 ["many", "value"] spLWvg := ⟨_, _, (PySem.W.mg_of X G a_law_is_weaving), k_law_is_weaving, b_law_is_weaving, ok_law_is_weaving F_law_is_weaving T G_law_int⟩
  have G_law_leads : FdG l.prog w K mg base CX0 "_law_leads" 4 ["many", "row", "value"] spLeads := ⟨_, _, (PySem.W.mg_of X G a_law_leads), k_law_leads, b_law_leads, ok_law_leads F_law_leads T G_law_is_weaving G_law_fresh G_law_woven⟩
  have G_law_right : FdG l.prog w K mg base CX0 "_law_right" 8 ["pot"] spRight := ⟨_, _, (PySem.W.mg_of X G a_law_right), k_law_right, b_law_right, ok_law_right F_law_right T hC G_law_take G_law_drawn_row G_law_odd G_law_bent G_law_weaving G_weaving_to K_weaving_to G_shows_weaving_to K_shows G_law_leads M_Levels M_weave⟩
  exact ok_law F_law LT G_law_cells G_law_pot G_law_right
theorem walk {l : PySem.W.OpenLaw} {q : Program} {loose : List Str} {XP : (Str → Option Value) → Heap → Prop} {YP : World → Heap → Prop} {d : DefRec} {K : Params → PySem.W.Frag} (hn : l.most = some 63) (hdf : d.params.defaults = [])
    (hY : ∀ (w : World) (h : Heap), YP w h → (K w.params).In h)
    (F : ∀ (w : World) (mg : Str → Option Value) (fa : Addr) (h : Heap), (K w.params).In h → h.Ns mainGlobals mg → mg d.name = some (.ref fa) →
      ∃ fd : FuncData, (∀ (s : Shared) (u : Value), BindsTo s fd ⟨[u], []⟩ [("script", u)]) ∧ ∀ base : Heap, (K w.params).In base → base.Ns mainGlobals mg → FnOkG l.prog w (K w.params) mg base CX0 (8 + 1) fa fd ["script"] (spLaw (K w.params))) :
    PySem.W.WalkO q loose XP YP l.row.toRowW d [] (fun f vs => PySem.call f vs) :=
  L2.walk_ofG (n := 63) (k := 8 + 1) (x := "script") (CX := fun _ => CX0) (sp := fun w => spLaw (K w.params)) hn (by decide) hdf ⟨rfl, by decide, by decide⟩ hY F (fun _ _ a ns hl _ hS => ⟨a, ns, rfl, hS, hl, fun _ => rfl⟩) fun _ _ _ _ _ z => z
end Fp
open PySem PySem.W PyProof.Rows
set_option maxRecDepth 100000 in
set_option maxHeartbeats 0 in
theorem PySem.Challenge.cw_fewplaymany_k28_whole_a_weaving_to_each_holds : PySem.Challenge.rw_fewplaymany_k28_whole_a_weaving_to_each.Holds := by
  w_on; o_law; k_head; (case hw => w_witness2)
  k_fill
  refine Fp.walk (l := PySem.Challenge.rw_fewplaymany_k28_whole_a_weaving_to_each) rfl rfl (fun w h Y => PySem.W.kIn_of Y) ?F
  case F =>
    intro w mg fa h KX G hmg
    refine' Fp.all_mk KX G hmg ?aCP ?a_is_whole ?l_is_whole ?c_is_whole ?k_is_whole ?a_is_lot ?l_is_lot ?c_is_lot ?k_is_lot ?a_is_below ?l_is_below ?c_is_below ?k_is_below ?a_is_weaving ?l_is_weaving ?c_is_weaving ?k_is_weaving ?a_lies_in ?l_lies_in ?c_lies_in ?k_lies_in ?a_exchanged ?l_exchanged ?c_exchanged ?k_exchanged ?a_check_many ?l_check_many ?c_check_many ?k_check_many ?a_is_at_once ?l_is_at_once ?c_is_at_once ?k_is_at_once ?a_is_view ?l_is_view ?c_is_view ?k_is_view ?a_fit ?l_fit ?c_fit ?k_fit ?a_weaving_to ?l_weaving_to ?c_weaving_to ?k_weaving_to ?a_weaving_down ?l_weaving_down ?c_weaving_down ?k_weaving_down ?a_shows_weaving_to ?l_shows_weaving_to ?c_shows_weaving_to ?k_shows_weaving_to ?a_law_pot ?l_law_pot ?c_law_pot ?k_law_pot ?a_law_take ?l_law_take ?c_law_take ?k_law_take ?a_law_of ?l_law_of ?c_law_of ?k_law_of ?a_law_some ?l_law_some ?c_law_some ?k_law_some ?a_law_cells ?l_law_cells ?c_law_cells ?k_law_cells ?a_law_odd ?l_law_odd ?c_law_odd ?k_law_odd ?a_law_bent ?l_law_bent ?c_law_bent ?k_law_bent ?a_law_int ?l_law_int ?c_law_int ?k_law_int ?a_law_fresh ?l_law_fresh ?c_law_fresh ?k_law_fresh ?a_law_next ?l_law_next ?c_law_next ?k_law_next ?a_law_step ?l_law_step ?c_law_step ?k_law_step ?a_law_woven ?l_law_woven ?c_law_woven ?k_law_woven ?a_law_weaving ?l_law_weaving ?c_law_weaving ?k_law_weaving ?a_law_drawn_row ?l_law_drawn_row ?c_law_drawn_row ?k_law_drawn_row ?a_law_is_weaving ?l_law_is_weaving ?c_law_is_weaving ?k_law_is_weaving ?a_law_leads ?l_law_leads ?c_law_leads ?k_law_leads ?a_law_right ?l_law_right ?c_law_right ?k_law_right ?a_law ?l_law ?c_law ?k_law ?a_Levels_init ?l_Levels_init ?c_Levels_init ?k_Levels_init ?i_Levels_init ?a_Levels_next ?l_Levels_next ?c_Levels_next ?k_Levels_next ?i_Levels_next ?a_Levels_view_from ?l_Levels_view_from ?c_Levels_view_from ?k_Levels_view_from ?i_Levels_view_from ?a_Levels_step ?l_Levels_step ?c_Levels_step ?k_Levels_step ?i_Levels_step ?a_Levels_weave ?l_Levels_weave ?c_Levels_weave ?k_Levels_weave ?i_Levels_weave ?pgC ?hdC ?poC ?saC ?mkC ?kpC ?np_many ?np_levels ?np_views ?np_run ?np_looking ?z_isinstance ?z_int ?z_bool ?z_tuple ?z_list ?z_all ?z_any ?z_len ?z_sum ?z_abs ?z_max ?z_min ?z_range ?z_repr ?z_set ?z_sorted ?z_zip ?z_enumerate ?z_str ?v_MOST_HANDS ?v_MOST_WEAVING
    (case aCP => k_is)
    (case a_is_whole => k_is)
    (case l_is_whole => k_is)
    (case c_is_whole => k_is)
    (case k_is_whole => k_is)
    (case a_is_lot => k_is)
    (case l_is_lot => k_is)
    (case c_is_lot => k_is)
    (case k_is_lot => k_is)
    (case a_is_below => k_is)
    (case l_is_below => k_is)
    (case c_is_below => k_is)
    (case k_is_below => k_is)
    (case a_is_weaving => k_is)
    (case l_is_weaving => k_is)
    (case c_is_weaving => k_is)
    (case k_is_weaving => k_is)
    (case a_lies_in => k_is)
    (case l_lies_in => k_is)
    (case c_lies_in => k_is)
    (case k_lies_in => k_is)
    (case a_exchanged => k_is)
    (case l_exchanged => k_is)
    (case c_exchanged => k_is)
    (case k_exchanged => k_is)
    (case a_check_many => k_is)
    (case l_check_many => k_is)
    (case c_check_many => k_is)
    (case k_check_many => k_is)
    (case a_is_at_once => k_is)
    (case l_is_at_once => k_is)
    (case c_is_at_once => k_is)
    (case k_is_at_once => k_is)
    (case a_is_view => k_is)
    (case l_is_view => k_is)
    (case c_is_view => k_is)
    (case k_is_view => k_is)
    (case a_fit => k_is)
    (case l_fit => k_is)
    (case c_fit => k_is)
    (case k_fit => k_is)
    (case a_weaving_to => k_is)
    (case l_weaving_to => k_is)
    (case c_weaving_to => k_is)
    (case k_weaving_to => k_is)
    (case a_weaving_down => k_is)
    (case l_weaving_down => k_is)
    (case c_weaving_down => k_is)
    (case k_weaving_down => k_is)
    (case a_shows_weaving_to => k_is)
    (case l_shows_weaving_to => k_is)
    (case c_shows_weaving_to => k_is)
    (case k_shows_weaving_to => k_is)
    (case a_law_pot => k_is)
    (case l_law_pot => k_is)
    (case c_law_pot => k_is)
    (case k_law_pot => k_is)
    (case a_law_take => k_is)
    (case l_law_take => k_is)
    (case c_law_take => k_is)
    (case k_law_take => k_is)
    (case a_law_of => k_is)
    (case l_law_of => k_is)
    (case c_law_of => k_is)
    (case k_law_of => k_is)
    (case a_law_some => k_is)
    (case l_law_some => k_is)
    (case c_law_some => k_is)
    (case k_law_some => k_is)
    (case a_law_cells => k_is)
    (case l_law_cells => k_is)
    (case c_law_cells => k_is)
    (case k_law_cells => k_is)
    (case a_law_odd => k_is)
    (case l_law_odd => k_is)
    (case c_law_odd => k_is)
    (case k_law_odd => k_is)
    (case a_law_bent => k_is)
    (case l_law_bent => k_is)
    (case c_law_bent => k_is)
    (case k_law_bent => k_is)
    (case a_law_int => k_is)
    (case l_law_int => k_is)
    (case c_law_int => k_is)
    (case k_law_int => k_is)
    (case a_law_fresh => k_is)
    (case l_law_fresh => k_is)
    (case c_law_fresh => k_is)
    (case k_law_fresh => k_is)
    (case a_law_next => k_is)
    (case l_law_next => k_is)
    (case c_law_next => k_is)
    (case k_law_next => k_is)
    (case a_law_step => k_is)
    (case l_law_step => k_is)
    (case c_law_step => k_is)
    (case k_law_step => k_is)
    (case a_law_woven => k_is)
    (case l_law_woven => k_is)
    (case c_law_woven => k_is)
    (case k_law_woven => k_is)
    (case a_law_weaving => k_is)
    (case l_law_weaving => k_is)
    (case c_law_weaving => k_is)
    (case k_law_weaving => k_is)
    (case a_law_drawn_row => k_is)
    (case l_law_drawn_row => k_is)
    (case c_law_drawn_row => k_is)
    (case k_law_drawn_row => k_is)
    (case a_law_is_weaving => k_is)
    (case l_law_is_weaving => k_is)
    (case c_law_is_weaving => k_is)
    (case k_law_is_weaving => k_is)
    (case a_law_leads => k_is)
    (case l_law_leads => k_is)
    (case c_law_leads => k_is)
    (case k_law_leads => k_is)
    (case a_law_right => k_is)
    (case l_law_right => k_is)
    (case c_law_right => k_is)
    (case k_law_right => k_is)
    (case a_law => k_is)
    (case l_law => k_is)
    (case c_law => k_is)
    (case k_law => k_is)
    (case a_Levels_init => k_is)
    (case l_Levels_init => k_is)
    (case c_Levels_init => k_is)
    (case k_Levels_init => k_is)
    (case i_Levels_init => k_is)
    (case a_Levels_next => k_is)
    (case l_Levels_next => k_is)
    (case c_Levels_next => k_is)
    (case k_Levels_next => k_is)
    (case i_Levels_next => k_is)
    (case a_Levels_view_from => k_is)
    (case l_Levels_view_from => k_is)
    (case c_Levels_view_from => k_is)
    (case k_Levels_view_from => k_is)
    (case i_Levels_view_from => k_is)
    (case a_Levels_step => k_is)
    (case l_Levels_step => k_is)
    (case c_Levels_step => k_is)
    (case k_Levels_step => k_is)
    (case i_Levels_step => k_is)
    (case a_Levels_weave => k_is)
    (case l_Levels_weave => k_is)
    (case c_Levels_weave => k_is)
    (case k_Levels_weave => k_is)
    (case i_Levels_weave => k_is)
    (case pgC => k_is)
    (case hdC => k_is)
    (case poC => k_is)
    (case saC => k_is)
    (case mkC => k_is)
    (case kpC => k_is)
    (case np_many => k_is)
    (case np_levels => k_is)
    (case np_views => k_is)
    (case np_run => k_is)
    (case np_looking => k_is)
    (case z_isinstance => k_is)
    (case z_int => k_is)
    (case z_bool => k_is)
    (case z_tuple => k_is)
    (case z_list => k_is)
    (case z_all => k_is)
    (case z_any => k_is)
    (case z_len => k_is)
    (case z_sum => k_is)
    (case z_abs => k_is)
    (case z_max => k_is)
    (case z_min => k_is)
    (case z_range => k_is)
    (case z_repr => k_is)
    (case z_set => k_is)
    (case z_sorted => k_is)
    (case z_zip => k_is)
    (case z_enumerate => k_is)
    (case z_str => k_is)
    (case v_MOST_HANDS => k_is)
    (case v_MOST_WEAVING => k_is)
