import PyProof.Rows.All
import HandS.ForMost
import Wide.All
import OpenK.AllK
import Wide.FinOn
import HandS.ForExc
import HandS.Walk
import HandS.Conv
import HandS.Star
import HandS.CallLocal
import HandS.Codes
import HandS.More
import HandS.OwnEq
import HandS.Wide
import HandS.Flow
import KE.GoesEnum
import PyProof.ListStr
import PyProof.StrBlock2
import KE.IntTextLaws
import PyProof.InstNe
import HandS.MakeKwOnly
import HandS.IsInst
import HandS.Ends
import PyProof.ReprRoads
import KE.GoesMore
import HandS.TupMul
import HandS.TupAny
import HandS.Strs
import HandS.SetIn
import HandS.SetFor
import HandS.SortRule
import HandS.Style
import HandS.Deep
import HandS.Iter
import KE.KRevSl
import HandS.Zip
import HandS.Defaults
import PyProof.P3In
import PySem.Challenge.RW_fewplaymany_k63_whole_fewer_said_more_br
import HandS.NamedTupSort
import HandS.TupSets
import KE.SortKeyHeap
import KE.SortData
import HandS.Comp
import PyProof.AutoSeq1
import PyProof.TupleOfSeq
import PyProof.Rows.StrSplitJoin
set_option Elab.async false
set_option linter.all false
set_option maxRecDepth 100000
set_option maxHeartbeats 4000000
/-! small words that enter a reading -/
namespace Fp
open PySem PySem.Spec PyProof.Rows L2
theorem g_set {i : Nat} {v : V} {σ : L2.St} {H : Hp} {k : L2.St → Hp → Prop} (h : k (σ.set i (some v)) H) : gName i v σ H k := h
theorem yes_in {σ : L2.St} {H : Hp} {A B : Hp → Prop} (h : A H) : tYes σ H fun b H3 => if b = true then A H3 else B H3 := by
  show if true = true then A H else B H
  exact iteT h
theorem nx_in {f b c : L2.St → Hp → Prop} {r : VK} {σ : L2.St} {H : Hp} (h : f σ H) : ({ nx := f, rt := r, bk := b, ct := c } : Ends).nx σ H := h
theorem next_in {D : Ends} {σ : L2.St} {H : Hp} (h : D.nx σ H) : tNext D σ H := h
theorem seq_in {a b : TS} {D : Ends} {σ : L2.St} {H : Hp} (h : a { nx := b D, rt := D.rt, bk := D.bk, ct := D.ct } σ H) : tSeq a b D σ H := h
theorem asg_in {te : TE} {g : TG} {D : Ends} {σ : L2.St} {H : Hp} (h : te σ H fun v H1 => g v σ H1 fun σ2 H2 => D.nx σ2 H2) : tAsg te g D σ H := h
theorem op_in {r : R2} {ta tb : TE} {σ : L2.St} {H : Hp} {Q : VK} (h : ta σ H fun x H1 => tb σ H1 fun y H2 => r x y H2 Q) : tOp r ta tb σ H Q := h
theorem if_not {te : TE} {a b : TS} {D : Ends} {σ : L2.St} {H : Hp} (h : te σ H fun v H1 => ∃ c, v = .bl c ∧ if (!c) = true then a D σ H1 else b D σ H1) : tIfS (tNot (tB te)) a b D σ H := h
theorem ret_in {te : TE} {D : Ends} {σ : L2.St} {H : Hp} (h : te σ H D.rt) : tRet te D σ H := h
/-- what stands behind a statement, once for all its ways -/
theorem cut_nx {t : TS} {D : Ends} {σ : L2.St} {H : Hp} (R : Hp → Prop) (h : ∀ H1, R H1 → D.nx σ H1) (g : (∀ H1, R H1 → D.nx σ H1) → t D σ H) : t D σ H := g h
end Fp
namespace Fp
open PySem PySem.Spec PyProof.Rows L2
/-! ### heaps -/
/-- all that is tracked stays, but what stands at S -/
def But (S : List Addr) (H H' : Hp) : Prop := ∀ b o, b ∉ S → H b = some o → H' b = some o
theorem But.refl (S : List Addr) (H : Hp) : But S H H := fun _ _ _ h => h
theorem But.trans {S : List Addr} {H H1 H2 : Hp} (a : But S H H1) (b : But S H1 H2) : But S H H2 := fun c o n h => b c o n (a c o n h)
theorem But.of {S : List Addr} {H H' : Hp} (h : Same H H') : But S H H' := fun c o _ q => h c o q
theorem But.new {S : List Addr} {H H1 : Hp} {p : Addr} {o : HO} (a : But S H H1) (n : H1 p = none) : But S H (upd H1 p o) := fun c u k q => by
  have z := a c u k q
  rw [upd_ne (ne_of_none z n)]
  exact z
theorem But.put {S : List Addr} {H H1 : Hp} {p : Addr} {o : HO} (a : But S H H1) (n : p ∈ S) : But S H (upd H1 p o) := fun c u k q => by
  have ne : c ≠ p := fun z => k (z ▸ n)
  rw [upd_ne ne]
  exact a c u k q
theorem But.wide {S T : List Addr} {H H' : Hp} (a : But S H H') (h : ∀ x ∈ S, x ∈ T) : But T H H' := fun c o n q => a c o (fun z => n (h c z)) q
theorem But.at {S : List Addr} {H H' : Hp} {a : Addr} {o : HO} (b : But S H H') (h : H a = some o) (n : a ∉ S) : H' a = some o := b a o n h
theorem But.seq {S : List Addr} {H H' : Hp} {K : PySem.W.Frag} {a : Addr} {xs : List V} (b : But S H H') (h : SqL K H a xs) (n : a ∉ S) : SqL K H' a xs := by
  rcases h with (h | ⟨o, h⟩) | h
  · exact .inl (.inl (b _ _ n h))
  · exact .inl (.inr ⟨o, b _ _ n h⟩)
  · exact .inr h
theorem But.seqT {S : List Addr} {H H' : Hp} {K : PySem.W.Frag} {a : Addr} {xs : List V} (b : But S H H') (h : SqT K H a xs) (n : a ∉ S) : SqT K H' a xs := by
  rcases h with (h | ⟨o, h⟩) | h
  · exact .inl (.inl (b _ _ n h))
  · exact .inl (.inr ⟨o, b _ _ n h⟩)
  · exact .inr h
theorem same_new {H : Hp} {p : Addr} (h : H p = none) (o : HO) : Same H (upd H p o) := fun b u q => by rw [upd_ne (ne_of_none q h)]; exact q
/-! ### a def of the module with its promise -/
structure Fd (P : Program) (w : World) (K : PySem.W.Frag) (mg : Str → Option Value) (base : Heap) (CX : CXT) (x : Str) (k : Nat) (ps : List Str) (sp : Sp) : Prop where
  ex : ∃ (f : Addr) (fd : FuncData), mg x = some (.ref f) ∧ PySem.W.keepIn K (.ref f) = true ∧ Binds K fd ps [] ∧ FnOk P w K mg base CX k f fd ps sp
section
variable {X : Cx} {CX : CXT} {x : Str} {k : Nat} {ps : List Str} {sp : Sp} {e : Expr} {es : List Expr} {t : TA} {p pos : Pos}
theorem pe_fd (G : Fd X.prog X.w X.K X.mg X.base CX0 x k ps sp) (hr : Room k X.A) (hg : Gl X x) (ha : PA X (e :: es) t) (hdb : (x == ("__debug__" : Str)) = false := by decide)
    (he : starEach (e :: es) X.env = (false, eval e X.env) :: starEach es X.env := by rfl) (hpl : (backTo pos (starEach es X.env)).any (·.1) = false := by rfl) :
    PE X (.Call (.Name x p) (e :: es) [] pos) (tCall sp [] E0 t) := by
  obtain ⟨f, fd, h1, h2, h3, h4⟩ := G.ex
  exact pe_call h4 hr hg h1 h2 h3 .nil pass0 ha hdb he hpl
end
/-! ### powers of greater numbers -/
theorem op_powB {X : Cx} : OpR X (binaryOp .Pow) (rI (fun i j => 0 ≤ j ∧ (Builtin.Int.intBits i : Int) * j ≤ 2 ^ 27) fun i j => .int (i ^ j.toNat)) :=
  opI fun _ _ _ _ _ _ _ hc q => PyProof.Rows.pow_int hc.1 hc.2 q
theorem bits_ok {a : Int} (k : Nat) {j : Int} (h : a.natAbs < 2 ^ k) (hj : 0 ≤ j) (hk : (k : Int) * j ≤ 2 ^ 27) : (Builtin.Int.intBits a : Int) * j ≤ 2 ^ 27 := by
  have h1 : (Builtin.Int.intBits a : Int) ≤ (k : Int) := by
    have := PyProof.Rows.intBits_le h
    omega
  exact Int.le_trans (Int.mul_le_mul_of_nonneg_right h1 hj) hk
/-! ### a word between a part and what follows it -/
def tMid (t : TE) : TE := fun σ H Q => ∃ Mid : V → Hp → Prop, t σ H Mid ∧ ∀ v H', Mid v H' → Q v H'
theorem pe_mid {X : Cx} {e : Expr} {t : TE} (h : PE X e t) : PE X e (tMid t) := by
  refine ⟨fun pins s σ H Q I z => ?_⟩
  obtain ⟨Mid, hm, hu⟩ := z
  exact thn (h.run pins s σ H Mid I hm) fun v s1 ⟨x, H1, I1, r1, q1⟩ => ⟨x, H1, I1, r1, hu x H1 q1⟩
def tMidT (t : TT) : TT := fun σ H Q => ∃ Mid : Bool → Hp → Prop, t σ H Mid ∧ ∀ v H', Mid v H' → Q v H'
theorem pt_mid {X : Cx} {e : Expr} {t : TT} (h : PT X e t) : PT X e (tMidT t) := by
  refine ⟨fun pins s σ H Q I z => ?_⟩
  obtain ⟨Mid, hm, hu⟩ := z
  exact thn (h.run pins s σ H Mid I hm) fun v s1 ⟨H1, I1, q1⟩ => ⟨H1, I1, hu v H1 q1⟩
theorem erase_perm {α : Type} : ∀ (l : List α) (i : Nat) (h : i < l.length), (l[i] :: l.eraseIdx i).Perm l
  | a :: l, 0, _ => List.Perm.refl _
  | a :: l, i + 1, h => by
    have h' : i < l.length := Nat.lt_of_succ_lt_succ h
    have ih := erase_perm l i h'
    show (l[i] :: a :: l.eraseIdx i).Perm (a :: l)
    exact (List.Perm.swap _ _ _).trans (List.Perm.cons a ih)
theorem b01 (k : Bool) : -(2 ^ 64) < (if k = true then (1 : Int) else 0) ∧ (if k = true then (1 : Int) else 0) < 2 ^ 64 := by cases k <;> decide
/-! ### draws -/
def PotAt (H : Hp) (p : Addr) (n : Nat) : Prop := ∃ a b c : Int, H p = some (.lst [.int a, .int b, .int c]) ∧ 0 ≤ b ∧ b < 2305843009213693951 ∧ 0 ≤ c ∧ c ≤ n
theorem PotAt.mono {H : Hp} {p : Addr} {n m : Nat} (h : PotAt H p n) (l : n ≤ m) : PotAt H p m := by
  obtain ⟨a, b, c, h1, h2, h3, h4, h5⟩ := h
  exact ⟨a, b, c, h1, h2, h3, h4, by omega⟩
theorem PotAt.there {H : Hp} {p : Addr} {n : Nat} (h : PotAt H p n) : ∃ xs, H p = some (.lst xs) := by
  obtain ⟨a, b, c, h1, _⟩ := h
  exact ⟨_, h1⟩
def spTake : Sp := fun vs H Q _ => ∃ (p : Addr) (u : Int) (n : Nat), vs = [.ref p, .int u] ∧ 0 < u ∧ u < 1000000 ∧ n < 1000000 ∧ PotAt H p n ∧
  ∀ (d : Nat) (H' : Hp), (d : Int) < u → But [p] H H' → PotAt H' p (n + 1) → Q (.int d) H'
def spOf (K : PySem.W.Frag) : Sp := fun vs H Q _ => ∃ (p q : Addr) (xs : List V) (n : Nat), vs = [.ref p, .ref q] ∧ SqL K H q xs ∧ q ≠ p ∧ xs ≠ [] ∧ xs.length < 1000000 ∧ n < 1000000 ∧ PotAt H p n ∧
  ∀ (d : Nat) (v : V) (H' : Hp), xs[d]? = some v → But [p] H H' → PotAt H' p (n + 1) → Q v H'
/-- many of a pool, in some sequence -/
def spSome (K : PySem.W.Frag) : Sp := fun vs H Q _ => ∃ (p q : Addr) (xs : List V) (m n : Nat), vs = [.ref p, .ref q, .int m] ∧ (SqL K H q xs ∨ SqT K H q xs) ∧ m ≤ xs.length ∧ xs.length < 1000 ∧ n + m < 1000000 ∧ PotAt H p n ∧
  ∀ (l : Addr) (ys zs : List V) (H' : Hp), ys.length = m → (ys ++ zs).Perm xs → H l = none → H' l = some (.lst ys) → But [p] H H' → PotAt H' p (n + m) → Q (.ref l) H'
/-- the pot of a cell -/
def spPot (K : PySem.W.Frag) : Sp := fun vs H Q _ => ∃ (a : Addr) (ns : List Int) (k : Nat), vs = [.ref a, .int k] ∧ SqL K H a (ns.map V.int) ∧ ns.length ≤ 63 ∧ k < 1000 ∧ ∀ (l : Addr) (H' : Hp), Same H H' → H l = none → PotAt H' l 0 → Q (.ref l) H'
/-- the cells that are looked at -/
def spCells (K : PySem.W.Frag) : Sp := fun vs H Q _ => ∃ (a : Addr) (ns : List Int) (m : Nat), vs = [.ref a, .int m] ∧ SqL K H a (ns.map V.int) ∧ ns.length ≤ 63 ∧ m < 1000 ∧
  ∀ (l : Addr) (H' : Hp) (k : Nat), k < 1000 → Same H H' → H l = none → H' l = some (.lst ((List.range k).map fun i => V.int (i : Nat))) → Q (.ref l) H'
theorem modNat (a : Int) {u : Int} (h : 0 < u) : ∃ d : Nat, a % u = (d : Int) ∧ (d : Int) < u :=
  ⟨(a % u).toNat, by have := Int.emod_nonneg a (show u ≠ 0 by omega); omega, by have := Int.emod_nonneg a (show u ≠ 0 by omega); have := Int.emod_lt_of_pos a h; omega⟩
theorem sq_le (m : Int) {c : Int} (h : 0 ≤ c) (h1 : c ≤ 1000001) (hm : 0 ≤ m := by decide) (hm1 : m ≤ 200000 := by decide) : 0 ≤ m * c * c ∧ m * c * c ≤ 200000 * 1000001 * 1000001 := by
  have e1 : m * c ≤ 200000 * 1000001 := Int.mul_le_mul hm1 h1 h (by decide)
  have e0 : 0 ≤ m * c := Int.mul_nonneg hm h
  exact ⟨Int.mul_nonneg e0 h, Int.mul_le_mul e1 h1 h (by decide)⟩
end Fp
namespace Fp
open PySem PySem.Spec PyProof.Rows L2
/-! ### constants of the module -/
section
variable {X : Cx} {x : Str} {pos : Pos}
theorem pe_cS {z : Str} (h : ∃ t, X.mg x = some (.str z t)) (hg : Gl X x := by rfl) (hd : (x == ("__debug__" : Str)) = false := by decide) : PE X (.Name x pos) (tC (.str z)) := by
  obtain ⟨t, h⟩ := h
  exact pe_glob hg h ⟨_, rfl⟩ hd
theorem pe_cI {i : Int} (h : ∃ t, X.mg x = some (.int i t)) (hg : Gl X x := by rfl) (hd : (x == ("__debug__" : Str)) = false := by decide) : PE X (.Name x pos) (tC (.int i)) := by
  obtain ⟨t, h⟩ := h
  exact pe_glob hg h ⟨_, rfl⟩ hd
/-- a tuple of the module -/
def KTup (K : PySem.W.Frag) (a : Addr) (xs : List V) : Prop := ∀ H, SqT K H a xs
def tKT (K : PySem.W.Frag) (xs : List V) : TE := fun _ H Q => ∀ a, KTup K a xs → Q (.ref a) H
theorem pe_cT {xs : List V} (h : ∃ a, X.mg x = some (.ref a) ∧ KTup X.K a xs) (hg : Gl X x := by rfl) (hd : (x == ("__debug__" : Str)) = false := by decide) : PE X (.Name x pos) (tKT X.K xs) := by
  obtain ⟨a, h1, h2⟩ := h
  exact ⟨fun pins s σ H Q I q => (pe_glob (v := .ref a) hg h1 rfl hd).run pins s σ H Q I (q a h2)⟩
/-- an object of the module -/
def tKR (φ : Addr → Prop) : TE := fun _ H Q => ∀ a, φ a → Q (.ref a) H
theorem pe_cR {φ : Addr → Prop} (h : ∃ a, X.mg x = some (.ref a) ∧ φ a) (hg : Gl X x := by rfl) (hd : (x == ("__debug__" : Str)) = false := by decide) : PE X (.Name x pos) (tKR φ) := by
  obtain ⟨a, h1, h2⟩ := h
  exact ⟨fun pins s σ H Q I q => (pe_glob (v := .ref a) hg h1 rfl hd).run pins s σ H Q I (q a h2)⟩
/-- a dict of the module with text keys, at d -/
structure KD (K : PySem.W.Frag) (w : World) (d : Addr) (tab : Str → Option V) : Prop where
  ex : ∃ es n, KDict K w d es n
  get : ∀ z, ∃ r, PySem.W.nsIn K d z = some r ∧ RelO (tab z) r
theorem RelO.some_iff {o : Option V} {r : Option Value} (h : RelO o r) : o.isSome = r.isSome := by
  cases o <;> cases r <;> first | rfl | exact h.elim
variable {e : Expr} {te : TE} {apos cpos p : Pos} {tab : Str → Option V} {d : Addr}
/-- key in NAME -/
theorem pe_kin (D : ∃ d, X.mg x = some (.ref d) ∧ KD X.K X.w d tab) (he : PE X e te) (hg : Gl X x := by rfl) (hb : behindInMarks .In (.Name x p) = false := by rfl) (hd : (x == ("__debug__" : Str)) = false := by decide) : PE X (.Compare e [.In] [.Name x p] pos) (fun σ H Q => te σ H fun y H1 => ∃ z, y = .str z ∧ Q (.bl (tab z).isSome) H1) := by
  obtain ⟨d, hm, ⟨es, n, D⟩, get⟩ := D
  refine ⟨fun pins s σ H Q I h => ?_⟩
  refine (pe_cmpR (op_in_kd D) he (pe_glob (v := .ref d) hg hm rfl hd) hb).run pins s σ H Q I ?_
  have h' : (fun σ H Q => te σ H fun y H1 => ∃ z, y = .str z ∧ Q (.bl (tab z).isSome) H1) σ H Q := h
  exact (fun (k : te σ H _) => k) (by
    refine (?_ : te σ H _)
    have e2 : (fun (y : V) (H1 : Hp) => ∃ z : Str, y = V.str z ∧ Q (V.bl (tab z).isSome) H1) = fun y H1 => tC (.ref d) σ H1 fun y' H2 => ∃ (z : Str) (r : Option Value), y = .str z ∧ y' = .ref d ∧ PySem.W.nsIn X.K d z = some r ∧ Q (.bl r.isSome) H2 := by
      funext y H1
      apply propext
      constructor
      · rintro ⟨z, rfl, q⟩
        obtain ⟨r, g1, g2⟩ := get z
        refine ⟨z, r, rfl, rfl, g1, ?_⟩
        rw [← RelO.some_iff g2]
        exact q
      · rintro ⟨z, r, rfl, _, g1, q⟩
        obtain ⟨r', g1', g2⟩ := get z
        rw [g1] at g1'
        cases g1'
        refine ⟨z, rfl, ?_⟩
        rw [RelO.some_iff g2]
        exact q
    rw [← e2]
    exact h')
/-- NAME.get(key) -/
theorem pe_kget (D : ∃ d, X.mg x = some (.ref d) ∧ KD X.K X.w d tab) (he : PE X e te) (hg : Gl X x := by rfl) (m : M1 X (.Name x p) "get" apos e cpos := by exact ⟨rfl, rfl, rfl, rfl⟩) (hd : (x == ("__debug__" : Str)) = false := by decide) :
    PE X (.Call (.Attribute (.Name x p) "get" apos) [e] [] cpos) (fun σ H Q => te σ H fun y H1 => ∃ z, y = .str z ∧ Q ((tab z).getD .non) H1) := by
  obtain ⟨d, hm, ⟨es, n, D⟩, get⟩ := D
  refine ⟨fun pins s σ H Q I h => ?_⟩
  refine wpAny_Call_method m.base m.few m.line PySem.F.plainAttrs_dict PySem.F.slot_dict_get PySem.F.type_dict_get (thn ((pe_glob (v := .ref d) hg hm rfl hd).run pins s σ H (fun y H1 => y = .ref d ∧ te σ H1 fun y H1 => ∃ z, y = .str z ∧ Q ((tab z).getD .non) H1) I ⟨rfl, h⟩) fun u s1 hh => ?_)
  obtain ⟨y, H1, I1, ry, ey, q1⟩ := hh
  subst ey
  obtain rfl : u = Value.ref d := ry
  have hmp := PySem.W.mapOf_K (prog := X.prog) (w := X.w) I1.kIn D.at_ D.lit
  refine ⟨hmp.typeIs, hmp.noDict, ?_⟩
  rw [m.trees]
  refine Calls.callWith_builtin rfl (Calls.evalArgs_plain (Calls.spliced_cons (thn (he.run pins s1 σ H1 _ I1 q1) fun iv s2 hh2 => Calls.spliced_nil ?_)))
  obtain ⟨y2, H2, I2, ry2, z, ez, q2⟩ := hh2
  subst ez
  obtain ⟨t, rfl⟩ := ry2
  have hmp2 := PySem.W.mapOf_K (prog := X.prog) (w := X.w) I2.kIn D.at_ D.lit
  obtain ⟨r, g1, g2⟩ := get z
  refine call_meetsIn PySem.F.slot_dict_get hmp2.typeIs PySem.F.entry_dict_get (PySem.F.args_dict_get_2 _ _) (meets_dict_get (strKind X.prog X.w) d (PySem.strKind_is X.prog X.w z t) D.low) ⟨_, hmp2, ?_⟩
  show EP X pins σ Q _ _
  rw [PySem.W.find_K D.at_ g1]
  exact ⟨_, H2, I2.tok _, g2.getD (d := .non) rfl, q2⟩
end
/-! ### for i, x in enumerate(list, start) -/
def ItE (K : PySem.W.Frag) (a : Addr) (lo : Int) : It :=
  ⟨fun i H => ∃ (ys : List V) (y : V), SqL K H a ys ∧ ys[i]? = some y,
   fun i H v H' => ∃ T y, v = .ref T ∧ H T = none ∧ H' = upd H T (.tup [.int (lo + (i : Nat)), y]) ∧ ∀ ys, SqL K H a ys → ys[i]? = some y,
   fun i H => ∃ ys : List V, SqL K H a ys ∧ ys.length ≤ i⟩
theorem turn_enumS {P : Program} {w : World} {K : PySem.W.Frag} {elts : List Expr} {kk : Nat} {tpos : Pos} (a e it : Addr) (lo : Int) :
    Turn P w K (.Tuple elts kk tpos) (ItE K a lo) [e, it] e (fun i h => (∃ was, IsEnum h e it (lo + ((i : Nat) : Int)) was) ∧ h.IsListIter it a i ∧ e ≠ it) where
  mem := List.mem_cons_self
  obj := fun i h st b hb => by
    obtain ⟨⟨was, he⟩, ⟨o, ho, hc, hd⟩, _⟩ := st
    rcases List.mem_cons.mp hb with z | z
    · subst z
      exact ⟨_, he, fun v q => nomatch q⟩
    · have z' := List.mem_singleton.mp z
      subst z'
      exact ⟨o, ho, fun v q => by rw [hd] at q; cases q⟩
  keep := fun i h h' st k => ⟨st.1.imp fun was he => k e (by simp) _ he, st.2.1.at fun o q => k it (by simp) o q, st.2.2⟩
  item := by
    intro X hP hw hK hc i pins s σ H E I hf st hg
    subst hP hw hK
    obtain ⟨⟨was, he⟩, hit, hne⟩ := st
    obtain ⟨ys, y, hq, hx⟩ := hg
    obtain ⟨its, rv, lp, hz⟩ := I.list hq
    obtain ⟨u, hu, ru⟩ := rv.get hx
    have le : e < s.heap.objs.size := Heap.lt_size he
    have li : it < s.heap.objs.size := by
      obtain ⟨_, q, _⟩ := hit
      exact Heap.lt_size q
    have fr := I.hok.fresh (Nat.le_refl s.heap.objs.size)
    have hL := lp.isList
    have nel : e ≠ a := fun z => by
      obtain ⟨o, ho, hc', _⟩ := hL
      rw [← z, (show s.heap.get? e = some _ from he)] at ho
      cases ho
      injection hc' with z'
      exact absurd z' (by decide)
    have nil' : a ≠ it := fun z => by
      obtain ⟨o, ho, hc', _⟩ := hL
      obtain ⟨o2, ho2, hc2, _⟩ := hit
      rw [z, ho2] at ho
      cases ho
      rw [hc2] at hc'
      injection hc' with z'
      exact absurd z' (by decide)
    have hiu : its.toArray[i]? = some u := by simpa using hu
    have hlt : i < its.toArray.size := by
      by_cases z : i < its.toArray.size
      · exact z
      · rw [Array.getElem?_eq_none (by omega)] at hiu
        cases hiu
    refine wpAny_pyNext_enum_itemC (Draws.list (A := X.A.in1) (I.ok.hd hc) it a nil' its.toArray) he ⟨hit, hL⟩ hlt hne (by simp [hne, nel]) fun x h1 tk hx1 ho hst1 hT hsz hk => ⟨_, rfl, ?_⟩
    rw [hiu] at hx1
    cases hx1
    have hit1 := hst1.1
    refine wpAny_letOwnedTupleGo_enum (s := { s with heap := h1, toks := tk + 1 }) ho fun h2 he2 sb => ?_
    have hT2 := (sb.2 _ (Nat.ne_of_gt le)).trans hT
    have mem2 : ∀ {b : Addr}, b ∈ [e, it] → b < s.heap.objs.size := fun {b} hb => by
      rcases List.mem_cons.mp hb with z | z
      · rw [z]; exact le
      · rw [List.mem_singleton.mp z]; exact li
    refine ⟨.ref s.heap.objs.size, upd H s.heap.objs.size (.tup [.int (lo + (i : Nat)), y]), ?_, rfl, ⟨_, y, rfl, fr, rfl, fun zs hy => by rw [I.list_inj hy hq]; exact hx⟩, ⟨⟨u, ?_⟩, hit1.at fun o q => (sb.2 it (Ne.symm hne)).trans q, hne⟩, fun b hb => ?_⟩
    · refine I.turnedNew (ch := [e, it]) (fun b ob hb q => ?_) hf (Nat.le_refl _) ⟨by show 2 ≤ sizeLine; decide, [.int (lo + (i : Nat)) tk, u], .cons ⟨_, rfl⟩ (.cons ru .nil), ⟨_, hT2, rfl, _, rfl⟩⟩
      have be : b ≠ e := fun z => hb (by simp [z])
      have bi : b ≠ it := fun z => hb (by simp [z])
      exact (sb.2 b be).trans (hk b ob be bi q)
    · have e1 : lo + (((i + 1 : Nat)) : Int) = lo + (i : Int) + 1 := by omega
      rw [e1]
      exact he2
    · rw [upd_ne (Nat.ne_of_lt (mem2 hb))]
      exact (hf b hb).1
  done := by
    intro X hP hw hK hc i pins s σ H E I hf st hg
    subst hP hw hK
    obtain ⟨⟨was, he⟩, hit, hne⟩ := st
    obtain ⟨ys, hq, hx⟩ := hg
    obtain ⟨its, rv, lp, hz⟩ := I.list hq
    obtain ⟨f0, f1, f2, f3, f4, f5⟩ := hf it (by simp)
    have hl := rv.length
    have D : Draws X.prog X.w X.A.in1 it [it, a] i (fun _ _ => False) (fun j h => j = i ∧ h.IsListIter it a i ∧ h.IsList a its.toArray) := {
      live := fun j h st => by
        obtain ⟨_, ⟨o, ho, _⟩, _⟩ := st
        exact ⟨o, ho⟩
      frame := fun j h h' st k => ⟨st.1, st.2.1.at fun o q => k it (by simp) o q, st.2.2.at fun o q => k a (by simp) o q⟩
      item := fun j s Q E hj st _ => by
        have := st.1
        omega
      done := fun s Q E st hE => wpAny_nextOf_list_end (I.ok.hd hc) st.2.1 st.2.2 (by simp; omega) hE }
    exact wpAny_pyNext_enum_endD D he ⟨rfl, hit, lp.isList⟩ fun h1 eb => ⟨rfl, I.turned (t' := s.toks) (fun b o hb q => eb b o hb q) f0 f1 f3 f4 f5⟩
  self := fun A i s Q E st h => st.1.elim fun _ he => wpAny_pyIter_enum he h
def iEnumS (K : PySem.W.Frag) (ta : TA) : TI := fun σ H R => ta σ H fun vs H1 => ∃ a xs lo, vs = [.ref a, .int lo] ∧ SqL K H1 a xs ∧ -(2 ^ 62) ≤ lo ∧ lo < 2 ^ 62 ∧ R (ItE K a lo) H1
theorem pi_enumS {X : Cx} {e1 e2 : Expr} {ta : TA} {p pos tpos : Pos} {elts : List Expr} {kk : Nat} (hg : Gl X "enumerate") (hm : X.mg "enumerate" = none) (ha : PA X [e1, e2] ta)
    (he : starEach (e1 :: [e2]) X.env = (false, eval e1 X.env) :: starEach [e2] X.env := by rfl) (hpl : (backTo pos (starEach [e2] X.env)).any (·.1) = false := by rfl) :
    PI X (.Tuple elts kk tpos) (.Call (.Name "enumerate" p) [e1, e2] [] pos) (iEnumS X.K ta) := by
  refine ⟨fun pins s σ H R I h => ?_⟩
  refine Call_ (ld_blt I hg hm boot_enumerate (PyProof.Rows.callWith_type1 (thn (ha.run pos pins s σ H _ I h) fun us s1 hh => ?_) he hpl))
  obtain ⟨vs, H1, I1, r1, a, xs, lo, ex, hq, hl0, hl1, q⟩ := hh
  subst ex
  obtain ⟨u1, u2, rfl, ra, rb⟩ := vals2 r1
  obtain rfl : u1 = Value.ref a := ra
  obtain ⟨t, rfl⟩ := rb
  obtain ⟨its, rv, lp, hz⟩ := I1.list hq
  refine enum_begins (begins_list a its.toArray) lp.isList (by omega) (by omega) fun h1 he hit hsz hk => wpAny_pyIter_enum he ?_
  have I2 : Inv X pins σ H1 { s1 with heap := h1 } := I1.kept (t' := s1.toks) hk
  refine ⟨s1.heap.objs.size + 1, [s1.heap.objs.size + 1, s1.heap.objs.size], _, _, H1, rfl, I2, turn_enumS a (s1.heap.objs.size + 1) s1.heap.objs.size lo, ⟨⟨.none, by simpa using he⟩, ⟨_, hit, rfl, rfl⟩, Nat.succ_ne_self _⟩, fun b hb => ?_, q⟩
  have hle : s1.heap.objs.size ≤ b := by
    rcases List.mem_cons.mp hb with z | z
    · rw [z]; exact Nat.le_add_right _ _
    · rw [List.mem_singleton.mp z]; exact Nat.le_refl _
  exact I1.fpOk hle (I1.hok.fresh hle)
/-! ### list(text), text * int -/
abbrev sg (z : Str) : List Nat := z.cps.toList
def signsV (z : Str) : List V := (sg z).map fun c => V.str ⟨#[c]⟩
theorem signs_vals : ∀ (l : List Nat) (us : List Value), us.length = l.length → (∀ (j : Nat) (v : Value), us[j]? = some v → ∃ (c : Nat) (u : Tok), l[j]? = some c ∧ v = Value.str ⟨#[c]⟩ u) → Vals (l.map fun c => V.str ⟨#[c]⟩) us
  | [], [], _, _ => .nil
  | c :: l, u :: us, hl, h => by
    obtain ⟨c', t, e1, e2⟩ := h 0 u rfl
    have e1' : c = c' := by simpa using e1
    subst e1'
    exact .cons ⟨t, e2⟩ (signs_vals l us (by simpa using hl) fun j v e => by simpa using h (j + 1) v (by simpa using e))
  | [], _ :: _, hl, _ => by simp at hl
  | _ :: _, [], hl, _ => by simp at hl
theorem call_list_txt {X : Cx} (hc : X.calm = true) : CallR X (.type "list") (fun xs H Q => ∃ z, xs = [.str z] ∧ z.length ≤ sizeLine ∧ ∀ l, H l = none → Q (.ref l) (upd H l (.lst (signsV z)))) := by
  intro pins s σ H xs us Q I r h
  obtain ⟨z, rfl, hz, q⟩ := h
  obtain ⟨u, rfl, rx⟩ := vals1 r
  obtain ⟨t, rfl⟩ := rx
  refine call_list_str (I.ok.hd hc) z t (fun h' tk acc c' hk hS hacc => ?_) (hn := hz)
  have hv : Vals (signsV z) acc.toList := signs_vals _ _ (by simpa [sg] using hacc.1) fun j v e => by
    obtain ⟨c, u, e1, e2⟩ := hacc.2 j v (by simpa using e)
    exact ⟨c, u, by simpa [sg] using e1, e2⟩
  have hlen : (signsV z).length ≤ sizeLine := by simpa [signsV, sg, Str.length] using hz
  exact ⟨.ref s.heap.objs.size, _, I.laid (t' := tk) hk (Nat.le_refl _) (show ObjOk X.prog X.w _ h' _ (.lst (signsV z)) from ⟨hlen, acc.toList, c', hv, hS⟩), rfl, q _ (I.hok.fresh (Nat.le_refl _))⟩
theorem mulOk6 {z : Str} {i : Int} (hz : z.length = 1) (h0 : 0 ≤ i) (h1 : i ≤ 6) : PySem.MulOk z i := by
  have : i = 0 ∨ i = 1 ∨ i = 2 ∨ i = 3 ∨ i = 4 ∨ i = 5 ∨ i = 6 := by omega
  unfold PySem.MulOk
  rw [hz]
  rcases this with rfl | rfl | rfl | rfl | rfl | rfl | rfl <;> decide
theorem op_mul_txt {X : Cx} : OpR X (binaryOp .Mult) (fun x y H Q => ∃ (z : Str) (i : Int), x = .str z ∧ y = .int i ∧ z.length = 1 ∧ 0 ≤ i ∧ i ≤ 6 ∧ Q (.str (Txt.mul z i)) H) := by
  intro pins s σ H x y v u Q I rx ry h
  obtain ⟨z, i, rfl, rfl, hz, h0, h1, q⟩ := h
  obtain ⟨t, rfl⟩ := rx
  obtain ⟨t', rfl⟩ := ry
  exact PySem.SB.mul (mulOk6 hz h0 h1) fun t2 k => ⟨.str (Txt.mul z i), H, I.tok k, ⟨t2, rfl⟩, q⟩
/-! ### a comprehension over a text -/
theorem lc_txt {z : Str} {f : Nat → V} {g : TG} {te : TE} {vs : List Nat} {σ : L2.St} {H : Hp} {D : Addr} {Qd : Hp → Prop} (hD : H D = none) (hz : z.length ≤ 100000)
    (helt : ∀ (c : Nat) (H' : Hp) (R : V → Hp → Prop), c ∈ sg z → Same H H' → R (f c) H' → g (.str ⟨#[c]⟩) (wipe σ vs) H' fun σ2 H2 => wipe σ2 vs = wipe σ vs ∧ te σ2 H2 R)
    (hq : ∀ H', Same H H' → H' D = some (.lst ((sg z).map f)) → Qd H') :
    ∃ W : Nat → Nat → Hp → Prop, (∃ m, W 0 m (upd H D (.lst []))) ∧ ∀ i m H, W i m H →
      ((Its z).stop i H ∧ Qd H) ∨ ((Its z).go i H ∧ ∃ Nx : Hp → Prop, (∀ H', Nx H' → ∃ m', m' < m ∧ W (i + 1) m' H') ∧ ∀ x H', (Its z).yld i H x H' → g x (wipe σ vs) H' fun σ2 H2 => wipe σ2 vs = wipe σ vs ∧ tYes σ2 H2 fun b H3 =>
        if b = true then te σ2 H3 fun y H4 => ∃ acc, H4 D = some (.lst acc) ∧ acc.length < sizeLine ∧ Nx (upd H4 D (.lst (acc ++ [y]))) else Nx H3) := by
  have hsz : z.cps.size = (sg z).length := by simp [sg]
  refine lc_it (walk_str (z := z)) (fun i H' => Same H H' ∧ H' D = some (.lst (((sg z).take i).map f))) ⟨same_new hD _, upd_same⟩ (fun _ _ _ _ => True.intro) ?_ (fun H' h => hq H' h.1 (by rw [hsz] at h; rw [h.2, List.take_length]))
  rintro i x H1 H2 hi ⟨g1, g2⟩ ⟨rfl, c, hc, rfl⟩
  have hc' : (sg z)[i]? = some c := by simpa [sg] using hc
  refine helt c H2 _ (List.mem_of_getElem? hc') g1 ⟨_, g2, ?_, fun b o q => ?_, ?_⟩
  · have : (((sg z).take i).map f).length ≤ z.length := by simp [sg, Str.length]; omega
    exact Nat.lt_of_le_of_lt (Nat.le_trans this hz) (by decide)
  · rw [upd_ne (ne_of_none q hD)]
    exact g1 b o q
  · rw [upd_same, List.take_add_one, hc']
    simp
end Fp
namespace Fp
open PySem PySem.Spec PyProof.Rows L2
/-! ### methods with their promises -/
section
variable {X : Cx} {k i : Nat} {x m : Str} {p pos apos : Pos} {e o : Expr} {es : List Expr} {t : TA} {ta : TE} {C : Addr} {ps : List Str} {sp : Sp}
structure Md (P : Program) (w : World) (K : PySem.W.Frag) (mg : Str → Option Value) (base : Heap) (CX : CXT) (C : Addr) (m : Str) (k : Nat) (ps : List Str) (sp : Sp) : Prop where
  ex : ∃ (f : Addr) (fd : FuncData), Meth K C m f ∧ Binds K fd ps [] ∧ FnOk P w K mg base CX k f fd ps sp
theorem pe_md {pl : Sem Bool} (he : PE X o ta) (c : Cls X.K C) (M : Md X.prog X.w X.K X.mg X.base CX0 C m k ps sp) (hr : Room k X.A) (ha : PA X (e :: es) t)
    (hst : starEach (e :: es) X.env = (false, eval e X.env) :: starEach es X.env := by rfl) (hpl : (backTo pos (starEach es X.env)).any (·.1) = false := by rfl)
    (ht : eval (.Call (.Attribute o m apos) (e :: es) [] pos) X.env = (do
      let ov ← eval o X.env
      standAt apos.atName
      let (f, first) ← holding [ov] (getMethod ov m pl)
      callWith pos f first (backTo pos (starEach (e :: es) X.env)) (backToKw pos (keywordEach [] X.env))) := by rfl) :
    PE X (.Call (.Attribute o m apos) (e :: es) [] pos) (tMeth C m sp [] E0 ta t) := by
  obtain ⟨f, fd, h1, h2, h3⟩ := M.ex
  exact pe_meth he c h1 h3 hr h2 .nil pass0 ha hst hpl ht
theorem pe_md0 {pl : Sem Bool} (he : PE X o ta) (c : Cls X.K C) (M : Md X.prog X.w X.K X.mg X.base CX0 C m k ps sp) (hr : Room k X.A)
    (ht : eval (.Call (.Attribute o m apos) [] [] pos) X.env = (do
      let ov ← eval o X.env
      standAt apos.atName
      let (f, first) ← holding [ov] (getMethod ov m pl)
      callWith pos f first (backTo pos (starEach [] X.env)) (backToKw pos (keywordEach [] X.env))) := by rfl) :
    PE X (.Call (.Attribute o m apos) [] [] pos) (tMeth C m sp [] E0 ta tNil) := by
  obtain ⟨f, fd, h1, h2, h3⟩ := M.ex
  exact pe_meth0 he c h1 h3 hr h2 .nil pass0 ht
end
/-- a statement that is never reached -/
theorem ps_no {X : Cx} {st : Stmt} : PS X st (fun _ _ _ => False) := ⟨fun _ _ _ _ _ _ h => h.elim⟩
/-! ### a class of the module, made with its promise -/
structure MkC (P : Program) (w : World) (K : PySem.W.Frag) (mg : Str → Option Value) (base : Heap) (x : Str) (C : Addr) (k : Nat) (ps : List Str) (sp : Sp) : Prop where
  at_ : mg x = some (.ref C)
  ex : ∃ (f : Addr) (fd : FuncData), Mk K C f ∧ Binds K fd ps [] ∧ FnOk P w K mg base CX0 k f fd ps sp
section
variable {X : Cx} {x : Str} {k : Nat} {ps : List Str} {sp : Sp} {C : Addr} {e : Expr} {es : List Expr} {t : TA} {p pos : Pos}
theorem pe_mk0 (M : MkC X.prog X.w X.K X.mg X.base x C k ps sp) (hr : Room (k + 1) X.A) (hg : Gl X x) (hdb : (x == ("__debug__" : Str)) = false := by decide) : PE X (.Call (.Name x p) [] [] pos) (tMake C sp [] E0 tNil) := by
  obtain ⟨f, fd, h1, h2, h3⟩ := M.ex
  exact pe_make0 h1 h3 hr hg M.at_ h2 .nil pass0 hdb
theorem pe_mk (M : MkC X.prog X.w X.K X.mg X.base x C k ps sp) (hr : Room (k + 1) X.A) (hg : Gl X x) (ha : PA X (e :: es) t) (hdb : (x == ("__debug__" : Str)) = false := by decide)
    (he : starEach (e :: es) X.env = (false, eval e X.env) :: starEach es X.env := by rfl) (hpl : (backTo pos (starEach es X.env)).any (·.1) = false := by rfl) : PE X (.Call (.Name x p) (e :: es) [] pos) (tMake C sp [] E0 t) := by
  obtain ⟨f, fd, h1, h2, h3⟩ := M.ex
  exact pe_make h1 h3 hr hg M.at_ h2 .nil pass0 ha hdb he hpl
end
/-! ### x == y, x != y by an own __eq__ (no own __ne__) -/
section
open PySem.W
variable {prog : Program} {w : World} {A : Around} {E : Value → Shared → Prop} {s : Shared} {K : Frag} {x C L f : Addr} {h₀ : Heap} {m : Str → Option Value} {ox : Obj} {od : Option Obj} {b tb : Value}
theorem tryNe_K {Q : Option Value → Shared → Prop} (hu : A.units + 1 < cLine) (X : K.In s.heap) (I : InstAt s.heap x ox C od) (hne : findIn K (.ref C) "__ne__" = some (some (.builtin "object.__ne__"))) (top : mroIn K C (.type "object") = some true)
    (hs : findIn K (.ref C) "__eq__" = some (some (.ref f))) (hf : isFn K (.ref f) = true)
    (h : wpAny (model prog w) A.in1 (call (.ref f) [.ref x, b]) (fun v s' => ∃ k, v = .bool k ∧ Q (some (.bool (!k))) s') E s) : wpAny (model prog w) A (tryCompare (.ref x) "__ne__" b) Q E s := by
  have inner : ∀ (A' : Around) (hu' : A'.units < cLine) (E' : Value → Shared → Prop) (Q' : Fin → Shared → Prop), wpAny (model prog w) A' (call (.ref f) [.ref x, b]) (fun v s' => ∃ k, v = .bool k ∧ Q' (.done (.ret (.bool (!k)))) s') E' s →
      wpAny (model prog w) A' (Builtin.«object.__ne__» ⟨[.ref x, b], []⟩) Q' E' s := by
    intro A' hu' E' Q' h'
    unfold Builtin.«object.__ne__»
    repeat (first
      | with_reducible refine wpAny_cRoomFor hu' ?_
      | (refine wpAny_bind (m := callSpecialIfBound? (.ref x) (Str.ofString "__eq__") [b])
          (ifBound_K X I hs hf (wpAny_mono h' (fun r s' hr => by
            obtain ⟨k, rfl, hq⟩ := hr
            repeat (first | exact hq | exact wpAny_pure hq | exact wpAny_truthy_bool hq | (refine wpAny_bind (m := truthy (.bool _)) (wpAny_truthy_bool ?_)) | wp_step)) fun _ _ e => e)))
      | wp_step)
  have hi : Looks (model prog w) s.heap (isInstance (.ref x) (.type "object")) true := I.type.andThen (looks_mroIn X top)
  have S := F.slot_object_ne
  have done : ∀ (Q' : Value → Shared → Prop), wpAny (model prog w) A.in1 (call (.ref f) [.ref x, b]) (fun v s' => ∃ k, v = .bool k ∧ Q' (.bool (!k)) s') E s → wpAny (model prog w) A (call (.builtin "object.__ne__") [.ref x, b]) Q' E s := by
    intro Q' h'
    refine wpAny_call (codeAny_call_builtin S.plain PySem.F.cmpEntry_ne (check_slot PySem.F.cmpKind_ne PySem.F.cmpSplit_ne hi (PySem.F.cmpArgs_ne _ _) (inner A.in1 hu _ _ (wpAny_mono h' (fun v s' hv => ?_) fun _ _ e => e))))
    obtain ⟨k, rfl, hq⟩ := hv
    exact ⟨k, rfl, hq⟩
  have one : wpAny (model prog w) A (callSpecialIfBound? (.ref x) "__ne__" [b]) (fun r s' => ∃ k, r = some (.bool k) ∧ Q (some (.bool k)) s') E s := by
    simp only [callSpecialIfBound?, bindSpecialIfBound?]
    refine wpAny_holding (wpAny_bind (wpAny_bind (wpAny_bind (I.type.here ((looks_findIn X hne).here ?_)))))
    refine wpAny_bind (wpAny_askSetting (wpAny_ite ?_))
    have fin : wpAny (model prog w) A (call (.builtin "object.__ne__") ([.ref x] ++ [b]) >>= fun v => pure (some v)) (fun r s' => ∃ k, r = some (.bool k) ∧ Q (some (.bool k)) s') E s :=
      wpAny_bind (done _ (wpAny_mono h (fun v s' hv => by
        obtain ⟨k, rfl, hq⟩ := hv
        exact ⟨k, rfl, wpAny_pure ⟨_, rfl, hq⟩⟩) fun _ _ e => e))
    rw [S.bind]
    split
    · exact wpAny_bind (wpAny_pure (wpAny_pure fin))
    · exact wpAny_tryCatch (wpAny_bind (wpAny_pure (wpAny_pure fin)))
  unfold tryCompare
  refine wpAny_bind (wpAny_mono one (fun r s' z => ?_) fun _ _ e => e)
  obtain ⟨k, rfl, hq⟩ := z
  exact wpAny_pure hq
theorem ne_K {Q : Value → Shared → Prop} (hu : A.units + 1 < cLine) (F : Fr h₀ L s.heap m) (X₀ : K.In h₀) (I : InstAt s.heap x ox C od) (hb : Looks (model prog w) s.heap (typeOf b) tb) (hn : notFirst K C tb = true)
    (hne : findIn K (.ref C) "__ne__" = some (some (.builtin "object.__ne__"))) (top : mroIn K C (.type "object") = some true) (hs : findIn K (.ref C) "__eq__" = some (some (.ref f))) (hf : isFn K (.ref f) = true)
    (h : wpAny (model prog w) A.in1 (call (.ref f) [.ref x, b]) (fun v s' => ∃ k, v = .bool k ∧ Q (.bool (!k)) s') E s) : wpAny (model prog w) A (richCompare .NotEq (.ref x) b) Q E s := by
  have X := X₀.keeps F.keep
  have one : wpAny (model prog w) A (tryCompare (.ref x) "__ne__" b) (fun r s' => ∃ v, r = some v ∧ Q v s') E s :=
    tryNe_K hu X I hne top hs hf (wpAny_mono h (fun v s' hv => by
      obtain ⟨k, rfl, hq⟩ := hv
      exact ⟨k, rfl, _, rfl, hq⟩) fun _ _ e => e)
  unfold richCompare
  simp only [oneThing_ref]
  refine wpAny_holding (wpAny_bind (wpAny_cRoomFor (Nat.lt_of_succ_lt hu) ?_))
  refine wpAny_bind (I.type.here (wpAny_bind (hb.here ?_)))
  split
  · rename_i q
    have e : subIn K tb (.ref C) = some false := by
      rcases Bool.or_eq_true_iff.mp hn with e | e
      · rw [beq_iff_eq.mp e] at q; simp at q
      · exact beq_iff_eq.mp e
    refine wpAny_bind ((looks_subIn X e).here ?_)
    simp only [Bool.false_eq_true, if_false]
    refine wpAny_bind (wpAny_mono one (fun r s' z => ?_) fun _ _ e => e)
    obtain ⟨v, rfl, hq⟩ := z
    exact wpAny_pure hq
  · refine wpAny_bind (wpAny_pure ?_)
    simp only [Bool.false_eq_true, if_false]
    refine wpAny_bind (wpAny_mono one (fun r s' z => ?_) fun _ _ e => e)
    obtain ⟨v, rfl, hq⟩ := z
    exact wpAny_pure hq
end
/-- what a class with an own == must have -/
structure EqC (P : Program) (w : World) (K : PySem.W.Frag) (mg : Str → Option Value) (base : Heap) (C : Addr) (n : Nat) (ps : List Str) (sp : Sp) : Prop where
  ex : ∃ (f : Addr) (fd : FuncData), PySem.W.findIn K (.ref C) "__eq__" = some (some (.ref f)) ∧ PySem.W.isFn K (.ref f) = true ∧ Binds K fd ps [] ∧ FnOk P w K mg base CX0 n f fd ps sp
  ne : PySem.W.findIn K (.ref C) "__ne__" = some (some (.builtin "object.__ne__"))
  top : PySem.W.mroIn K C (.type "object") = some true
def rEqO (K : PySem.W.Frag) (C : Addr) (sp : Sp) (neg : Bool) : R2 := fun x y H Q => ∃ (a dx : Addr) (fs : List (Str × V)) (t : Value), x = .ref a ∧ H a = some (.ins C dx fs) ∧ TyX K H y t ∧ PySem.W.notFirst K C t = true ∧
  sp [x, y] H (fun v H' => ∃ b, v = .bl b ∧ Q (.bl (if neg then !b else b)) H') E0
section
variable {X : Cx} {C : Addr} {n : Nat} {ps : List Str} {sp : Sp}
theorem op_eqO (M : EqC X.prog X.w X.K X.mg X.base C n ps sp) (hr : Room n X.A) : OpR X (compareOp .Eq) (rEqO X.K C sp false) := by
  intro pins s σ H x y v u Q I rx ry h
  obtain ⟨a, dx, fs, t, rfl, ha, ty, hn, q⟩ := h
  cases rx
  obtain ⟨f, fd, hs, hf, hb, F⟩ := M.ex
  obtain ⟨mA, J, _⟩ := ins_get I.hok ha
  obtain ⟨od, J, _⟩ := J.look
  obtain ⟨m, hF⟩ := I.fr
  obtain ⟨Pk, Z, pk, _⟩ := kit_of I ry ty
  show wpAny (model X.prog X.w) X.A (richCompare .Eq (.ref a) u) (EP X pins σ Q) X.xe s
  refine PySem.W.cmp_K (op := .Eq) (tb := t) hr.units0 hF I.ok.mod.kin J (Z.ty _ _ I.kIn pk) hn hs hf ?_
  refine wpAny_mono (run_fn (us := [.ref a, u]) (vs := [.ref a, y]) F hr hb .nil pass0 I (.cons rfl (.cons ry .nil)) (show sp ([V.ref a, y] ++ []) H _ E0 from q)) (fun r s' z => ?_) fun _ _ e => e
  obtain ⟨v, H', I', rv, b, rfl, q'⟩ := z
  cases rv
  exact ⟨.bl b, H', I', rfl, q'⟩
theorem op_neO (M : EqC X.prog X.w X.K X.mg X.base C n ps sp) (hr : Room (n + 1) X.A) : OpR X (compareOp .NotEq) (rEqO X.K C sp true) := by
  intro pins s σ H x y v u Q I rx ry h
  obtain ⟨a, dx, fs, t, rfl, ha, ty, hn, q⟩ := h
  cases rx
  obtain ⟨f, fd, hs, hf, hb, F⟩ := M.ex
  obtain ⟨mA, J, _⟩ := ins_get I.hok ha
  obtain ⟨od, J, _⟩ := J.look
  obtain ⟨m, hF⟩ := I.fr
  obtain ⟨Pk, Z, pk, _⟩ := kit_of I ry ty
  show wpAny (model X.prog X.w) X.A (richCompare .NotEq (.ref a) u) (EP X pins σ Q) X.xe s
  refine ne_K (tb := t) (hu_of hr) hF I.ok.mod.kin J (Z.ty _ _ I.kIn pk) hn M.ne M.top hs hf ?_
  have e0 : Env0 X.prog X.w X.K X.mg X.base X.A.in1 X.stack s H := I.env0.in1
  have r2 : Vals ([V.ref a, y] ++ []) ([Value.ref a, u] ++ []) := (Vals.append (.cons rfl (.cons ry .nil)) .nil)
  have hsp : sp ([V.ref a, y] ++ []) H (fun v H' => ∃ b, v = .bl b ∧ Q (.bl (!b)) H') E0 := q
  have hl : ([Value.ref a, u] ++ []).length = ps.length := by rw [← r2.length]; exact F.len _ _ _ _ hsp
  refine wpAny_call (codeAny_mono (F.run X.A.in1 X.stack s H ⟨[.ref a, u], []⟩ _ _ _ E0 hr.in1 e0 (hb s [.ref a, u] I.kIn hl) r2 hsp) fun r s' hq => ?_)
  cases r with
  | error e => exact pass0 pins σ H s e s' I hq
  | ok fl =>
    cases fl with
    | ret u =>
      obtain ⟨v, H', I', rv, b, rfl, q'⟩ := I.after hq
      cases rv
      exact ⟨b, rfl, .bl (!b), H', I', rfl, q'⟩
    | next => exact False.elim hq
    | brk => exact False.elim hq
    | cont => exact False.elim hq
end
end Fp
/-! Defs that may show data: no repr under way -/
namespace L2
open PySem PySem.Spec PyProof.Rows
structure FnOkG (P : Program) (w : World) (K : PySem.W.Frag) (mg : Str → Option Value) (base : Heap) (CX : CXT) (k : Nat) (f : Addr) (fd : FuncData) (ps : List Str) (sp : Sp) : Prop where
  len : ∀ vs H Q E, sp vs H Q E → vs.length = ps.length
  run : ∀ (A : Around) (outer : List Env) (s : Shared) (H : Hp) (args : Args) (us : List Value) (vs : List V) (Q : VK) (E : XK), Room k A → A.guards = some [] → Env0 P w K mg base A outer s H → BindsTo s fd args (ps.zip us) → Vals vs us → sp vs H Q E →
    codeAny (model P w) A (.call (.ref f) args) (CR CX outer P w H s Q E) s
theorem fn_ofG {CX : CXT} {P : Program} {w : World} {K : PySem.W.Frag} {mg : Str → Option Value} {base : Heap} {k : Nat} {f : Addr} {name qual : Str} {params : Arguments} {body : List Stmt} {scope : Scope} {dV kV doc pm cdv ct oc : Value} {an od : Option Addr}
    {osl : Array (Option Value)} {N ps : List Str} {sp : Sp} (lk : K.lookup f = some ⟨oc, od, .func (PySem.W.fnOf name qual params body scope dV kV doc pm an cdv ct), osl⟩) (hcd : PySem.W.codeIn K cdv qual = true) (S : FnScope N ps scope)
    (len : ∀ vs H Q E, sp vs H Q E → vs.length = ps.length)
    (hbody : ∀ (A : Around) (outer : List Env) (s : Shared) (H : Hp) (vs : List V) (Q : VK) (E : XK), Room k (A.deeper (envOfC qual scope s.heap.objs.size f cdv)) → (A.deeper (envOfC qual scope s.heap.objs.size f cdv)).guards = some [] → sp vs H Q E →
      ∃ t, PSs (cxOf CX P w K mg base N qual scope f cdv A outer s H E) body t ∧ t { nx := fun _ H' => Q .non H', rt := Q } (start N vs) H) :
    FnOkG P w K mg base CX (k + 1) f (PySem.W.fnOf name qual params body scope dV kV doc pm an cdv ct) ps sp := by
  refine ⟨len, fun A outer s H args us vs Q E hr hgu e0 hb r hsp => ?_⟩
  have hl := len _ _ _ _ hsp
  have KX : K.In s.heap := e0.mod.kin.keeps fun b o e => (e0.bs b o e).1
  have lim : s.heap.NoLimit := e0.mod.nolimit.keeps fun b o e => (e0.bs b o e).1
  have hkind : ∀ y ∈ ps.zip us, scope.names.lookup y.1 = some .local ∨ (scope.names.lookup y.1 = some .cell ∧ ((cellsFrom (s.heap.objs.size + 1) scope.names []).lookup y.1).isSome = true) := fun ⟨n, v⟩ hy => by
    rcases S.par n (List.of_mem_zip hy).1 with q | q
    · exact .inl q
    · exact .inr ⟨q, PySem.W.cellsFrom_some _ _ _ (.inl q)⟩
  refine codeAny_call_function hr.depth (KX _ _ lk) rfl S.co S.gen rfl (PySem.W.codeRec_of KX hcd) (hb _ _ _ _ ?_)
  refine wpAny_newFunctionEnv_cells S.kind hkind fun env he s1 x => ?_
  subst he
  refine ⟨lim.keeps x.toInCall.keep, codeAny_func ?_⟩
  obtain ⟨t, ht, hq⟩ := hbody A outer s H vs Q E (hr.deeper _) hgu hsp
  have I : Inv (cxOf CX P w K mg base N qual scope f cdv A outer s H E) [] (start N vs) H s1 := inv_start S hr.hd e0 hl r x
  refine wpAny_mono (ht.run [] s1 (start N vs) H _ I hq) (fun fl s' hs => ?_) fun e s' hs => hs
  have fin : ∀ {σ' : St} {H' : Hp} {v : V} {u : Value}, Inv (cxOf CX P w K mg base N qual scope f cdv A outer s H E) [] σ' H' s' → RelV v u → Q v H' → CE outer P w H s Q u s' :=
    fun {σ' H' v u} J rv q => ⟨v, H', J.os, J.bare, J.base, J.hok, rv, q⟩
  cases fl with
  | ret u =>
    obtain ⟨v, σ', H', J, rv, q⟩ := hs
    exact fin J rv q
  | next =>
    obtain ⟨σ', H', J, q⟩ := hs
    exact fin (v := V.non) (u := Value.none) J rfl q
  | brk =>
    obtain ⟨_, _, _, q⟩ := hs
    exact False.elim q
  | cont =>
    obtain ⟨_, _, _, q⟩ := hs
    exact False.elim q
theorem law_callG {P : Program} {w : World} {K : PySem.W.Frag} {mg mb : Str → Option Value} {CX : CXT} {k : Nat} {fa a : Addr} {fd : FuncData} {x : Str} {sp : Sp} {s₁ : Shared} {vs : List Value} {ns : List Int}
    (KX : K.In s₁.heap) (hns : s₁.heap.Ns mainGlobals mg) (hb : s₁.heap.Ns builtinsNs mb) (hbb : ∀ x : Str, x ≠ "__name__" → mb x = bootBuiltins x) (hlim : s₁.heap.NoLimit) (hg : s₁.gens = #[])
    (ha : s₁.heap.get? a = some { cls := .type "list", data := .seq vs.toArray }) (hi : IntsAre vs ns) (hl : ns.length ≤ sizeLine) (hr : Room k callerA)
    (F : ∀ base : Heap, K.In base → base.Ns mainGlobals mg → FnOkG P w K mg base CX k fa fd [x] sp) (hbind : ∀ (s : Shared) (u : Value), BindsTo s fd ⟨[u], []⟩ [(x, u)])
    (hsp : ∀ H : Hp, Only H → SqL K H a (ns.map V.int) → sp [.ref a] H (fun v _ => v = .bl true) fun _ _ _ => False)
    (hCX : ∀ H e s', CX [] H s₁ (fun _ _ _ => False) e s' → False) :
    codeAny (model P w) callerA (.call (.ref fa) ⟨[.ref a], []⟩) (fun r s' => r = .ok (.ret (.bool true)) ∧ OldK s₁.heap s'.heap ∧ s'.os = s₁.os ∧ AllBare s'.gens) s₁ := by
  have rv := vals_ints hi
  have lenV := hi.length
  -- from an abstract heap in which nothing but the script may be tracked
  have core : ∀ H : Hp, Only H → SqL K H a (ns.map V.int) → HOk P w H s₁.heap → (∀ b, H b ≠ none → b = a) → (H a ≠ none → K.lookup a = none) →
      codeAny (model P w) callerA (.call (.ref fa) ⟨[.ref a], []⟩) (fun r s' => r = .ok (.ret (.bool true)) ∧ OldK s₁.heap s'.heap ∧ s'.os = s₁.os ∧ AllBare s'.gens) s₁ := by
    intro H hO hS hok hA hK
    have base_of : ∀ {b : Addr} {o : Obj}, s₁.heap.get? b = some o → H b = none → (hidT s₁.heap H).get? b = some o := fun e n => hidT_get e n
    have noA : ∀ {b : Addr} {o : Obj} {es : Array DictEntry} {ep : Nat}, s₁.heap.get? b = some o → o.data = .dict es ep → H b = none := fun {b o es ep} e d => by
      cases q : H b with
      | none => rfl
      | some u =>
        have e' : b = a := hA b (by rw [q]; simp)
        subst e'
        rw [ha] at e; cases e
        have d' : Data.seq vs.toArray _ = Data.dict es ep := d
        cases d'
    have nsK : ∀ {b : Addr} {m : Str → Option Value}, s₁.heap.Ns b m → (hidT s₁.heap H).Ns b m := fun {b m} ⟨o, es, ep, e, d, r⟩ => ⟨o, es, ep, base_of e (noA e d), d, r⟩
    have hKb : K.In (hidT s₁.heap H) := fun b o e => base_of (KX b o e) (by
      cases q : H b with
      | none => rfl
      | some u =>
        have e' : b = a := hA b (by rw [q]; simp)
        subst e'
        rw [hK (by rw [q]; simp)] at e; cases e)
    have hM : Mod K mg (hidT s₁.heap H) := ⟨hKb, nsK hns, ⟨mb, nsK hb, hbb⟩, let ⟨mc, h1, h2⟩ := hlim; ⟨mc, nsK h1, h2⟩⟩
    have e0 : Env0 P w K mg (hidT s₁.heap H) callerA [] s₁ H := ⟨rfl, hM, fun b o e => of_hidT e, Nat.le_of_eq (hidT_size _ _), trivial, fun b hb => absurd (show b ∈ ([] : List Addr) from hb) (by simp), hok, .of_eq hg⟩
    refine codeAny_mono ((F _ hKb (nsK hns)).run callerA [] s₁ H ⟨[.ref a], []⟩ [.ref a] [.ref a] _ _ hr rfl e0 (hbind s₁ (.ref a)) (.cons rfl .nil) (hsp H hO hS)) fun r s' h => ?_
    cases r with
    | error e => exact (hCX H e s' h).elim
    | ok fl =>
      cases fl with
      | next => exact False.elim h
      | brk => exact False.elim h
      | cont => exact False.elim h
      | ret u =>
        obtain ⟨v, H', os, bare, un, hok', r', q⟩ := h
        have q' : v = .bl true := q
        subst q'
        obtain rfl : u = Value.bool true := r'
        refine ⟨rfl, OldK.of_keep fun b o e => ?_, os, bare⟩
        cases q : H b with
        | none => exact un.keep b o e q (by intro z; exact absurd (show b ∈ ([] : List Addr) from z) (by simp)) (by simp)
        | some u =>
          rcases hO b with z | ⟨ob, xs, z⟩
          · rw [q] at z; cases z
          · have z2 := un.frzs b ob _ z
            obtain ⟨e1, _⟩ := hok b _ z
            obtain ⟨e2, _⟩ := hok' b _ z2
            rw [e] at e1; cases e1
            exact e2
  cases hk : K.lookup a with
  | some o =>
    -- the script is one of the module's own objects
    have e := KX a o hk
    rw [ha] at e
    cases e
    refine core (fun _ => none) (fun _ => .inl rfl) (.inr ⟨_, vs.toArray, _, hk, rfl, rfl, rfl, by rw [List.size_toArray, lenV]; exact hl, by simpa using rv⟩) (fun b u z => by have z' : (none : Option HO) = some u := z; cases z') (fun b z => absurd rfl z) fun z => absurd rfl z
  | none =>
    refine core (fun b => if b = a then some (.frz { cls := .type "list", data := .seq vs.toArray } (.lst (ns.map V.int))) else none) (fun b => ?_) (.inl (.inr ⟨{ cls := .type "list", data := .seq vs.toArray }, if_pos rfl⟩)) (fun b u z => ?_) (fun b z => ?_) fun _ => hk
    · by_cases hb : b = a
      · exact .inr ⟨_, _, if_pos hb⟩
      · exact .inl (if_neg hb)
    · by_cases hb : b = a
      · have z' := (if_pos hb).symm.trans z
        cases z'
        subst hb
        exact ⟨ha, by rw [List.length_map]; exact hl, vs, _, rv, ha⟩
      · have z' := (if_neg hb).symm.trans z
        cases z'
    · by_cases hb : b = a
      · exact hb
      · exact absurd (if_neg hb) z
theorem walk_ofG {l : PySem.W.OpenLaw} {n k : Nat} {q : Program} {loose : List Str} {XP : (Str → Option Value) → Heap → Prop} {YP : World → Heap → Prop} {d : DefRec} {K : Params → PySem.W.Frag} {CX : World → CXT} {sp : World → Sp} {x : Str}
    (hn : l.most = some n) (hn2 : n ≤ sizeLine) (hdf : d.params.defaults = []) (hr : Room k callerA)
    (hY : ∀ (w : World) (h : Heap), YP w h → (K w.params).In h)
    (F : ∀ (w : World) (mg : Str → Option Value) (fa : Addr) (h : Heap), (K w.params).In h → h.Ns mainGlobals mg → mg d.name = some (.ref fa) →
      ∃ fd : FuncData, (∀ (s : Shared) (u : Value), BindsTo s fd ⟨[u], []⟩ [(x, u)]) ∧
        ∀ base : Heap, (K w.params).In base → base.Ns mainGlobals mg → FnOkG l.prog w (K w.params) mg base (CX w) k fa fd [x] (sp w))
    (hsp : ∀ (w : World) (H : Hp) (a : Addr) (ns : List Int), ns.length ≤ n → Only H → SqL (K w.params) H a (ns.map V.int) → sp w [.ref a] H (fun v _ => v = .bl true) fun _ _ _ => False)
    (hCX : ∀ (w : World) (H : Hp) (s : Shared) (e : Value) (s' : Shared), CX w [] H s (fun _ _ _ => False) e s' → False) :
    PySem.W.WalkO q loose XP YP l.row.toRowW d [] (fun f vs => PySem.call f vs) := by
  refine Att.attach_call hn hdf fun w s₀ s₁ mg mb fa o pm cd doc a vs ns G Y ho hd hcd hmg hobj hints hlen hg => ?_
  have KX := hY w _ Y
  obtain ⟨fd, hb, hF⟩ := F w mg fa _ KX G.T.g hmg
  exact law_callG KX G.T.g G.T.b G.T.builtins G.T.nolimit hg hobj hints (Nat.le_trans hlen hn2) hr hF hb (fun H hO hS => hsp w H a ns hlen hO hS) fun H e s' => hCX w H s₁ e s'
theorem FnOk.toG {P : Program} {w : World} {K : PySem.W.Frag} {mg : Str → Option Value} {base : Heap} {CX : CXT} {k : Nat} {f : Addr} {fd : FuncData} {ps : List Str} {sp : Sp} (F : FnOk P w K mg base CX k f fd ps sp) : FnOkG P w K mg base CX k f fd ps sp :=
  ⟨F.len, fun A outer s H args us vs Q E hr _ => F.run A outer s H args us vs Q E hr⟩
end L2
namespace Fp
open PySem PySem.Spec PyProof.Rows L2
section
variable {P : Program} {w : World} {K : PySem.W.Frag} {mg : Str → Option Value} {base : Heap}
theorem fun_okG {x qual : Str} {st : Stmt} {f : Addr} {fd : FuncData} {N ps : List Str} {k : Nat} {sp : Sp} (F : Fun K x qual st f fd) (S : FnScope N ps (defScope st)) (len : ∀ vs H Q E, sp vs H Q E → vs.length = ps.length)
    (hbody : ∀ (cdv : Value) (A : Around) (outer : List Env) (s : Shared) (H : Hp) (vs : List V) (Q : VK) (E : XK), Room k (A.deeper (envOfC qual (defScope st) s.heap.objs.size f cdv)) → (A.deeper (envOfC qual (defScope st) s.heap.objs.size f cdv)).guards = some [] → sp vs H Q E →
      ∃ t, PSs (cxOf CX0 P w K mg base N qual (defScope st) f cdv A outer s H E).nox (defBody st) t ∧ t { nx := fun _ H' => Q .non H', rt := Q } (start N vs) H) : FnOkG P w K mg base CX0 (k + 1) f fd ps sp := by
  obtain ⟨oc, od, kV, doc, pm, an, cdv, ct, osl, rfl, lk, hcd⟩ := F.ex
  refine fn_ofG lk hcd S len fun A outer s H vs Q E hr hg hsp => ?_
  obtain ⟨t, h, q⟩ := hbody cdv A outer s H vs Q E hr hg hsp
  exact ⟨t, h.nox, q⟩
structure FdG (P : Program) (w : World) (K : PySem.W.Frag) (mg : Str → Option Value) (base : Heap) (CX : CXT) (x : Str) (k : Nat) (ps : List Str) (sp : Sp) : Prop where
  ex : ∃ (f : Addr) (fd : FuncData), mg x = some (.ref f) ∧ PySem.W.keepIn K (.ref f) = true ∧ Binds K fd ps [] ∧ FnOkG P w K mg base CX k f fd ps sp
end
section
variable {X : Cx} {x : Str} {k : Nat} {ps : List Str} {sp : Sp} {e : Expr} {es : List Expr} {t : TA} {p pos : Pos}
theorem pe_fdG (G : FdG X.prog X.w X.K X.mg X.base CX0 x k ps sp) (hr : Room k X.A) (hgu : X.A.guards = some []) (hg : Gl X x) (ha : PA X (e :: es) t) (hdb : (x == ("__debug__" : Str)) = false := by decide)
    (he : starEach (e :: es) X.env = (false, eval e X.env) :: starEach es X.env := by rfl) (hpl : (backTo pos (starEach es X.env)).any (·.1) = false := by rfl) :
    PE X (.Call (.Name x p) (e :: es) [] pos) (tCall sp [] E0 t) := by
  obtain ⟨f, fd, hm, hk, hb, F⟩ := G.ex
  refine ⟨fun pins s σ H Q I h => ?_⟩
  refine wpAny_Call_Name_kw (ld_glob I hg hm ?_ hdb)
  refine PySem.W.callWith_K (h₀ := X.base) I.ok.mod.kin hk (thn (ha.run pos pins s σ H _ I h) fun us s1 ⟨vs, H1, I1, r, q⟩ => ⟨I1.kIn, ?_⟩) he hpl
  have r2 : Vals (vs ++ []) (us ++ []) := r.append .nil
  have hl : (us ++ []).length = ps.length := by rw [← r2.length]; exact F.len _ _ _ _ q
  refine wpAny_call (codeAny_mono (F.run X.A X.stack s1 H1 ⟨us, []⟩ (us ++ []) (vs ++ []) Q E0 hr hgu I1.env0 (hb s1 us I1.kIn hl) r2 q) fun r s' hq => ?_)
  cases r with
  | error e => exact pass0 pins σ H1 s1 e s' I1 hq
  | ok fl =>
    cases fl with
    | ret u => exact I1.after hq
    | next => exact False.elim hq
    | brk => exact False.elim hq
    | cont => exact False.elim hq
/-- repr(x), x of data -/
theorem call_reprG (hgu : X.A.guards = some []) (hu : X.A.units + 64 < cLine) : CallR X (.builtin "repr") (fun xs H Q => ∃ (p : Addr) (d : PyData), xs = [.ref p] ∧ Dp X.K H (.ref p) d ∧ d.showable = true ∧ d.hasDict = false ∧ d.depth ≤ 60 ∧ d.shown.length ≤ sizeLine ∧ Q (.str d.shown) H) := by
  intro pins s σ H xs us Q I r h
  obtain ⟨p, d, rfl, hd, h1, h2, h3, h4, q⟩ := h
  obtain ⟨u, rfl, rx⟩ := vals1 r
  obtain ⟨as, rd⟩ := Dp.reads I d _ u hd rx
  cases rx
  exact repr_of_reads' rd h1 (fun z => by rw [h2] at z; cases z) hgu (by omega) (fun _ _ z => z) (fun h' u tk k => ⟨.str d.shown, H, I.kept (t' := tk) k, ⟨_, rfl⟩, q⟩) h4
end
end Fp
namespace Fp
open PySem PySem.Spec PyProof.Rows L2
/-! ### for i, x in enumerate(tuple, start) -/
def ItF (K : PySem.W.Frag) (a : Addr) (lo : Int) : It :=
  ⟨fun i H => ∃ (ys : List V) (y : V), SqT K H a ys ∧ ys[i]? = some y,
   fun i H v H' => ∃ T y, v = .ref T ∧ H T = none ∧ H' = upd H T (.tup [.int (lo + (i : Nat)), y]) ∧ ∀ ys, SqT K H a ys → ys[i]? = some y,
   fun i H => ∃ ys : List V, SqT K H a ys ∧ ys.length ≤ i⟩
theorem turn_enumF {P : Program} {w : World} {K : PySem.W.Frag} {elts : List Expr} {kk : Nat} {tpos : Pos} (a e it : Addr) (lo : Int) :
    Turn P w K (.Tuple elts kk tpos) (ItF K a lo) [e, it] e (fun i h => (∃ was, IsEnum h e it (lo + ((i : Nat) : Int)) was) ∧ h.IsTupleIter it a i ∧ e ≠ it) where
  mem := List.mem_cons_self
  obj := fun i h st b hb => by
    obtain ⟨⟨was, he⟩, ⟨o, ho, hc, hd⟩, _⟩ := st
    rcases List.mem_cons.mp hb with z | z
    · subst z
      exact ⟨_, he, fun v q => nomatch q⟩
    · have z' := List.mem_singleton.mp z
      subst z'
      exact ⟨o, ho, fun v q => by rw [hd] at q; cases q⟩
  keep := fun i h h' st k => ⟨st.1.imp fun was he => k e (by simp) _ he, st.2.1.at fun o q => k it (by simp) o q, st.2.2⟩
  item := by
    intro X hP hw hK hc i pins s σ H E I hf st hg
    subst hP hw hK
    obtain ⟨⟨was, he⟩, hit, hne⟩ := st
    obtain ⟨ys, y, hq, hx⟩ := hg
    obtain ⟨its, rv, lp, hz⟩ := I.tuple hq
    obtain ⟨u, hu, ru⟩ := rv.get hx
    have le : e < s.heap.objs.size := Heap.lt_size he
    have li : it < s.heap.objs.size := by
      obtain ⟨_, q, _⟩ := hit
      exact Heap.lt_size q
    have fr := I.hok.fresh (Nat.le_refl s.heap.objs.size)
    have hL := lp
    have nel : e ≠ a := fun z => by
      obtain ⟨o, ho, hc', _⟩ := hL
      rw [← z, (show s.heap.get? e = some _ from he)] at ho
      cases ho
      injection hc' with z'
      exact absurd z' (by decide)
    have nil' : a ≠ it := fun z => by
      obtain ⟨o, ho, hc', _⟩ := hL
      obtain ⟨o2, ho2, hc2, _⟩ := hit
      rw [z, ho2] at ho
      cases ho
      rw [hc2] at hc'
      injection hc' with z'
      exact absurd z' (by decide)
    have hiu : its.toArray[i]? = some u := by simpa using hu
    have hlt : i < its.toArray.size := by
      by_cases z : i < its.toArray.size
      · exact z
      · rw [Array.getElem?_eq_none (by omega)] at hiu
        cases hiu
    refine wpAny_pyNext_enum_itemC (Draws.tuple (A := X.A.in1) (I.ok.hd hc) it a nil' its.toArray) he ⟨hit, hL⟩ hlt hne (by simp [hne, nel]) fun x h1 tk hx1 ho hst1 hT hsz hk => ⟨_, rfl, ?_⟩
    rw [hiu] at hx1
    cases hx1
    have hit1 := hst1.1
    refine wpAny_letOwnedTupleGo_enum (s := { s with heap := h1, toks := tk + 1 }) ho fun h2 he2 sb => ?_
    have hT2 := (sb.2 _ (Nat.ne_of_gt le)).trans hT
    have mem2 : ∀ {b : Addr}, b ∈ [e, it] → b < s.heap.objs.size := fun {b} hb => by
      rcases List.mem_cons.mp hb with z | z
      · rw [z]; exact le
      · rw [List.mem_singleton.mp z]; exact li
    refine ⟨.ref s.heap.objs.size, upd H s.heap.objs.size (.tup [.int (lo + (i : Nat)), y]), ?_, rfl, ⟨_, y, rfl, fr, rfl, fun zs hy => by rw [I.tuple_inj hy hq]; exact hx⟩, ⟨⟨u, ?_⟩, hit1.at fun o q => (sb.2 it (Ne.symm hne)).trans q, hne⟩, fun b hb => ?_⟩
    · refine I.turnedNew (ch := [e, it]) (fun b ob hb q => ?_) hf (Nat.le_refl _) ⟨by show 2 ≤ sizeLine; decide, [.int (lo + (i : Nat)) tk, u], .cons ⟨_, rfl⟩ (.cons ru .nil), ⟨_, hT2, rfl, _, rfl⟩⟩
      have be : b ≠ e := fun z => hb (by simp [z])
      have bi : b ≠ it := fun z => hb (by simp [z])
      exact (sb.2 b be).trans (hk b ob be bi q)
    · have e1 : lo + (((i + 1 : Nat)) : Int) = lo + (i : Int) + 1 := by omega
      rw [e1]
      exact he2
    · rw [upd_ne (Nat.ne_of_lt (mem2 hb))]
      exact (hf b hb).1
  done := by
    intro X hP hw hK hc i pins s σ H E I hf st hg
    subst hP hw hK
    obtain ⟨⟨was, he⟩, hit, hne⟩ := st
    obtain ⟨ys, hq, hx⟩ := hg
    obtain ⟨its, rv, lp, hz⟩ := I.tuple hq
    obtain ⟨f0, f1, f2, f3, f4, f5⟩ := hf it (by simp)
    have hl := rv.length
    have D : Draws X.prog X.w X.A.in1 it [it, a] i (fun _ _ => False) (fun j h => j = i ∧ h.IsTupleIter it a i ∧ h.IsTuple a its.toArray) := {
      live := fun j h st => by
        obtain ⟨_, ⟨o, ho, _⟩, _⟩ := st
        exact ⟨o, ho⟩
      frame := fun j h h' st k => ⟨st.1, st.2.1.at fun o q => k it (by simp) o q, st.2.2.at fun o q => k a (by simp) o q⟩
      item := fun j s Q E hj st _ => by
        have := st.1
        omega
      done := fun s Q E st hE => wpAny_nextOf_tuple_end (I.ok.hd hc) st.2.1 st.2.2 (by simp; omega) hE }
    exact wpAny_pyNext_enum_endD D he ⟨rfl, hit, lp⟩ fun h1 eb => ⟨rfl, I.turned (t' := s.toks) (fun b o hb q => eb b o hb q) f0 f1 f3 f4 f5⟩
  self := fun A i s Q E st h => st.1.elim fun _ he => wpAny_pyIter_enum he h
def iEnumF (K : PySem.W.Frag) (ta : TA) : TI := fun σ H R => ta σ H fun vs H1 => ∃ a xs lo, vs = [.ref a, .int lo] ∧ SqT K H1 a xs ∧ -(2 ^ 62) ≤ lo ∧ lo < 2 ^ 62 ∧ R (ItF K a lo) H1
theorem pi_enumF {X : Cx} {e1 e2 : Expr} {ta : TA} {p pos tpos : Pos} {elts : List Expr} {kk : Nat} (hg : Gl X "enumerate") (hm : X.mg "enumerate" = none) (ha : PA X [e1, e2] ta)
    (he : starEach (e1 :: [e2]) X.env = (false, eval e1 X.env) :: starEach [e2] X.env := by rfl) (hpl : (backTo pos (starEach [e2] X.env)).any (·.1) = false := by rfl) :
    PI X (.Tuple elts kk tpos) (.Call (.Name "enumerate" p) [e1, e2] [] pos) (iEnumF X.K ta) := by
  refine ⟨fun pins s σ H R I h => ?_⟩
  refine Call_ (ld_blt I hg hm boot_enumerate (PyProof.Rows.callWith_type1 (thn (ha.run pos pins s σ H _ I h) fun us s1 hh => ?_) he hpl))
  obtain ⟨vs, H1, I1, r1, a, xs, lo, ex, hq, hl0, hl1, q⟩ := hh
  subst ex
  obtain ⟨u1, u2, rfl, ra, rb⟩ := vals2 r1
  obtain rfl : u1 = Value.ref a := ra
  obtain ⟨t, rfl⟩ := rb
  obtain ⟨its, rv, lp, hz⟩ := I1.tuple hq
  refine enum_begins (begins_tuple a its.toArray) lp (by omega) (by omega) fun h1 he hit hsz hk => wpAny_pyIter_enum he ?_
  have I2 : Inv X pins σ H1 { s1 with heap := h1 } := I1.kept (t' := s1.toks) hk
  refine ⟨s1.heap.objs.size + 1, [s1.heap.objs.size + 1, s1.heap.objs.size], _, _, H1, rfl, I2, turn_enumF a (s1.heap.objs.size + 1) s1.heap.objs.size lo, ⟨⟨.none, by simpa using he⟩, ⟨_, hit, rfl, rfl⟩, Nat.succ_ne_self _⟩, fun b hb => ?_, q⟩
  have hle : s1.heap.objs.size ≤ b := by
    rcases List.mem_cons.mp hb with z | z
    · rw [z]; exact Nat.le_add_right _ _
    · rw [List.mem_singleton.mp z]; exact Nat.le_refl _
  exact I1.fpOk hle (I1.hok.fresh hle)

set_option maxHeartbeats 1000000 in
theorem meets_enumerate_newB1 {v : Value} {o : Obj} {H : Heap → Prop} (B : Begins v o H) :
    Meets (Builtin.«enumerate.__new__» ⟨[.type "enumerate", v], []⟩) (fun _ R s => H s.heap ∧
      R (.ok (.ret (.ref (s.heap.push o).objs.size))) { s with heap := (s.heap.push o).push { cls := .type "enumerate", data := .fields #[.none, .bool false, .ref s.heap.objs.size, rawInt 0, .none, .none] } }) :=
  .of_wp fun prog w A R s h => by
    obtain ⟨hp, g, d, tk, os⟩ := s; obtain ⟨h1, h⟩ := h
    have hsub := sub_enumerate
    have q1 : ∀ {A' : Around} {E : Value → Shared → Prop} {Q : Value → Shared → Prop}, Q (.ref hp.objs.size) ⟨hp.push o, g, d, tk, os⟩ → wpAny (model prog w) A' (pyIter v) Q E ⟨hp, g, d, tk, os⟩ :=
      fun q => B.iter prog w _ _ ⟨hp, g, d, tk, os⟩ _ h1 q
    wp_walk using q1
    refine wpAny_stack_any fun st => wpAny_pure ?_
    split
    · rename_i c _ _ _ _ _
      cases (c == Value.type "enumerate")
      · wp_walk using q1
        exact ⟨_, rfl, h⟩
      · wp_walk using q1
        exact ⟨_, rfl, h⟩
    · wp_walk using q1
      exact ⟨_, rfl, h⟩
section
variable {prog : Program} {w : World} {A : Around} {E : Value → Shared → Prop} {s : Shared}
theorem enum_begins1 {v : Value} {o : Obj} {H : Heap → Prop} {Q : Value → Shared → Prop} (B : Begins v o H) (h1 : H s.heap)
    (h : ∀ h', IsEnum h' (s.heap.objs.size + 1) s.heap.objs.size 0 .none → h'.get? s.heap.objs.size = some o → h'.objs.size = s.heap.objs.size + 2 →
      (∀ b o, s.heap.get? b = some o → h'.get? b = some o) → Q (.ref (s.heap.objs.size + 1)) { s with heap := h' }) :
    wpAny (model prog w) A (call (.type "enumerate") [v]) Q E s := by
  refine callType_new F.called_enumerate (by decide) (F.typeCall_enumerate_1 _) (F.newCall_enumerate_1 _) (fun obj => F.args_object_init_2 obj _) F.entry_enumerate_new
    (meets_enumerate_newB1 B) ⟨h1, ?_⟩
  have hz : (s.heap.push o).objs.size = s.heap.objs.size + 1 := Heap.size_push ..
  show _ ∧ _
  rw [hz]
  have he : IsEnum ((s.heap.push o).push { cls := .type "enumerate", data := .fields #[.none, .bool false, .ref s.heap.objs.size, rawInt 0, .none, .none] }) (s.heap.objs.size + 1) s.heap.objs.size 0 .none := by
    have := Heap.get?_push_size (s.heap.push o) (o := { cls := .type "enumerate", data := .fields #[.none, .bool false, .ref s.heap.objs.size, rawInt 0, .none, .none] }) rfl
    rw [hz] at this; exact this
  refine ⟨⟨_, he, rfl⟩, h _ he (Heap.get?_push_of_some _ (Heap.get?_push_size _ B.free)) (by rw [Heap.size_push, hz]) fun b o x => Heap.get?_push_of_some _ (Heap.get?_push_of_some _ x)⟩
end
def iEnumT (K : PySem.W.Frag) (ta : TA) : TI := fun σ H R => ta σ H fun vs H1 => ∃ a xs, vs = [.ref a] ∧ SqT K H1 a xs ∧ R (ItF K a 0) H1
theorem pi_enumT {X : Cx} {e1 : Expr} {ta : TA} {p pos tpos : Pos} {elts : List Expr} {kk : Nat} (hg : Gl X "enumerate") (hm : X.mg "enumerate" = none) (ha : PA X [e1] ta)
    (hs : starEach [e1] X.env = [(false, eval e1 X.env)] := by rfl) :
    PI X (.Tuple elts kk tpos) (.Call (.Name "enumerate" p) [e1] [] pos) (iEnumT X.K ta) := by
  refine ⟨fun pins s σ H R I h => ?_⟩
  refine Call_ (ld_blt I hg hm boot_enumerate (PyProof.Rows.callWith_type1 (thn (ha.run pos pins s σ H _ I h) fun us s1 hh => ?_) hs rfl))
  obtain ⟨vs, H1, I1, r1, a, xs, ex, hq, q⟩ := hh
  subst ex
  obtain ⟨u1, rfl, ra⟩ := vals1 r1
  obtain rfl : u1 = Value.ref a := ra
  obtain ⟨its, rv, lp, hz⟩ := I1.tuple hq
  refine enum_begins1 (begins_tuple a its.toArray) lp fun h1 he hit hsz hk => wpAny_pyIter_enum he ?_
  have I2 : Inv X pins σ H1 { s1 with heap := h1 } := I1.kept (t' := s1.toks) hk
  refine ⟨s1.heap.objs.size + 1, [s1.heap.objs.size + 1, s1.heap.objs.size], _, _, H1, rfl, I2, turn_enumF a (s1.heap.objs.size + 1) s1.heap.objs.size 0, ⟨⟨.none, by simpa using he⟩, ⟨_, hit, rfl, rfl⟩, Nat.succ_ne_self _⟩, fun b hb => ?_, q⟩
  have hle : s1.heap.objs.size ≤ b := by
    rcases List.mem_cons.mp hb with z | z
    · rw [z]; exact Nat.le_add_right _ _
    · rw [List.mem_singleton.mp z]; exact Nat.le_refl _
  exact I1.fpOk hle (I1.hok.fresh hle)
theorem walk_enumT {K : PySem.W.Frag} {a : Addr} {xs : List V} {lo : Int} : Walk (ItF K a lo) xs.length (fun H => SqT K H a xs) (fun i H v H' => ∃ T y, v = .ref T ∧ H T = none ∧ H' = upd H T (.tup [.int (lo + (i : Nat)), y]) ∧ xs[i]? = some y) where
  goes := fun i H hi h => ⟨xs, xs[i], h, List.getElem?_eq_getElem hi⟩
  stops := fun H h => ⟨xs, h, Nat.le_refl _⟩
  yields := fun i H v H' hi h y => by
    obtain ⟨T, y, e1, e2, e3, e4⟩ := y
    exact ⟨T, y, e1, e2, e3, e4 _ h⟩
end Fp
/-! Rules: tuple * 1, tuple.index of flat items, repr of any data, not equal -/
namespace L2
open PySem PySem.Spec PyProof.Rows
theorem tuple_mul1 (l : Addr) (items : Array Value) (n : Nat) (dd : Option Addr) (sl : Array (Option Value)) (u : Tok) :
    Meets (Builtin.«tuple.__mul__» ⟨[.ref l, .int 1 u], []⟩) (fun _ R s => s.heap.get? l = some { cls := .type "tuple", dict := dd, data := .seq items n, slots := sl } ∧
      R (.ok (.ret (Value.ref l))) s) :=
  .of_wp fun prog w A R s h => by
    obtain ⟨hp, g, d, tk, os⟩ := s
    obtain ⟨hl, h⟩ := h
    have f1 := AutoSeq1.idx_int
    have c0 : ¬ ((decide ((1 : Int) < -(2 ^ 63)) || decide ((1 : Int) ≥ 2 ^ 63)) = true) := by decide
    have c1 : (items.isEmpty || (1 : Int) == 1) = true := by simp
    wp_walk using wpAny_loadPart' hl
    repeat (first
      | (refine wpAny_ite_false (decide_eq_false (by decide)) ?_; wp_walk using wpAny_loadPart' hl)
      | (refine wpAny_ite_true (decide_eq_true c1) ?_; wp_walk using wpAny_loadPart' hl))
    all_goals first | exact ⟨_, rfl, h⟩ | exact h
def rRepU (K : PySem.W.Frag) : R2 := fun x y H Q => ∃ l k xs, x = .ref l ∧ y = .int k ∧ SqT K H l xs ∧ xs ≠ [] ∧ 1 ≤ k ∧ k ≤ 1000 ∧ xs.length ≤ 1000 ∧ (k = 1 → Q (.ref l) H) ∧ (2 ≤ k → ∀ p, H p = none → Q (.ref p) (upd H p (.tup (List.replicate k.toNat xs).flatten)))
section
variable {X : Cx}
theorem op_repU : OpR X (binaryOp .Mult) (rRepU X.K) := by
  intro pins s σ H x y v u Q I rx ry h
  obtain ⟨l, k, xs, rfl, rfl, hT, hne, h1, h2, hz, q1, q2⟩ := h
  by_cases hk : k = 1
  · subst hk
    cases rx
    obtain ⟨t, rfl⟩ := ry
    obtain ⟨its, r, ⟨⟨cls, dd, data, sl⟩, ho, hc, n, hd⟩, hs⟩ := I.tuple hT
    simp only at hc hd
    subst hc hd
    refine wpAny_binaryOp_repeat_ref (T := "tuple") (U := "int") (by decide) ⟨_, ho, rfl⟩ (fun s' => typeIs_int s' 1 t) noFill_tuple_mul F.fills_int_mul F.slot_int_rmul repeat_tuple F.slot_int_index.lookup
      (call_meets F.slot_int_rmul (typeIs_int s 1 t) F.entry_int_rmul (F.args_int_rmul_2 _ _) (int_rmul_tuple 1 t l its.toArray n dd sl)
        ⟨ho, rfl, ⟨_, ho, rfl⟩, call_meets F.slot_tuple_mul ⟨_, ho, rfl⟩ F.entry_tuple_mul (F.args_tuple_mul_2 _ _) (tuple_mul1 l its.toArray n dd sl t) ⟨ho, ?_⟩⟩)
    exact ⟨.ref l, H, I, rfl, q1 rfl⟩
  · exact op_repT pins s σ H _ _ v u Q I rx ry ⟨l, k, xs, rfl, rfl, hT, hne, by omega, h2, hz, q2 (by omega)⟩
/-- t.index(x), x and all of t flat: the first place -/
theorem mt_tindex : MtR X "tuple.index" (fun x xs H Q => ∃ (p : Addr) (ys : List V) (y : V) (j : Nat) (z : V), x = .ref p ∧ xs = [y] ∧ SqT X.K H p ys ∧ flatV y = true ∧ ys.all flatV = true ∧ ys[j]? = some z ∧ eqV z y = true ∧
    (∀ (m : Nat) (z' : V), m < j → ys[m]? = some z' → eqV z' y = false) ∧ Q (.int (j : Nat)) H) := by
  intro pins s σ H x xs v us Q I rx rs h
  obtain ⟨p, ys, y, j, z, rfl, rfl, hq, fy, fys, hz, hzj, hno, q⟩ := h
  cases rx
  obtain ⟨uy, rfl, ry⟩ := vals1 rs
  obtain ⟨its, rv, pl, hlen⟩ := I.tuple hq
  obtain ⟨⟨cls, dd, dt, sl⟩, ho, hc, n, hd⟩ := pl
  simp only at hc hd
  subst hc
  subst hd
  obtain ⟨u, hu, ru⟩ := rv.get hz
  obtain ⟨hjl, hje⟩ := List.getElem?_eq_some_iff.mp hu
  have hvl := rv.length
  have hj : j < its.toArray.size := by simpa using hjl
  refine call_meets PySem.F.slot_tuple_index ⟨_, ho, rfl⟩ PySem.F.entry_tuple_index (PySem.F.args_tuple_index_2 _ _) (TI.tuple_indexAt p its.toArray n dd sl uy (eqU y) j hj ?_ ?_)
    ⟨ho, fun u' hu' => mem_eqAt ry fy rv fys u' (by simpa using hu'), ⟨.int (j : Nat), H, I.tok _, ⟨_, rfl⟩, q⟩⟩
  · have e1 : its.toArray[j] = u := by simpa using hje
    rw [e1, eqU_of ru (flat_at fys hz)]
    exact hzj
  · intro m hm hmj
    have hml : m < its.length := by simpa using hm
    have hmy : m < ys.length := by omega
    have hy' : ys[m]? = some ys[m] := List.getElem?_eq_getElem hmy
    obtain ⟨u2, hu2, ru2⟩ := rv.get hy'
    obtain ⟨_, hme⟩ := List.getElem?_eq_some_iff.mp hu2
    have e1 : its.toArray[m] = u2 := by simpa using hme
    rw [e1, eqU_of ru2 (flat_at fys hy')]
    exact hno m _ hmj hy'
/-! ### tuples of which it is known that they have no dict -/
def TF (H : Hp) (a : Addr) (xs : List V) : Prop := ∃ o, H a = some (.frz o (.tup xs)) ∧ o.dict = none
theorem TF.sq {K : PySem.W.Frag} {H : Hp} {a : Addr} {xs : List V} (h : TF H a xs) : SqT K H a xs := by
  obtain ⟨o, h, _⟩ := h
  exact .inl (.inr ⟨o, h⟩)
def tTupF (t : TA) : TE := fun σ H Q => t σ H fun xs H1 => xs.length ≤ sizeLine ∧ ∀ p o, H1 p = none → o.dict = none → Q (.ref p) (upd H1 p (.frz o (.tup xs)))
theorem pe_tupF {es : List Expr} {x1} {t : TA} {pos : Pos} (h : PA X es t) : PE X (.Tuple es x1 pos) (tTupF t) := by
  refine ⟨fun pins s σ H Q I hq => ?_⟩
  refine wpAny_Tuple_spliced (thn (h.run pos pins s σ H _ I hq) fun us s1 ⟨xs, H1, I1, r, z, q⟩ => ⟨by rw [← r.length]; exact z, ?_⟩)
  have hf : H1 s1.heap.objs.size = none := I1.hok.fresh (Nat.le_refl _)
  refine ⟨.ref s1.heap.objs.size, upd H1 s1.heap.objs.size (.frz { cls := .type "tuple", data := .seq us.toArray } (.tup xs)), I1.laid (t' := s1.toks) (fun b u e => Heap.get?_push_of_some _ e) (Nat.le_refl _) ?_, rfl, q _ _ hf rfl⟩
  exact ⟨Heap.get?_push_size _ rfl, z, us, r, ⟨_, Heap.get?_push_size _ rfl, rfl, _, rfl⟩⟩
def rCatF (K : PySem.W.Frag) : R2 := fun x y H Q => ∃ a b xs ys, x = .ref a ∧ y = .ref b ∧ SqT K H a xs ∧ SqT K H b ys ∧ xs.length + ys.length ≤ sizeLine ∧
  (xs = [] → Q (.ref b) H) ∧ (xs ≠ [] → ys = [] → Q (.ref a) H) ∧ (xs ≠ [] → ys ≠ [] → ∀ p o, H p = none → o.dict = none → Q (.ref p) (upd H p (.frz o (.tup (xs ++ ys)))))
theorem op_catF : OpR X (binaryOp .Add) (rCatF X.K) := by
  intro pins s σ H x y v u Q I rx ry h
  obtain ⟨a, b, xs, ys, rfl, rfl, ha, hb, hz, q0, q1, q2⟩ := h
  cases rx
  cases ry
  obtain ⟨its, r1, p1, _⟩ := I.tuple ha
  obtain ⟨its2, r2, p2, _⟩ := I.tuple hb
  by_cases hx : xs = []
  · subst hx
    cases r1
    exact cat_tup0 p1 p2 ⟨.ref b, H, I, rfl, q0 rfl⟩
  · refine HT.cat_tup p1 p2 (fun z => hx (r1.nil_iff.mp z)) (fun z => ⟨.ref a, H, I, rfl, q1 hx (r2.nil_iff.mp z)⟩) (fun z => ?_) (by rw [← r1.length, ← r2.length]; exact hz)
    refine ⟨.ref s.heap.objs.size, _, I.laid (t' := s.toks) (o := .frz { cls := .type "tuple", data := .seq (its ++ its2).toArray } (.tup (xs ++ ys))) (fun b ob q => Heap.get?_push_of_some _ q) (Nat.le_refl _) ?_, rfl, q2 hx (fun w => z (r2.nil_iff.mpr w)) _ _ (I.hok.fresh (Nat.le_refl _)) rfl⟩
    exact ⟨Heap.get?_push_size _ rfl, by rw [List.length_append]; exact hz, _, r1.append r2, IsTup.new _ _⟩
def rRepF (K : PySem.W.Frag) : R2 := fun x y H Q => ∃ l k xs, x = .ref l ∧ y = .int k ∧ SqT K H l xs ∧ xs ≠ [] ∧ 1 ≤ k ∧ k ≤ 1000 ∧ xs.length ≤ 1000 ∧ (k = 1 → Q (.ref l) H) ∧ (2 ≤ k → ∀ p o, H p = none → o.dict = none → Q (.ref p) (upd H p (.frz o (.tup (List.replicate k.toNat xs).flatten))))
theorem op_repF : OpR X (binaryOp .Mult) (rRepF X.K) := by
  intro pins s σ H x y v u Q I rx ry h
  obtain ⟨l, k, xs, rfl, rfl, hT, hne, h1, h2, hz, q1, q2⟩ := h
  by_cases hk : k = 1
  · subst hk
    exact op_repU pins s σ H _ _ v u Q I rx ry ⟨l, 1, xs, rfl, rfl, hT, hne, h1, h2, hz, q1, fun z => absurd z (by decide)⟩
  · cases rx
    obtain ⟨t, rfl⟩ := ry
    obtain ⟨its, r, ⟨⟨cls, dd, data, sl⟩, ho, hc, n, hd⟩, hs⟩ := I.tuple hT
    simp only at hc hd
    subst hc hd
    have hle : its.length = xs.length := r.length.symm
    have hn : its ≠ [] := fun e => hne (by
      rw [e] at hle
      exact List.eq_nil_of_length_eq_zero hle.symm)
    have hi : its.toArray.isEmpty = false := by
      cases its with
      | nil => exact absurd rfl hn
      | cons a b => rfl
    have hsz0 : its.toArray.size = xs.length := by rw [List.size_toArray, hle]
    have hm : ((its.toArray.size : Nat) : Int) * k ≤ 1000000 := by
      rw [hsz0]
      have a1 : ((xs.length : Nat) : Int) * k ≤ 1000 * k := Int.mul_le_mul_of_nonneg_right (by omega) (by omega)
      omega
    have flen : (List.replicate k.toNat its).flatten.length ≤ sizeLine := by
      rw [PyProof.Rows.lm_len_rep_flat, hle, sizeLine_eq]
      have a1 : k.toNat * xs.length ≤ 1000 * 1000 := Nat.mul_le_mul (by omega) hz
      omega
    have c0 : (decide (k < -(2 ^ 63)) || decide (k ≥ 2 ^ 63)) = false := by
      rw [decide_eq_false (by omega), decide_eq_false (by omega)] <;> rfl
    have c1 : (its.toArray.isEmpty || k == 1) = false := by
      rw [hi, Bool.false_or]
      exact beq_eq_false_iff_ne.mpr (by omega)
    have c2 : (decide (k ≤ 0) || its.toArray.isEmpty) = false := by
      rw [hi, Bool.or_false]
      exact decide_eq_false (by omega)
    have c4 : Builtin.Tuple.tupleTooMany (((its.toArray.size : Nat) : Int) * k) = false := by
      unfold Builtin.Tuple.tupleTooMany
      rw [sizeLine_eq]
      exact decide_eq_false (by omega)
    refine wpAny_binaryOp_repeat_ref (T := "tuple") (U := "int") (by decide) ⟨_, ho, rfl⟩ (fun s' => typeIs_int s' k t) noFill_tuple_mul F.fills_int_mul F.slot_int_rmul repeat_tuple F.slot_int_index.lookup
      (call_meets F.slot_int_rmul (typeIs_int s k t) F.entry_int_rmul (F.args_int_rmul_2 _ _) (int_rmul_tuple k t l its.toArray n dd sl)
        ⟨ho, rfl, ⟨_, ho, rfl⟩, call_meets F.slot_tuple_mul ⟨_, ho, rfl⟩ F.entry_tuple_mul (F.args_tuple_mul_2 _ _) (tuple_mulW l its.toArray n dd sl k t c0 c1 c2 (by omega) c4 (by rw [size_rep, List.size_toArray]; exact flen)) ⟨ho, ?_⟩⟩)
    rw [size_rep]
    refine ⟨.ref s.heap.objs.size, _, I.laid (t' := s.toks) (o := .frz { cls := .type "tuple", data := .seq (List.replicate k.toNat its).flatten.toArray } (.tup (List.replicate k.toNat xs).flatten)) (fun b ob q => Heap.get?_push_of_some _ q) (Nat.le_refl _) ?_, rfl, q2 (by omega) _ _ (I.hok.fresh (Nat.le_refl _)) rfl⟩
    exact ⟨Heap.get?_push_size _ rfl, by rw [PyProof.Rows.lm_len_rep_flat, sizeLine_eq]; have a1 : k.toNat * xs.length ≤ 1000 * 1000 := Nat.mul_le_mul (by omega) hz; omega, _, r.rep k.toNat, IsTup.new _ _⟩
/-- t.index(x) -/
def tTIdx (K : PySem.W.Frag) (to te : TE) : TE := fun σ H Q => to σ H fun x H1 => (∃ p ys, x = .ref p ∧ TF H1 p ys) ∧ te σ H1 fun y H2 => ∃ (p : Addr) (ys : List V) (j : Nat) (z : V), x = .ref p ∧ SqT K H2 p ys ∧ flatV y = true ∧ ys.all flatV = true ∧ ys[j]? = some z ∧ eqV z y = true ∧
    (∀ (m : Nat) (z' : V), m < j → ys[m]? = some z' → eqV z' y = false) ∧ Q (.int (j : Nat)) H2
theorem pe_tindex {o e : Expr} {to te : TE} {apos cpos : Pos} (ho : PE X o to) (he : PE X e te)
    (hbase : attributeBase o "index" X.env (eval o X.env) = eval o X.env := by rfl)
    (hfew : ((backTo cpos (starEach [e] X.env)).all (fun x => !x.1) && (backToKw cpos (keywordEach [] X.env)).all (fun x => x.1.isSome)
      && decide ([e].length + ([] : List Keyword).length + (if ([] : List Keyword).isEmpty then 0 else 1) < 30)) = true := by rfl)
    (hline : (apos.endLine == cpos.line) = true := by rfl) (hs : starEach [e] X.env = (false, eval e X.env) :: starEach [] X.env := by rfl) (hplain : (backTo cpos (starEach [] X.env)).any (·.1) = false := by rfl) :
    PE X (.Call (.Attribute o "index" apos) [e] [] cpos) (tTIdx X.K to te) := by
  refine ⟨fun pins s σ H Q I h => ?_⟩
  refine wpAny_Call_method_late hbase hfew hline rfl (thn (ho.run pins s σ H _ I h) fun v s1 ⟨x, H1, I1, r1, ⟨p, ys, ex, ⟨ob, hob, hdd⟩⟩, q1⟩ => ?_)
  subst ex
  cases r1
  have e1 := (I1.hok p _ hob).1
  obtain ⟨its, rv, pl, hz⟩ := I1.tuple (.inl (.inr ⟨ob, hob⟩))
  refine ⟨"tuple", "tuple.index", PySem.F.plainAttrs_tuple, PySem.F.slot_tuple_index, PySem.F.type_tuple_index, pl.typeIs, fun a ea => by cases ea; exact ⟨ob, e1, hdd⟩, ?_⟩
  have hA := (pa_cons he pa_nil hs).run cpos pins s1 σ H1 (fun vs H2 => match vs with
    | [y] => ∃ (p' : Addr) (ys : List V) (j : Nat) (z : V), V.ref p = .ref p' ∧ SqT X.K H2 p' ys ∧ flatV y = true ∧ ys.all flatV = true ∧ ys[j]? = some z ∧ eqV z y = true ∧
      (∀ (m : Nat) (z' : V), m < j → ys[m]? = some z' → eqV z' y = false) ∧ Q (.int (j : Nat)) H2
    | _ => False) I1 q1
  rw [hs] at hA ⊢
  refine Calls.callWith_builtin (by show (false || (backTo cpos (starEach [] X.env)).any (·.1)) = false; rw [hplain] <;> rfl) (Calls.evalArgs_plain ?_)
  refine thn hA fun us s2 ⟨vs, H2, I2, r2, hh⟩ => ?_
  match vs, r2, hh with
  | [y], r2, ⟨p', ys', j, z, ep, a1, a2, a3, a4, a5, a6, q⟩ =>
    cases ep
    exact mt_tindex pins s2 σ H2 (.ref p) [y] (.ref p) us Q I2 rfl r2 ⟨p, ys', y, j, z, rfl, rfl, a1, a2, a3, a4, a5, a6, q⟩
end
end L2
/-! Small data: what can be shown and compared; values that are brought -/
namespace Fp
open PySem PySem.Spec PyProof.Rows L2
theorem ite_no {c : Bool} {A B : Prop} (hc : c = false) (h : B) : if c = true then A else B := by
  rw [hc]; exact iteF h
theorem ite_yes {c : Bool} {A B : Prop} (hc : c = true) (h : A) : if c = true then A else B := by
  rw [hc]; exact iteT h
theorem get_lt {α : Type} {l : List α} {i : Nat} {x : α} (h : l[i]? = some x) : i < l.length := (List.getElem?_eq_some_iff.mp h).1
theorem u66 {k : Nat} {A : Around} (r : Room k A) : A.units + 66 < cLine := by have := r.un; omega
theorem szl {n : Nat} (h : n ≤ 10000000) : n ≤ sizeLine := by rw [sizeLine_eq]; omega
theorem szt {n : Nat} (h : n < 10000000) : n < sizeLine := by rw [sizeLine_eq]; omega
/-- data that can be shown and compared: at most so deep, at most so much -/
structure Sm (k n : Nat) (d : PyData) : Prop where
  sh : d.showable = true
  lay : d.canLay0 = true
  lv : d.leavesShort 13 = true
  blk : d.bulk ≤ n
  dep : d.depth ≤ k
theorem Sm.mono {k n k' n' : Nat} {d : PyData} (h : Sm k n d) (hk : k ≤ k') (hn : n ≤ n') : Sm k' n' d := ⟨h.sh, h.lay, h.lv, Nat.le_trans h.blk hn, Nat.le_trans h.dep hk⟩
structure Sms (k n : Nat) (ds : List PyData) : Prop where
  sh : PyData.showableAll ds = true
  lay : PyData.canLayAll0 ds = true
  lv : PyData.leavesShortAll 13 ds = true
  blk : PyData.bulkAll ds ≤ n
  dep : PyData.depthAll ds ≤ k
theorem Sms.nil {k n : Nat} : Sms k n [] := ⟨by simp [PyData.showableAll], by simp [PyData.canLayAll0], by simp [PyData.leavesShortAll], by simp [PyData.bulkAll], by simp [PyData.depthAll]⟩
theorem Sms.cons {k a b : Nat} {d : PyData} {ds : List PyData} (h : Sm k a d) (t : Sms k b ds) : Sms k (a + 1 + b) (d :: ds) :=
  ⟨by simp [PyData.showableAll, h.sh, t.sh], by simp [PyData.canLayAll0, h.lay, t.lay], by simp [PyData.leavesShortAll, h.lv, t.lv], by have := h.blk; have := t.blk; simp only [PyData.bulkAll]; omega, by have := h.dep; have := t.dep; simp only [PyData.depthAll]; omega⟩
theorem Sms.mono {k n k' n' : Nat} {d : List PyData} (h : Sms k n d) (hk : k ≤ k') (hn : n ≤ n') : Sms k' n' d := ⟨h.sh, h.lay, h.lv, Nat.le_trans h.blk hn, Nat.le_trans h.dep hk⟩
theorem Sms.all {k n : Nat} : ∀ {ds : List PyData}, (∀ d ∈ ds, Sm k n d) → Sms k ((n + 1) * ds.length) ds
  | [], _ => Sms.nil
  | d :: ds, h => (Sms.cons (h d (by simp)) (Sms.all fun e he => h e (List.mem_cons_of_mem _ he))).mono (Nat.le_refl _) (by
    rw [List.length_cons, Nat.mul_succ]; omega)
theorem Sms.tup {k n : Nat} {ds : List PyData} (h : Sms k n ds) : Sm (k + 1) n (.tuple ds) :=
  ⟨by simpa [PyData.showable] using h.sh, by simpa [PyData.canLay0] using h.lay, by simpa [PyData.leavesShort] using h.lv, by have := h.blk; simpa only [PyData.bulk] using this, by have := h.dep; simp only [PyData.depth]; omega⟩
theorem Sms.lst {k n : Nat} {ds : List PyData} (h : Sms k n ds) : Sm (k + 1) n (.list ds) :=
  ⟨by simpa [PyData.showable] using h.sh, by simpa [PyData.canLay0] using h.lay, by simpa [PyData.leavesShort] using h.lv, by have := h.blk; simpa only [PyData.bulk] using this, by have := h.dep; simp only [PyData.depth]; omega⟩
theorem Sm.non : Sm 1 0 .none := ⟨by simp [PyData.showable], by simp [PyData.canLay0], by simp [PyData.leavesShort], by simp [PyData.bulk], by simp [PyData.depth]⟩
theorem Sm.str {z : Str} {n : Nat} (hz : z.cps.size ≤ n) (hc : (z.cps.toList.all fun c => decide (c < 16 ^ 8)) = true) (ho : PyData.strOk z = true) : Sm 1 n (.str z) :=
  ⟨by simp [PyData.showable], by simp [PyData.canLay0, ho], by simpa only [PyData.leavesShort] using hc, by simpa only [PyData.bulk] using hz, by simp [PyData.depth]⟩
theorem log2_lt {i : Int} (h0 : -99999 ≤ i) (h1 : i ≤ 99999) : i.natAbs.log2 < 1920 := by
  by_cases h : i.natAbs = 0
  · rw [h]; decide
  · have : i.natAbs.log2 < 17 := (Nat.log2_lt h).mpr (show i.natAbs < 2 ^ 17 by omega)
    omega
theorem Sm.int {i : Int} (h0 : -9999 ≤ i) (h1 : i ≤ 9999) : Sm 1 0 (.int i) := by
  refine ⟨?_, by simp [PyData.canLay0], ?_, by simp [PyData.bulk], by simp [PyData.depth]⟩
  · simp only [PyData.showable, decide_eq_true_eq]
    exact log2_lt (by omega) (by omega)
  · simp only [PyData.leavesShort, decide_eq_true_eq]
    exact PyData.shown_int_le (by omega)
theorem Sm.fits {k n : Nat} {d : PyData} (h : Sm k n d) (hn : n ≤ 1000000) : d.shown.length ≤ sizeLine := PyData.shown_fits_bulk (B := 13) (by decide) (by decide) h.lv (Nat.le_trans h.blk (Nat.le_trans hn (by decide)))
theorem Sm.shaped {k n : Nat} {d : PyData} (h : Sm k n d) (hk : k ≤ 64) : SeqAt.shaped d = true := by
  unfold SeqAt.shaped
  rw [h.lay, Bool.true_and]
  exact decide_eq_true (Nat.le_trans h.dep hk)
/-! ### repr of any data -/
section
variable {X : Cx}
theorem wpAny_repr {prog : Program} {w : World} {A : Around} {E : Value → Shared → Prop} {s : Shared} {Q : Value → Shared → Prop} {v : Value} {d : PyData} {as : List Addr} (r : Reads s.heap v d as) (hs : d.showable = true) (hd : d.hasDict = false) (hz : d.shown.length ≤ sizeLine)
    (hg : A.guards = some []) (hu : A.units + (d.depth + 1) < cLine) (hQ : ∀ h' u tk, (∀ b o, s.heap.get? b = some o → h'.get? b = some o) → Q (.str d.shown u) { s with heap := h', toks := tk }) : wpAny (model prog w) A (call (.builtin "repr") [v]) Q E s := by
  cases r with
  | none => exact PySem.P.repr_of_none (hQ _ _ _ fun _ _ e => e)
  | bool b => exact PySem.P.repr_of_bool (hQ _ _ _ fun _ _ e => e)
  | int i t => exact PySem.P.repr_of_int (by simpa only [PyData.showable, decide_eq_true_eq] using hs) (by simpa only [PyData.shown] using hQ _ _ _ fun _ _ e => e)
  | str x t => exact PySem.P.repr_of_str (by simpa only [PyData.shown] using hQ _ _ _ fun _ _ e => e) (by simpa only [PyData.shown] using hz)
  | list a b c e => exact repr_of_reads' (.list a b c e) hs (fun z => by rw [hd] at z; cases z) hg hu (fun _ _ z => z) hQ hz
  | tuple a b c e => exact repr_of_reads' (.tuple a b c e) hs (fun z => by rw [hd] at z; cases z) hg hu (fun _ _ z => z) hQ hz
  | dict a b c e f => simp [PyData.hasDict] at hd
/-- repr(x), x any data -/
theorem call_reprA (hgu : X.A.guards = some []) (hu : X.A.units + 66 < cLine) : CallR X (.builtin "repr") (fun xs H Q => ∃ (x : V) (d : PyData) (k n : Nat), xs = [x] ∧ Dp X.K H x d ∧ Sm k n d ∧ k ≤ 64 ∧ n ≤ 1000000 ∧ Q (.str d.shown) H) := by
  intro pins s σ H xs us Q I r h
  obtain ⟨x, d, k, n, rfl, hd, sm, hk, hn, q⟩ := h
  obtain ⟨u, rfl, rx⟩ := vals1 r
  obtain ⟨as, rd⟩ := Dp.reads I d _ u hd rx
  have hdp := sm.dep
  exact wpAny_repr rd sm.sh (PyData.hasDict_of_canLay _ sm.lay) (sm.fits hn) hgu (by omega) (fun h' u tk k => ⟨.str d.shown, H, I.kept (t' := tk) k, ⟨_, rfl⟩, q⟩)
end
/-! ### values that are brought: None, integers, tuples of at most three such, at most so deep -/
inductive VOk : Nat → PyData → Prop where
  | non {n} : VOk n .none
  | int {n i} : -9999 ≤ i → i ≤ 9999 → VOk n (.int i)
  | tup {n ds} : (∀ d ∈ ds, VOk n d) → ds.length ≤ 3 → VOk (n + 1) (.tuple ds)
mutual
inductive VAt (H : Hp) : V → PyData → Prop where
  | non : VAt H .non .none
  | int (i : Int) : VAt H (.int i) (.int i)
  | tup {a : Addr} {xs : List V} {ds : List PyData} : H a = some (.tup xs) → VsAt H xs ds → VAt H (.ref a) (.tuple ds)
inductive VsAt (H : Hp) : List V → List PyData → Prop where
  | nil : VsAt H [] []
  | cons {v vs d ds} : VAt H v d → VsAt H vs ds → VsAt H (v :: vs) (d :: ds)
end
/-- tuples stay -/
def IsT : Option HO → Prop
  | some (.tup _) => True
  | some (.frz _ (.tup _)) => True
  | _ => False
def TK (H H' : Hp) : Prop := ∀ a, IsT (H a) → H' a = H a
theorem TK.refl (H : Hp) : TK H H := fun _ _ => rfl
theorem TK.trans {H H1 H2 : Hp} (a : TK H H1) (b : TK H1 H2) : TK H H2 := fun x h => (b x (by rw [a x h]; exact h)).trans (a x h)
theorem TK.of {H H' : Hp} (g : Same H H') : TK H H' := fun a h => by
  cases e : H a with
  | none => rw [e] at h; exact h.elim
  | some o => exact g a _ e
theorem TK.but {S : List Addr} {H H' : Hp} (g : But S H H') (h : ∀ a ∈ S, ¬ IsT (H a)) : TK H H' := fun a n => by
  cases e : H a with
  | none => rw [e] at n; exact n.elim
  | some o => exact g a _ (fun m => h a m n) e
theorem TK.put {H : Hp} {p : Addr} {o u : HO} (h : H p = some o) (n : ¬ IsT (some o)) : TK H (upd H p u) := fun a e => by
  rw [upd_ne (fun z => n (by rw [← h, ← z]; exact e))]
theorem TK.t {H H' : Hp} (g : TK H H') {a : Addr} {xs : List V} (h : H a = some (.tup xs)) : H' a = some (.tup xs) := by
  rw [g a (by rw [h]; trivial), h]
theorem TK.f {H H' : Hp} (g : TK H H') {a : Addr} {xs : List V} (h : TF H a xs) : TF H' a xs := by
  obtain ⟨o, h, d⟩ := h
  exact ⟨o, by rw [g a (by rw [h]; trivial), h], d⟩
mutual
theorem VAt.mono {H H' : Hp} (g : TK H H') : ∀ {v : V} {d : PyData}, VAt H v d → VAt H' v d
  | _, _, .non => .non
  | _, _, .int i => .int i
  | _, _, .tup a b => .tup (g.t a) (VsAt.mono g b)
theorem VsAt.mono {H H' : Hp} (g : TK H H') : ∀ {v : List V} {d : List PyData}, VsAt H v d → VsAt H' v d
  | _, _, .nil => .nil
  | _, _, .cons a b => .cons (VAt.mono g a) (VsAt.mono g b)
end
mutual
theorem VAt.dp {K : PySem.W.Frag} {H : Hp} : ∀ {v : V} {d : PyData}, VAt H v d → Dp K H v d
  | _, _, .non => .non
  | _, _, .int i => .int i
  | _, _, .tup a b => .tup (.of a) (VsAt.dp b)
theorem VsAt.dp {K : PySem.W.Frag} {H : Hp} : ∀ {v : List V} {d : List PyData}, VsAt H v d → DpAll K H v d
  | _, _, .nil => .nil
  | _, _, .cons a b => .cons (VAt.dp a) (VsAt.dp b)
end
theorem VOk.up {n : Nat} {d : PyData} (h : VOk n d) : VOk (n + 1) d := by
  induction h with
  | non => exact .non
  | int a b => exact .int a b
  | tup a b ih => exact .tup (fun d hd => ih d hd) b
def vb : Nat → Nat
  | 0 => 0
  | n + 1 => (vb n + 1) * 3
theorem VOk.sm : ∀ {n : Nat} {d : PyData}, VOk n d → Sm (n + 1) (vb n) d := by
  intro n d h
  induction h with
  | non => exact Sm.non.mono (by omega) (by omega)
  | int a b => exact (Sm.int a b).mono (by omega) (by omega)
  | tup a b ih => exact (Sms.all ih).tup.mono (Nat.le_refl _) (Nat.mul_le_mul_left _ b)
theorem VsAt.snoc {H : Hp} {v : V} {d : PyData} (h : VAt H v d) : ∀ {vs : List V} {ds : List PyData}, VsAt H vs ds → VsAt H (vs ++ [v]) (ds ++ [d])
  | _, _, .nil => .cons h .nil
  | _, _, .cons a b => .cons a (VsAt.snoc h b)
theorem VsAt.len {H : Hp} : ∀ {vs : List V} {ds : List PyData}, VsAt H vs ds → vs.length = ds.length
  | _, _, .nil => rfl
  | _, _, .cons _ b => congrArg (· + 1) b.len
theorem VsAt.get {H : Hp} : ∀ {xs : List V} {b : List PyData} {i : Nat} {x : V}, VsAt H xs b → xs[i]? = some x → ∃ it, b[i]? = some it ∧ VAt H x it
  | _, _, 0, _, .cons h _, e => by cases e; exact ⟨_, rfl, h⟩
  | _, _, i + 1, x, .cons _ r, e => VsAt.get (i := i) r e
  | _, _, _, _, .nil, e => by cases e
end Fp
/-! A door, as a plain thing -/
namespace Fp
open PySem PySem.Spec PyProof.Rows L2
abbrev Lv := Option Int
def lvV : Lv → V
  | none => .non
  | some i => .int i
structure Deed where
  stp : Bool
  p : Nat
  x : V
structure DS where
  came : List (Option V)
  lev : List Lv
  heard : List (Option V)
  seen : List (Option (List Lv))
  deeds : List Deed
inductive Told where
  | level (i : Int) | look (l : List Lv) | wait | word (v : V)
theorem getD_set {α : Type} (l : List (Option α)) (p q : Nat) (x : Option α) : (l.set p x).getD q none = if p = q ∧ p < l.length then x else l.getD q none := by
  simp only [List.getD_eq_getElem?_getD, List.getElem?_set]
  by_cases h : p = q
  · subst h
    by_cases h2 : p < l.length
    · simp [h2]
    · have e : l[p]? = none := List.getElem?_eq_none (by omega)
      simp [h2, e]
  · simp [h]
theorem getD_none_of {α : Type} {l : List (Option α)} {q : Nat} {x : α} (h : l.getD q none = some x) : q < l.length ∧ l[q]? = some (some x) := by
  rw [List.getD_eq_getElem?_getD] at h
  cases e : l[q]? with
  | none => rw [e] at h; cases h
  | some y =>
    rw [e] at h
    have h' : y = some x := h
    exact ⟨(List.getElem?_eq_some_iff.mp e).1, by rw [h']⟩
theorem getD_of {α : Type} {l : List (Option α)} {q : Nat} {y : Option α} (h : l[q]? = some y) : l.getD q none = y := by
  rw [List.getD_eq_getElem?_getD, h]; rfl
theorem mem_getD {α : Type} {l : List (Option α)} {x : α} : some x ∈ l ↔ ∃ q, l.getD q none = some x := by
  constructor
  · intro h
    obtain ⟨q, hq⟩ := List.getElem?_of_mem h
    exact ⟨q, getD_of hq⟩
  · rintro ⟨q, hq⟩
    exact List.mem_of_getElem? (getD_none_of hq).2
namespace DS
def new (n : Nat) : DS := ⟨List.replicate n none, List.replicate n none, List.replicate n none, List.replicate n none, []⟩
def cm (s : DS) (p : Nat) : Option V := s.came.getD p none
def lv (s : DS) (p : Nat) : Lv := s.lev.getD p none
def sn (s : DS) (p : Nat) : Option (List Lv) := s.seen.getD p none
def stgOf (a : Lv) (b : Option (List Lv)) : Nat := match a with
  | none => 0
  | some i => if i = 1 then (if b.isSome then 2 else 1) else 3
def stg (s : DS) (p : Nat) : Nat := stgOf (s.lv p) (s.sn p)
def kindOf : Nat → Str
  | 1 => "look" | 3 => "ask" | _ => "level"
def next (s : DS) (p : Nat) : Option Str := if (s.cm p).isSome then some (kindOf (s.stg p)) else none
def isTwo (a : Lv) : Bool := decide (a = some 2)
def two (s : DS) : Nat := s.lev.findIdx isTwo
def saw (s : DS) (p : Nat) : Bool := decide (some 2 ∈ (s.sn p).getD [])
def wr (s : DS) (p : Nat) : Int := if s.saw p then 0 else 2
def come (s : DS) (p : Nat) (v : V) : DS := { s with came := s.came.set p (some v), deeds := s.deeds ++ [⟨false, p, v⟩] }
def told (s : DS) (p : Nat) : Told := match s.stg p with
  | 0 => .level 1
  | 1 => .look s.lev
  | 2 => .level (s.wr p)
  | _ => if some 1 ∈ s.lev then .wait else .word ((s.cm s.two).getD .non)
def step (s : DS) (p : Nat) : DS := match s.stg p with
  | 0 => { s with deeds := s.deeds ++ [⟨true, p, .str "level"⟩], lev := s.lev.set p (some 1) }
  | 1 => { s with deeds := s.deeds ++ [⟨true, p, .str "look"⟩], seen := s.seen.set p (some s.lev) }
  | 2 => { s with deeds := s.deeds ++ [⟨true, p, .str "level"⟩], lev := s.lev.set p (some (s.wr p)) }
  | _ => if some 1 ∈ s.lev then { s with deeds := s.deeds ++ [⟨true, p, .str "ask"⟩] } else { s with deeds := s.deeds ++ [⟨true, p, .str "ask"⟩], heard := s.heard.set p (s.cm s.two) }
structure WF (s : DS) : Prop where
  n1 : 1 ≤ s.lev.length
  n5 : s.lev.length ≤ 5
  lc : s.came.length = s.lev.length
  lh : s.heard.length = s.lev.length
  ls : s.seen.length = s.lev.length
  vals : ∀ p x, s.lv p = some x → x = 0 ∨ x = 1 ∨ x = 2
  cmv : ∀ p, s.lv p ≠ none → s.cm p ≠ none
  snv : ∀ p, s.sn p ≠ none → s.lv p ≠ none
  lok : ∀ p x, s.lv p = some x → x ≠ 1 → s.sn p ≠ none
  z2 : ∀ p, s.lv p = some 0 → ∃ q, s.lv q = some 2
  s2 : ∀ p l, s.sn p = some l → some 2 ∈ l → ∃ q, s.lv q = some 2
theorem rep_none {α : Type} (n p : Nat) : (List.replicate n (none : Option α)).getD p none = none := by
  rw [List.getD_eq_getElem?_getD, List.getElem?_replicate]; split <;> rfl
theorem lv_new (n p : Nat) : (new n).lv p = none := rep_none n p
theorem sn_new (n p : Nat) : (new n).sn p = none := rep_none n p
theorem cm_new (n p : Nat) : (new n).cm p = none := rep_none n p
theorem WF.new {n : Nat} (h1 : 1 ≤ n) (h5 : n ≤ 5) : (new n).WF := by
  refine ⟨by simpa [DS.new] using h1, by simpa [DS.new] using h5, by simp [DS.new], by simp [DS.new], by simp [DS.new], ?_, ?_, ?_, ?_, ?_, ?_⟩ <;> intro p <;> simp only [lv_new, sn_new, cm_new] <;> simp
section
variable {s : DS} {p : Nat} {v : V}
theorem lv_come (q : Nat) : (s.come p v).lv q = s.lv q := rfl
theorem sn_come (q : Nat) : (s.come p v).sn q = s.sn q := rfl
theorem cm_come (q : Nat) : (s.come p v).cm q = if p = q ∧ p < s.came.length then some v else s.cm q := getD_set _ _ _ _
theorem WF.come (h : s.WF) : (s.come p v).WF := by
  refine ⟨h.n1, h.n5, by simp [DS.come, h.lc], h.lh, h.ls, h.vals, fun q hq => ?_, h.snv, h.lok, h.z2, h.s2⟩
  rw [cm_come]
  split
  · simp
  · exact h.cmv q hq
theorem stg_lt (s : DS) (p : Nat) : s.stg p ≤ 3 := by
  unfold stg stgOf
  split
  · omega
  · split
    · split <;> omega
    · omega
theorem stg0 : s.stg p = 0 ↔ s.lv p = none := by
  unfold stg stgOf
  cases s.lv p with
  | none => simp
  | some i => simp only; split <;> (try split) <;> simp
theorem stg1 : s.stg p = 1 ↔ s.lv p = some 1 ∧ s.sn p = none := by
  unfold stg stgOf
  cases s.lv p with
  | none => simp
  | some i =>
    simp only
    cases s.sn p <;> by_cases hi : i = 1 <;> simp [hi]
theorem stg2 : s.stg p = 2 ↔ s.lv p = some 1 ∧ s.sn p ≠ none := by
  unfold stg stgOf
  cases s.lv p with
  | none => simp
  | some i =>
    simp only
    cases s.sn p <;> by_cases hi : i = 1 <;> simp [hi]
theorem stg3 : s.stg p = 3 ↔ ∃ x, s.lv p = some x ∧ x ≠ 1 := by
  unfold stg stgOf
  cases s.lv p with
  | none => simp
  | some i =>
    simp only
    cases s.sn p <;> by_cases hi : i = 1 <;> simp [hi]
/-- the step by its stage -/
theorem step0 (h : s.stg p = 0) : s.step p = { s with deeds := s.deeds ++ [⟨true, p, .str "level"⟩], lev := s.lev.set p (some 1) } := by simp only [step, h]
theorem step1 (h : s.stg p = 1) : s.step p = { s with deeds := s.deeds ++ [⟨true, p, .str "look"⟩], seen := s.seen.set p (some s.lev) } := by simp only [step, h]
theorem step2 (h : s.stg p = 2) : s.step p = { s with deeds := s.deeds ++ [⟨true, p, .str "level"⟩], lev := s.lev.set p (some (s.wr p)) } := by simp only [step, h]
theorem step3 (h : s.stg p = 3) : s.step p = if some 1 ∈ s.lev then { s with deeds := s.deeds ++ [⟨true, p, .str "ask"⟩] } else { s with deeds := s.deeds ++ [⟨true, p, .str "ask"⟩], heard := s.heard.set p (s.cm s.two) } := by simp only [step, h]
theorem told0 (h : s.stg p = 0) : s.told p = .level 1 := by simp only [told, h]
theorem told1 (h : s.stg p = 1) : s.told p = .look s.lev := by simp only [told, h]
theorem told2 (h : s.stg p = 2) : s.told p = .level (s.wr p) := by simp only [told, h]
theorem told3 (h : s.stg p = 3) : s.told p = if some 1 ∈ s.lev then .wait else .word ((s.cm s.two).getD .non) := by simp only [told, h]
theorem cm_step (q : Nat) : (s.step p).cm q = s.cm q := by
  unfold step
  split <;> (try split) <;> rfl
theorem came_step : (s.step p).came = s.came := by
  unfold step
  split <;> (try split) <;> rfl
theorem len_step : (s.step p).lev.length = s.lev.length := by
  unfold step
  split <;> (try split) <;> simp
theorem two_lev (h : ∃ q, s.lv q = some 2) : s.two < s.lev.length ∧ s.lv s.two = some 2 ∧ ∀ m, m < s.two → s.lv m ≠ some 2 := by
  obtain ⟨q, hq⟩ := h
  obtain ⟨hl, he⟩ := getD_none_of hq
  have hm : ∃ x ∈ s.lev, isTwo x = true := ⟨some 2, List.mem_of_getElem? he, by simp [isTwo]⟩
  have h1 : s.two < s.lev.length := List.findIdx_lt_length_of_exists hm
  refine ⟨h1, ?_, fun m hlt => ?_⟩
  · have e : isTwo s.lev[s.two] = true := List.findIdx_getElem (p := isTwo) (xs := s.lev) (w := h1)
    have e' : s.lev[s.two] = some 2 := by simpa [isTwo] using e
    exact getD_of (by rw [List.getElem?_eq_getElem h1, e'])
  · intro z
    have hml : m < s.lev.length := by omega
    have e : isTwo s.lev[m] = false := by simpa using List.not_of_lt_findIdx (p := isTwo) (xs := s.lev) hlt
    have z' : s.lev[m] = some 2 := by
      obtain ⟨_, z2⟩ := getD_none_of z
      rw [List.getElem?_eq_getElem hml] at z2
      exact Option.some.inj z2
    rw [z'] at e
    simp [isTwo] at e
theorem findIdx_ext {α : Type} {f g : α → Bool} : ∀ {l m : List α}, l.length = m.length → (∀ (i : Nat) x y, l[i]? = some x → m[i]? = some y → f x = g y) → l.findIdx f = m.findIdx g
  | [], [], _, _ => rfl
  | [], _ :: _, h, _ => by simp at h
  | _ :: _, [], h, _ => by simp at h
  | a :: l, b :: m, h, hp => by
    have e := hp 0 a b rfl rfl
    rw [List.findIdx_cons, List.findIdx_cons, e, findIdx_ext (l := l) (m := m) (by simpa using h) fun i x y hx hy => hp (i + 1) x y (by simpa using hx) (by simpa using hy)]
theorem two_same {s t : DS} (hl : t.lev.length = s.lev.length) (h : ∀ q, t.lv q = some 2 ↔ s.lv q = some 2) : t.two = s.two := by
  refine findIdx_ext hl fun i x y hx hy => ?_
  have h1 := h i
  rw [show t.lv i = x from getD_of hx, show s.lv i = y from getD_of hy] at h1
  unfold isTwo
  exact decide_eq_decide.mpr h1
theorem lv_step0 (h : s.stg p = 0) (hp : p < s.lev.length) (q : Nat) : (s.step p).lv q = if p = q then some 1 else s.lv q := by
  rw [step0 h]
  show (s.lev.set p (some 1)).getD q none = _
  rw [getD_set]
  by_cases e : p = q <;> simp [e, hp, lv] <;> omega
theorem lv_step1 (h : s.stg p = 1) (q : Nat) : (s.step p).lv q = s.lv q := by rw [step1 h]; rfl
theorem lv_step2 (h : s.stg p = 2) (hp : p < s.lev.length) (q : Nat) : (s.step p).lv q = if p = q then some (s.wr p) else s.lv q := by
  rw [step2 h]
  show (s.lev.set p (some (s.wr p))).getD q none = _
  rw [getD_set]
  by_cases e : p = q
  · subst e; simp [hp]
  · simp [e, lv]
theorem lv_step3 (h : s.stg p = 3) (q : Nat) : (s.step p).lv q = s.lv q := by rw [step3 h]; split <;> rfl
theorem sn_step1 (h : s.stg p = 1) (hp : p < s.seen.length) (q : Nat) : (s.step p).sn q = if p = q then some s.lev else s.sn q := by
  rw [step1 h]
  show (s.seen.set p (some s.lev)).getD q none = _
  rw [getD_set]
  by_cases e : p = q
  · subst e; simp [hp]
  · simp [e, sn]
theorem sn_stepN (h : s.stg p ≠ 1) (q : Nat) : (s.step p).sn q = s.sn q := by
  unfold step
  split <;> (try split) <;> first | rfl | (rename_i e; exact absurd e h)
theorem wr02 (s : DS) (p : Nat) : s.wr p = 0 ∧ s.saw p = true ∨ s.wr p = 2 ∧ s.saw p = false := by
  unfold wr
  cases s.saw p <;> simp
theorem saw_iff : s.saw p = true ↔ ∃ l, s.sn p = some l ∧ some 2 ∈ l := by
  unfold saw
  rw [decide_eq_true_iff]
  cases s.sn p with
  | none => simp
  | some l => simp
theorem lt_of_cm (h : s.WF) (hc : s.cm p ≠ none) : p < s.lev.length := by
  cases e : s.cm p with
  | none => exact absurd e hc
  | some v => rw [← h.lc]; exact (getD_none_of e).1
theorem has2_step (h : s.WF) (hc : s.cm p ≠ none) (h2 : ∃ q, s.lv q = some 2) : ∃ q, (s.step p).lv q = some 2 := by
  obtain ⟨q, hq⟩ := h2
  refine ⟨q, ?_⟩
  have hp := lt_of_cm h hc
  have := stg_lt s p
  rcases (show s.stg p = 0 ∨ s.stg p = 1 ∨ s.stg p = 2 ∨ s.stg p = 3 by omega) with e | e | e | e
  · rw [lv_step0 e hp, if_neg]; exact hq
    intro z; subst z; rw [stg0.mp e] at hq; cases hq
  · rw [lv_step1 e]; exact hq
  · rw [lv_step2 e hp, if_neg]; exact hq
    intro z; subst z; rw [(stg2.mp e).1] at hq; cases hq
  · rw [lv_step3 e]; exact hq
theorem WF.step (h : s.WF) (hc : s.cm p ≠ none) : (s.step p).WF := by
  have hp := lt_of_cm h hc
  have hps : p < s.seen.length := by rw [h.ls]; exact hp
  have h4 := stg_lt s p
  have hlen := len_step (s := s) (p := p)
  have k2 := has2_step h hc
  have lens : (s.step p).came.length = (s.step p).lev.length ∧ (s.step p).heard.length = (s.step p).lev.length ∧ (s.step p).seen.length = (s.step p).lev.length := by
    rw [hlen, came_step]
    refine ⟨h.lc, ?_, ?_⟩
    · unfold DS.step; split <;> (try split) <;> simp [h.lh]
    · unfold DS.step; split <;> (try split) <;> simp [h.ls]
  rcases (show s.stg p = 0 ∨ s.stg p = 1 ∨ s.stg p = 2 ∨ s.stg p = 3 by omega) with e | e | e | e
  · have L := lv_step0 e hp
    have S : ∀ q, (s.step p).sn q = s.sn q := sn_stepN (by omega)
    refine ⟨by rw [hlen]; exact h.n1, by rw [hlen]; exact h.n5, lens.1, lens.2.1, lens.2.2, fun q x hq => ?_, fun q hq => ?_, fun q hq => ?_, fun q x hq hx => ?_, fun q hq => ?_, fun q l hq hl => ?_⟩
    · rw [L] at hq; split at hq
      · cases hq; omega
      · exact h.vals q x hq
    · rw [cm_step]; rw [L] at hq; split at hq
      · rename_i z; subst z; exact hc
      · exact h.cmv q hq
    · rw [S] at hq; rw [L]; split
      · simp
      · exact h.snv q hq
    · rw [S]; rw [L] at hq; split at hq
      · cases hq; exact absurd rfl hx
      · exact h.lok q x hq hx
    · rw [L] at hq; split at hq
      · cases hq
      · exact k2 (h.z2 q hq)
    · rw [S] at hq; exact k2 (h.s2 q l hq hl)
  · have L := lv_step1 e
    have S := sn_step1 e hps
    obtain ⟨e1, e2⟩ := stg1.mp e
    refine ⟨by rw [hlen]; exact h.n1, by rw [hlen]; exact h.n5, lens.1, lens.2.1, lens.2.2, fun q x hq => h.vals q x (by rw [← L]; exact hq), fun q hq => ?_, fun q hq => ?_, fun q x hq hx => ?_, fun q hq => ?_, fun q l hq hl => ?_⟩
    · rw [cm_step]; exact h.cmv q (by rw [← L]; exact hq)
    · rw [L]; rw [S] at hq; split at hq
      · rename_i z; subst z; rw [e1]; simp
      · exact h.snv q hq
    · rw [S]; split
      · simp
      · exact h.lok q x (by rw [← L]; exact hq) hx
    · exact k2 (h.z2 q (by rw [← L]; exact hq))
    · rw [S] at hq; split at hq
      · cases hq; exact k2 (mem_getD.mp hl)
      · exact k2 (h.s2 q l hq hl)
  · have L := lv_step2 e hp
    have S : ∀ q, (s.step p).sn q = s.sn q := sn_stepN (by omega)
    obtain ⟨e1, e2⟩ := stg2.mp e
    have w2 := wr02 s p
    refine ⟨by rw [hlen]; exact h.n1, by rw [hlen]; exact h.n5, lens.1, lens.2.1, lens.2.2, fun q x hq => ?_, fun q hq => ?_, fun q hq => ?_, fun q x hq hx => ?_, fun q hq => ?_, fun q l hq hl => ?_⟩
    · rw [L] at hq; split at hq
      · cases hq; omega
      · exact h.vals q x hq
    · rw [cm_step]; rw [L] at hq; split at hq
      · rename_i z; subst z; exact hc
      · exact h.cmv q hq
    · rw [S] at hq; rw [L]; split
      · simp
      · exact h.snv q hq
    · rw [S]; rw [L] at hq; split at hq
      · rename_i z; subst z; exact e2
      · exact h.lok q x hq hx
    · rw [L] at hq; split at hq
      · rename_i z; subst z
        rcases w2 with ⟨_, w⟩ | ⟨w, _⟩
        · obtain ⟨l, hl, hl2⟩ := saw_iff.mp w
          exact k2 (h.s2 _ l hl hl2)
        · rw [w] at hq; cases hq
      · exact k2 (h.z2 q hq)
    · rw [S] at hq; exact k2 (h.s2 q l hq hl)
  · have L := lv_step3 e
    have S : ∀ q, (s.step p).sn q = s.sn q := sn_stepN (by omega)
    exact ⟨by rw [hlen]; exact h.n1, by rw [hlen]; exact h.n5, lens.1, lens.2.1, lens.2.2, fun q x hq => h.vals q x (by rw [← L]; exact hq), fun q hq => by rw [cm_step]; exact h.cmv q (by rw [← L]; exact hq), fun q hq => by rw [L]; exact h.snv q (by rw [← S]; exact hq),
      fun q x hq hx => by rw [S]; exact h.lok q x (by rw [← L]; exact hq) hx, fun q hq => k2 (h.z2 q (by rw [← L]; exact hq)), fun q l hq hl => k2 (h.s2 q l (by rw [← S]; exact hq) hl)⟩
/-- who asks while nobody stands at 1 finds somebody at 2, who came -/
theorem ask_two (h : s.WF) (e : s.stg p = 3) : ∃ q, s.lv q = some 2 := by
  obtain ⟨x, hx, h1⟩ := stg3.mp e
  rcases h.vals p x hx with rfl | rfl | rfl
  · exact h.z2 p hx
  · exact absurd rfl h1
  · exact ⟨p, hx⟩
theorem two_came (h : s.WF) (e : ∃ q, s.lv q = some 2) : ∃ v, s.cm s.two = some v := by
  obtain ⟨_, h2, _⟩ := two_lev e
  cases c : s.cm s.two with
  | none => exact absurd c (h.cmv _ (by rw [h2]; simp))
  | some v => exact ⟨v, rfl⟩
/-! ### going on -/
theorem stg_step (h : s.WF) (hc : s.cm p ≠ none) (q : Nat) : (s.step p).stg q = if p = q then min 3 (s.stg p + 1) else s.stg q := by
  have hp := lt_of_cm h hc
  have hps : p < s.seen.length := by rw [h.ls]; exact hp
  have h4 := stg_lt s p
  rcases (show s.stg p = 0 ∨ s.stg p = 1 ∨ s.stg p = 2 ∨ s.stg p = 3 by omega) with e | e | e | e
  · by_cases z : p = q
    · subst z
      have hsn : s.sn p = none := by
        cases c : s.sn p with
        | none => rfl
        | some l => exact absurd (stg0.mp e) (h.snv p (by rw [c]; simp))
      rw [if_pos rfl, e]
      exact stg1.mpr ⟨by rw [lv_step0 e hp, if_pos rfl], by rw [sn_stepN (by omega)]; exact hsn⟩
    · rw [if_neg z]; unfold stg; rw [lv_step0 e hp, if_neg z, sn_stepN (by omega)]
  · by_cases z : p = q
    · subst z
      rw [if_pos rfl, e]
      exact stg2.mpr ⟨by rw [lv_step1 e]; exact (stg1.mp e).1, by rw [sn_step1 e hps, if_pos rfl]; simp⟩
    · rw [if_neg z]; unfold stg; rw [lv_step1 e, sn_step1 e hps, if_neg z]
  · by_cases z : p = q
    · subst z
      rw [if_pos rfl, e]
      refine stg3.mpr ⟨s.wr p, by rw [lv_step2 e hp, if_pos rfl], ?_⟩
      rcases wr02 s p with ⟨w, _⟩ | ⟨w, _⟩ <;> rw [w] <;> decide
    · rw [if_neg z]; unfold stg; rw [lv_step2 e hp, if_neg z, sn_stepN (by omega)]
  · have : (s.step p).stg q = s.stg q := by unfold stg; rw [lv_step3 e, sn_stepN (by omega)]
    rw [this]
    by_cases z : p = q
    · subst z; rw [if_pos rfl, e]; rfl
    · rw [if_neg z]
theorem stg_come (q : Nat) : (s.come p v).stg q = s.stg q := rfl
theorem no_one (h : ∀ q, s.stg q = 0 ∨ s.stg q = 3) : some 1 ∉ s.lev := fun m => by
  obtain ⟨q, hq⟩ := mem_getD.mp m
  have hq : s.lv q = some 1 := hq
  rcases h q with e | e
  · rw [stg0.mp e] at hq; cases hq
  · obtain ⟨x, hx, hx1⟩ := stg3.mp e
    rw [hq] at hx
    cases hx
    exact hx1 rfl
end
end DS
end Fp
/-! A door in the heap; promises of the program's defs -/
namespace Fp
open PySem PySem.Spec PyProof.Rows L2
def dfl (n : Int) (a b c e f : Addr) : List (Str × V) := [("many", .int n), ("came", .ref a), ("levels", .ref b), ("heard", .ref c), ("seen", .ref e), ("deeds", .ref f)]
structure DC (K : PySem.W.Frag) (C : Addr) : Prop where
  cl : Cls K C
  nM : NoAttr K C "many"
  nC : NoAttr K C "came"
  nL : NoAttr K C "levels"
  nH : NoAttr K C "heard"
  nS : NoAttr K C "seen"
  nD : NoAttr K C "deeds"
section
variable {n n' : Int} {a b c e f a' b' c' e' f' : Addr}
theorem d_many : (dfl n a b c e f).lookup ("many" : Str) = some (.int n) := by kernel_rfl
theorem d_came : (dfl n a b c e f).lookup ("came" : Str) = some (.ref a) := by kernel_rfl
theorem d_lev : (dfl n a b c e f).lookup ("levels" : Str) = some (.ref b) := by kernel_rfl
theorem d_heard : (dfl n a b c e f).lookup ("heard" : Str) = some (.ref c) := by kernel_rfl
theorem d_seen : (dfl n a b c e f).lookup ("seen" : Str) = some (.ref e) := by kernel_rfl
theorem d_deeds : (dfl n a b c e f).lookup ("deeds" : Str) = some (.ref f) := by kernel_rfl
theorem dp_came : putF "came" (.ref a') (dfl n a b c e f) = dfl n a' b c e f := by kernel_rfl
theorem dp_lev : putF "levels" (.ref b') (dfl n a b c e f) = dfl n a b' c e f := by kernel_rfl
theorem dp_heard : putF "heard" (.ref c') (dfl n a b c e f) = dfl n a b c' e f := by kernel_rfl
theorem dp_seen : putF "seen" (.ref e') (dfl n a b c e f) = dfl n a b c e' f := by kernel_rfl
theorem dp_deeds : putF "deeds" (.ref f') (dfl n a b c e f) = dfl n a b c e f' := by kernel_rfl
theorem d_all : putF "deeds" (.ref f) (putF "seen" (.ref e) (putF "heard" (.ref c) (putF "levels" (.ref b) (putF "came" (.ref a) (putF "many" (.int n) []))))) = dfl n a b c e f := by kernel_rfl
theorem no_check : (dfl n a b c e f).lookup ("check_player" : Str) = none := by kernel_rfl
theorem no_next : (dfl n a b c e f).lookup ("next" : Str) = none := by kernel_rfl
theorem no_shows : (dfl n a b c e f).lookup ("shows_level" : Str) = none := by kernel_rfl
theorem no_asks : (dfl n a b c e f).lookup ("asks" : Str) = none := by kernel_rfl
theorem no_step : (dfl n a b c e f).lookup ("step" : Str) = none := by kernel_rfl
theorem no_come : (dfl n a b c e f).lookup ("come" : Str) = none := by kernel_rfl
theorem no_copy : (dfl n a b c e f).lookup ("copy" : Str) = none := by kernel_rfl
end
/-- (VALUE,), or None -/
def One (H : Hp) (x : V) : Option V → Prop
  | none => x = .non
  | some v => ∃ p, x = .ref p ∧ H p = some (.tup [v])
def SeenAt (H : Hp) (x : V) : Option (List Lv) → Prop
  | none => x = .non
  | some l => ∃ p, x = .ref p ∧ TF H p (l.map lvV)
def DeedAt (H : Hp) (x : V) (d : Deed) : Prop := ∃ p, x = .ref p ∧ H p = some (.tup [.str (if d.stp then "step" else "come"), .int (d.p : Nat), d.x])
theorem One.mono {H H' : Hp} (g : TK H H') {x : V} {o : Option V} (h : One H x o) : One H' x o := by
  cases o with
  | none => exact h
  | some v => obtain ⟨p, e, q⟩ := h; exact ⟨p, e, g.t q⟩
theorem SeenAt.mono {H H' : Hp} (g : TK H H') {x : V} {o : Option (List Lv)} (h : SeenAt H x o) : SeenAt H' x o := by
  cases o with
  | none => exact h
  | some v => obtain ⟨p, e, q⟩ := h; exact ⟨p, e, g.f q⟩
theorem DeedAt.mono {H H' : Hp} (g : TK H H') {x : V} {o : Deed} (h : DeedAt H x o) : DeedAt H' x o := by
  obtain ⟨p, e, q⟩ := h; exact ⟨p, e, g.t q⟩
theorem pr_imp {α β : Type} {F G : α → β → Prop} (f : ∀ a b, F a b → G a b) : ∀ {l : List α} {m : List β}, Paired F l m → Paired G l m
  | _, _, .nil => .nil
  | _, _, .cons a b => .cons (f _ _ a) (pr_imp f b)
theorem pr_len {α β : Type} {F : α → β → Prop} : ∀ {l : List α} {m : List β}, Paired F l m → l.length = m.length
  | _, _, .nil => rfl
  | _, _, .cons _ b => congrArg (· + 1) (pr_len b)
theorem pr_at {α β : Type} {F : α → β → Prop} : ∀ {l : List α} {m : List β} {i : Nat} {y : β}, Paired F l m → m[i]? = some y → ∃ x, l[i]? = some x ∧ F x y
  | _, _, 0, _, .cons h _, e => by cases e; exact ⟨_, rfl, h⟩
  | _, _, i + 1, x, .cons _ r, e => pr_at (i := i) r e
  | _, _, _, _, .nil, e => by cases e
theorem pr_set {α β : Type} {F : α → β → Prop} {x : α} {y : β} (h : F x y) : ∀ {l : List α} {m : List β} (i : Nat), Paired F l m → Paired F (l.set i x) (m.set i y)
  | _, _, _, .nil => .nil
  | _, _, 0, .cons _ r => .cons h r
  | _, _, i + 1, .cons a r => .cons a (pr_set h i r)
theorem pr_snoc {α β : Type} {F : α → β → Prop} {a : α} {b : β} (h : F a b) : ∀ {l : List α} {m : List β}, Paired F l m → Paired F (l ++ [a]) (m ++ [b])
  | _, _, .nil => .cons h .nil
  | _, _, .cons k r => .cons k (pr_snoc h r)
theorem pr_rep {α β : Type} {F : α → β → Prop} {x : α} {y : β} (h : F x y) : ∀ n : Nat, Paired F (List.replicate n x) (List.replicate n y)
  | 0 => .nil
  | n + 1 => .cons h (pr_rep h n)
/-- values that may be brought -/
def Good (H : Hp) (v : V) : Prop := ∃ d, VAt H v d ∧ VOk 3 d
theorem Good.mono {H H' : Hp} (g : TK H H') {v : V} (h : Good H v) : Good H' v := by obtain ⟨d, a, b⟩ := h; exact ⟨d, a.mono g, b⟩
structure DoorIn (C : Addr) (H : Hp) (d : Addr) (s : DS) (dx a b c e f : Addr) (cv hv sv dv : List V) : Prop where
  obj : H d = some (.ins C dx (dfl (s.lev.length : Nat) a b c e f))
  own : H dx = some (.own d)
  came : TF H a cv
  cameP : Paired (One H) cv s.came
  lev : TF H b (s.lev.map lvV)
  heard : TF H c hv
  heardP : Paired (One H) hv s.heard
  seen : TF H e sv
  seenP : Paired (SeenAt H) sv s.seen
  deeds : H f = some (.tup dv)
  deedsP : Paired (DeedAt H) dv s.deeds
  good : ∀ p v, s.cm p = some v → Good H v
  wf : s.WF
def DoorAt (C : Addr) (H : Hp) (d : Addr) (s : DS) : Prop := ∃ dx a b c e f cv hv sv dv, DoorIn C H d s dx a b c e f cv hv sv dv
theorem DoorIn.mono {C : Addr} {H H' : Hp} {d : Addr} {s : DS} {dx a b c e f : Addr} {cv hv sv dv : List V} (h : DoorIn C H d s dx a b c e f cv hv sv dv) (g : TK H H') (g1 : ∀ o, H d = some o → H' d = some o) (g2 : H' dx = H dx) : DoorIn C H' d s dx a b c e f cv hv sv dv :=
  ⟨g1 _ h.obj, by rw [g2]; exact h.own, g.f h.came, pr_imp (fun _ _ => One.mono g) h.cameP, g.f h.lev, g.f h.heard, pr_imp (fun _ _ => One.mono g) h.heardP, g.f h.seen, pr_imp (fun _ _ => SeenAt.mono g) h.seenP, g.t h.deeds, pr_imp (fun _ _ => DeedAt.mono g) h.deedsP, fun p v hv => (h.good p v hv).mono g, h.wf⟩
theorem DoorAt.same {C : Addr} {H H' : Hp} {d : Addr} {s : DS} (h : DoorAt C H d s) (g : Same H H') : DoorAt C H' d s := by
  obtain ⟨dx, a, b, c, e, f, cv, hv, sv, dv, h⟩ := h
  exact ⟨dx, a, b, c, e, f, cv, hv, sv, dv, h.mono (.of g) (fun o q => g _ _ q) (by rw [g _ _ h.own]; exact h.own.symm)⟩
/-- what is not an instance, an own dict or a tuple may change -/
theorem DoorAt.but {C : Addr} {H H' : Hp} {d : Addr} {s : DS} {S : List Addr} (h : DoorAt C H d s) (g : But S H H') (n : ∀ x ∈ S, (∃ xs, H x = some (.lst xs)) ∨ ∃ kvs, H x = some (.dK kvs)) : DoorAt C H' d s := by
  obtain ⟨dx, a, b, c, e, f, cv, hv, sv, dv, h⟩ := h
  have nd : d ∉ S := fun m => by
    rcases n d m with ⟨xs, z⟩ | ⟨xs, z⟩ <;> rw [h.obj] at z <;> cases z
  have nx : dx ∉ S := fun m => by
    rcases n dx m with ⟨xs, z⟩ | ⟨xs, z⟩ <;> rw [h.own] at z <;> cases z
  refine ⟨dx, a, b, c, e, f, cv, hv, sv, dv, h.mono (TK.but g fun x m z => ?_) (fun o q => g _ _ nd q) (by rw [g _ _ nx h.own]; exact h.own.symm)⟩
  rcases n x m with ⟨ys, z'⟩ | ⟨ys, z'⟩ <;> rw [z'] at z <;> exact z
theorem DoorAt.wf {C : Addr} {H : Hp} {d : Addr} {s : DS} (h : DoorAt C H d s) : s.WF := by
  obtain ⟨dx, a, b, c, e, f, cv, hv, sv, dv, h⟩ := h
  exact h.wf
theorem getD_at {α : Type} {l : List (Option α)} {p : Nat} (h : p < l.length) : l[p]? = some (l.getD p none) := by
  rw [List.getElem?_eq_getElem h]; exact congrArg some (getD_of (List.getElem?_eq_getElem h)).symm
theorem DS.WF.acm {s : DS} (W : s.WF) {p : Nat} (h : p < s.lev.length) : s.came[p]? = some (s.cm p) := getD_at (by rw [W.lc]; exact h)
theorem DS.WF.asn {s : DS} (W : s.WF) {p : Nat} (h : p < s.lev.length) : s.seen[p]? = some (s.sn p) := getD_at (by rw [W.ls]; exact h)
theorem alv {s : DS} {p : Nat} (h : p < s.lev.length) : s.lev[p]? = some (s.lv p) := getD_at h
theorem alvV {s : DS} {p : Nat} (h : p < s.lev.length) : (s.lev.map lvV)[p]? = some (lvV (s.lv p)) := by rw [List.getElem?_map, alv h]; rfl
theorem One.is {H : Hp} {x : V} {o : Option V} (h : One H x o) : decide (x = .non) = o.isNone := by
  cases o with
  | none => rw [show x = .non from h]; rfl
  | some v => obtain ⟨p, e, _⟩ := h; rw [e]; rfl
theorem SeenAt.is {H : Hp} {x : V} {o : Option (List Lv)} (h : SeenAt H x o) : decide (x = .non) = o.isNone := by
  cases o with
  | none => rw [show x = .non from h]; rfl
  | some v => obtain ⟨p, e, _⟩ := h; rw [e]; rfl
theorem lv_flat : ∀ l : List Lv, (l.map lvV).all flatV = true
  | [] => rfl
  | none :: l => by rw [List.map_cons, List.all_cons, lv_flat l]; rfl
  | some i :: l => by rw [List.map_cons, List.all_cons, lv_flat l]; rfl
theorem eqV_lv (i : Int) (a : Lv) : eqV (lvV a) (.int i) = decide (a = some i) := by
  cases a with
  | none => rfl
  | some j =>
    show (j == i) = _
    rw [Bool.eq_iff_iff]; simp
theorem inV_lv (i : Int) (l : List Lv) : inV (.int i) (l.map lvV) = decide (some i ∈ l) := by
  unfold inV
  rw [List.any_map, Bool.eq_iff_iff, List.any_eq_true, decide_eq_true_iff]
  constructor
  · rintro ⟨x, hx, e⟩
    have e' : eqV (lvV x) (.int i) = true := e
    rw [eqV_lv, decide_eq_true_iff] at e'
    exact e' ▸ hx
  · intro h
    exact ⟨some i, h, by show eqV (lvV (some i)) (.int i) = true; rw [eqV_lv]; simp⟩
def DS.log (s : DS) (p : Nat) : DS := { s with deeds := s.deeds ++ [⟨true, p, .str (DS.kindOf (s.stg p))⟩] }
theorem DS.log_step (s : DS) (p : Nat) : { (s.log p).step p with deeds := (s.log p).deeds } = s.step p := by
  have h4 := DS.stg_lt s p
  have e0 : (s.log p).stg p = s.stg p := rfl
  rcases (show s.stg p = 0 ∨ s.stg p = 1 ∨ s.stg p = 2 ∨ s.stg p = 3 by omega) with e | e | e | e
  · rw [DS.step0 e, DS.step0 (e0.trans e)]; unfold DS.log; rw [e]; rfl
  · rw [DS.step1 e, DS.step1 (e0.trans e)]; unfold DS.log; rw [e]; rfl
  · rw [DS.step2 e, DS.step2 (e0.trans e)]; unfold DS.log; rw [e]; rfl
  · rw [DS.step3 e, DS.step3 (e0.trans e)]; unfold DS.log; rw [e]; split <;> rfl
theorem DS.WF.log {s : DS} {p : Nat} (W : s.WF) : (s.log p).WF := ⟨W.n1, W.n5, W.lc, W.lh, W.ls, W.vals, W.cmv, W.snv, W.lok, W.z2, W.s2⟩
/-- a tuple, of either kind -/
def TT (H : Hp) (a : Addr) (xs : List V) : Prop := H a = some (.tup xs) ∨ TF H a xs
theorem TT.sq {K : PySem.W.Frag} {H : Hp} {a : Addr} {xs : List V} (h : TT H a xs) : SqT K H a xs := h.elim (fun h => .of h) fun h => h.sq
theorem TK.tt {H H' : Hp} (g : TK H H') {a : Addr} {xs : List V} (h : TT H a xs) : TT H' a xs := h.imp (fun h => g.t h) fun h => g.f h
/-- what a step tells -/
def ToldAt (H : Hp) (t : Addr) : Told → Prop
  | .level i => H t = some (.tup [.str "level", .int i])
  | .look l => ∃ q, H t = some (.tup [.str "look", .ref q]) ∧ TT H q (l.map lvV)
  | .wait => H t = some (.tup [.str "wait"])
  | .word v => H t = some (.tup [.str "word", v])
theorem ToldAt.mono {H H' : Hp} (g : TK H H') {t : Addr} {x : Told} (h : ToldAt H t x) : ToldAt H' t x := by
  cases x with
  | level i => exact g.t h
  | look l => obtain ⟨q, a, b⟩ := h; exact ⟨q, g.t a, g.tt b⟩
  | wait => exact g.t h
  | word v => exact g.t h
/-! ### the law's own door -/
def odict (l1 l2 l3 l4 l5 : Addr) (k : Int) : List (Key × V) := [(.inr "came", .ref l1), (.inr "levels", .ref l2), (.inr "stages", .ref l3), (.inr "won", .ref l4), (.inr "heard", .ref l5), (.inr "steps", .int k)]
section
variable {l1 l2 l3 l4 l5 : Addr} {k k' : Int}
theorem o_came : valV (odict l1 l2 l3 l4 l5 k) (.inr "came") = some (.ref l1) := by kernel_rfl
theorem o_lev : valV (odict l1 l2 l3 l4 l5 k) (.inr "levels") = some (.ref l2) := by kernel_rfl
theorem o_stg : valV (odict l1 l2 l3 l4 l5 k) (.inr "stages") = some (.ref l3) := by kernel_rfl
theorem o_won : valV (odict l1 l2 l3 l4 l5 k) (.inr "won") = some (.ref l4) := by kernel_rfl
theorem o_heard : valV (odict l1 l2 l3 l4 l5 k) (.inr "heard") = some (.ref l5) := by kernel_rfl
theorem o_steps : valV (odict l1 l2 l3 l4 l5 k) (.inr "steps") = some (.int k) := by kernel_rfl
theorem op_steps : putK (odict l1 l2 l3 l4 l5 k) (.inr "steps") (.int k') = odict l1 l2 l3 l4 l5 k' := by kernel_rfl
theorem o_merge : mergeK [] (odict l1 l2 l3 l4 l5 k) = odict l1 l2 l3 l4 l5 k := by kernel_rfl
theorem og_came {H : Hp} {o : Addr} (h : H o = some (.dK (odict l1 l2 l3 l4 l5 k))) : DGet H o (.str "came") (some (.ref l1)) := by
  have := DGet.k (k := .inr "came") h; rw [o_came] at this; exact this
theorem og_lev {H : Hp} {o : Addr} (h : H o = some (.dK (odict l1 l2 l3 l4 l5 k))) : DGet H o (.str "levels") (some (.ref l2)) := by
  have := DGet.k (k := .inr "levels") h; rw [o_lev] at this; exact this
theorem og_stg {H : Hp} {o : Addr} (h : H o = some (.dK (odict l1 l2 l3 l4 l5 k))) : DGet H o (.str "stages") (some (.ref l3)) := by
  have := DGet.k (k := .inr "stages") h; rw [o_stg] at this; exact this
theorem og_won {H : Hp} {o : Addr} (h : H o = some (.dK (odict l1 l2 l3 l4 l5 k))) : DGet H o (.str "won") (some (.ref l4)) := by
  have := DGet.k (k := .inr "won") h; rw [o_won] at this; exact this
theorem og_heard {H : Hp} {o : Addr} (h : H o = some (.dK (odict l1 l2 l3 l4 l5 k))) : DGet H o (.str "heard") (some (.ref l5)) := by
  have := DGet.k (k := .inr "heard") h; rw [o_heard] at this; exact this
theorem og_steps {H : Hp} {o : Addr} (h : H o = some (.dK (odict l1 l2 l3 l4 l5 k))) : DGet H o (.str "steps") (some (.int k)) := by
  have := DGet.k (k := .inr "steps") h; rw [o_steps] at this; exact this
theorem oput_steps {H : Hp} {o : Addr} (h : H o = some (.dK (odict l1 l2 l3 l4 l5 k))) : DPut H o (.str "steps") (.int k') (upd H o (.dK (odict l1 l2 l3 l4 l5 k'))) := by
  have := DPut.k (k := .inr "steps") (v := .int k') h (szt (by show 6 < _; decide)); rw [op_steps] at this; exact this
end
theorem ixn {n j : Nat} (h : j < n) : ixN n (j : Int) = some j := by
  unfold ixN
  rw [if_pos (by omega), if_pos (by omega)] <;> simp
def DS.won (s : DS) (p : Nat) : Bool := match s.sn p with
  | none => false
  | some l => !decide (some 2 ∈ l)
structure OwnIn (H : Hp) (o l1 l2 l3 l4 l5 : Addr) (s : DS) (cv hv : List V) (k : Int) : Prop where
  dict : H o = some (.dK (odict l1 l2 l3 l4 l5 k))
  came : H l1 = some (.lst cv)
  cameP : Paired (One H) cv s.came
  lev : H l2 = some (.lst (s.lev.map lvV))
  stg : H l3 = some (.lst ((List.range s.lev.length).map fun p => V.int (s.stg p : Nat)))
  won : H l4 = some (.lst ((List.range s.lev.length).map fun p => V.bl (s.won p)))
  heard : H l5 = some (.lst hv)
  heardP : Paired (One H) hv s.heard
  nd : [o, l1, l2, l3, l4, l5].Nodup
def OwnAt (H : Hp) (o : Addr) (L : List Addr) (s : DS) (k : Int) : Prop := ∃ l1 l2 l3 l4 l5 cv hv, L = [o, l1, l2, l3, l4, l5] ∧ OwnIn H o l1 l2 l3 l4 l5 s cv hv k
theorem OwnAt.but {H H' : Hp} {o : Addr} {L S : List Addr} {s : DS} {k : Int} (h : OwnAt H o L s k) (g : But S H H') (n : ∀ x ∈ S, x ∉ L) (tk : TK H H') : OwnAt H' o L s k := by
  obtain ⟨l1, l2, l3, l4, l5, cv, hv, rfl, h⟩ := h
  have w : ∀ x ∈ [o, l1, l2, l3, l4, l5], x ∉ S := fun x hx m => n x m hx
  exact ⟨l1, l2, l3, l4, l5, cv, hv, rfl, g _ _ (w o (by simp)) h.dict, g _ _ (w l1 (by simp)) h.came, pr_imp (fun _ _ => One.mono tk) h.cameP, g _ _ (w l2 (by simp)) h.lev, g _ _ (w l3 (by simp)) h.stg, g _ _ (w l4 (by simp)) h.won, g _ _ (w l5 (by simp)) h.heard, pr_imp (fun _ _ => One.mono tk) h.heardP, h.nd⟩
theorem OwnAt.same {H H' : Hp} {o : Addr} {L : List Addr} {s : DS} {k : Int} (h : OwnAt H o L s k) (g : Same H H') : OwnAt H' o L s k := h.but (S := []) (.of g) (fun _ m => by cases m) (.of g)
/-- what stands at its places -/
theorem OwnAt.kind {H : Hp} {o : Addr} {L : List Addr} {s : DS} {k : Int} (h : OwnAt H o L s k) : ∀ x ∈ L, (∃ xs, H x = some (.lst xs)) ∨ ∃ kvs, H x = some (.dK kvs) := by
  obtain ⟨l1, l2, l3, l4, l5, cv, hv, rfl, h⟩ := h
  intro x hx
  simp only [List.mem_cons, List.not_mem_nil, or_false] at hx
  rcases hx with rfl | rfl | rfl | rfl | rfl | rfl
  · exact .inr ⟨_, h.dict⟩
  · exact .inl ⟨_, h.came⟩
  · exact .inl ⟨_, h.lev⟩
  · exact .inl ⟨_, h.stg⟩
  · exact .inl ⟨_, h.won⟩
  · exact .inl ⟨_, h.heard⟩
theorem none0 {P : Program} {w : World} {K : PySem.W.Frag} {mg : Str → Option Value} {base : Heap} {f : Addr} {fd : FuncData} {sp : Sp} {ps : List Str} (h : ∀ vs H Q E, ¬ sp vs H Q E) : FnOk P w K mg base CX0 0 f fd ps sp :=
  ⟨fun vs H Q E q => absurd q (h vs H Q E), fun A outer s H args us vs Q E _ _ _ _ q => absurd q (h vs H Q E)⟩
/-! ### promises -/
def vc : Nat → Nat
  | 0 => 2
  | n + 1 => 2 + 3 * vc n
def spVal (n : Nat) : Sp := fun vs H Q _ => ∃ (p : Addr) (deep m : Nat), vs = [.ref p, .int deep] ∧ deep < n ∧ deep ≤ 2 ∧ m + vc deep ≤ 900000 ∧ PotAt H p m ∧ ∀ v d H', But [p] H H' → VAt H' v d → VOk deep d → PotAt H' p (m + vc deep) → Q v H'
def spODoor : Sp := fun vs H Q _ => ∃ n : Nat, vs = [.int n] ∧ n ≤ 5 ∧ ∀ o L H', Same H H' → (∀ x ∈ L, H x = none) → OwnAt H' o L (DS.new n) 0 → Q (.ref o) H'
def spOCome : Sp := fun vs H Q _ => ∃ (o : Addr) (L : List Addr) (p : Nat) (v : V) (s : DS) (k : Int), vs = [.ref o, .int p, v] ∧ OwnAt H o L s k ∧ p < s.lev.length ∧ s.WF ∧ ∀ H', But L H H' → OwnAt H' o L (s.come p v) k → Q .non H'
def spOStep : Sp := fun vs H Q _ => ∃ (o : Addr) (L : List Addr) (p : Nat) (s : DS) (k : Int), vs = [.ref o, .int p] ∧ OwnAt H o L s k ∧ s.cm p ≠ none ∧ s.WF ∧ ∀ t H', But L H H' → ToldAt H' t (s.told p) → OwnAt H' o L (s.step p) (k + 1) → Q (.ref t) H'
/-- a drawn deed: a coming (None as long as the player is here), or a step -/
def spDeed : Sp := fun vs H Q _ => ∃ (pt o : Addr) (L : List Addr) (s : DS) (k : Int) (m : Nat), vs = [.ref pt, .ref o] ∧ OwnAt H o L s k ∧ s.WF ∧ pt ∉ L ∧ PotAt H pt m ∧ m < 800000 ∧
  ∀ (t : Addr) (p : Nat) (H' : Hp), But [pt] H H' → PotAt H' pt (m + 100) → p < s.lev.length →
    ((s.cm p = none ∧ ∃ q v, H' t = some (.tup [.int (p : Nat), .ref q]) ∧ H' q = some (.tup [v]) ∧ ∃ d, VAt H' v d ∧ VOk 2 d) ∨ (s.cm p ≠ none ∧ H' t = some (.tup [.int (p : Nat), .non]))) → Q (.ref t) H'
def spIsWhole : Sp := fun vs H Q _ => ∃ i : Int, vs = [.int i] ∧ Q (.bl true) H
def spBelow : Sp := fun vs H Q _ => ∃ i n : Int, vs = [.int i, .int n] ∧ Q (.bl (decide (0 ≤ i ∧ i < n))) H
def spExch (K : PySem.W.Frag) : Sp := fun vs H Q _ => ∃ (a : Addr) (xs : List V) (p : Nat) (v : V), vs = [.ref a, .int p, v] ∧ SqT K H a xs ∧ p < xs.length ∧ xs.length ≤ 1000 ∧ ∀ q H', Same H H' → TF H' q (xs.set p v) → Q (.ref q) H'
def spSmW (n : Nat) : Sp := fun vs H Q _ => ∃ (v : V) (d : PyData) (m : Nat) (deep : Int), vs = [v, .int deep] ∧ VAt H v d ∧ VOk m d ∧ m < n ∧ (m : Int) ≤ deep ∧ ∀ H', Same H H' → Q (.bl true) H'
def spSmall : Sp := fun vs H Q _ => ∃ v : V, vs = [v] ∧ Good H v ∧ ∀ H', Same H H' → Q (.bl true) H'
def spDInit (C : Addr) : Sp := fun vs H Q _ => ∃ (d dx : Addr) (n : Nat), vs = [.ref d, .int n] ∧ 1 ≤ n ∧ n ≤ 5 ∧ H d = some (.ins C dx []) ∧ H dx = some (.own d) ∧
  ∀ H', But [d] H H' → DoorAt C H' d (DS.new n) → Q .non H'
def spCheck (C : Addr) : Sp := fun vs H Q _ => ∃ (d : Addr) (p : Nat) (s : DS), vs = [.ref d, .int p] ∧ DoorAt C H d s ∧ p < s.lev.length ∧ Q .non H
def optS : Option Str → V
  | none => .non
  | some z => .str z
def spNext (C : Addr) : Sp := fun vs H Q _ => ∃ (d : Addr) (p : Nat) (s : DS), vs = [.ref d, .int p] ∧ DoorAt C H d s ∧ p < s.lev.length ∧ ∀ H', Same H H' → Q (optS (s.next p)) H'
def spShows (C : Addr) : Sp := fun vs H Q _ => ∃ (d : Addr) (p : Nat) (s : DS), vs = [.ref d, .int p] ∧ DoorAt C H d s ∧ p < s.lev.length ∧ (s.stg p = 0 ∨ s.stg p = 2) ∧ s.cm p ≠ none ∧
  ∀ t H', But [d] H H' → ToldAt H' t (s.told p) → DoorAt C H' d { s.step p with deeds := s.deeds } → Q (.ref t) H'
def spAsks (C : Addr) : Sp := fun vs H Q _ => ∃ (d : Addr) (p : Nat) (s : DS), vs = [.ref d, .int p] ∧ DoorAt C H d s ∧ p < s.lev.length ∧ s.stg p = 3 ∧ s.cm p ≠ none ∧
  ∀ t H', But [d] H H' → ToldAt H' t (s.told p) → DoorAt C H' d { s.step p with deeds := s.deeds } → Q (.ref t) H'
def spStep (C : Addr) : Sp := fun vs H Q _ => ∃ (d : Addr) (p : Nat) (s : DS), vs = [.ref d, .int p] ∧ DoorAt C H d s ∧ s.cm p ≠ none ∧ s.deeds.length < 100000 ∧
  ∀ t H', But [d] H H' → ToldAt H' t (s.told p) → DoorAt C H' d (s.step p) → Q (.ref t) H'
def spCome (C : Addr) : Sp := fun vs H Q _ => ∃ (d : Addr) (p : Nat) (v : V) (s : DS), vs = [.ref d, .int p, v] ∧ DoorAt C H d s ∧ p < s.lev.length ∧ s.cm p = none ∧ Good H v ∧ s.deeds.length < 100000 ∧
  ∀ H', But [d] H H' → DoorAt C H' d (s.come p v) → Q .non H'
def DS.held (s : DS) : List Nat := (List.range s.lev.length).filter fun p => decide (s.lv p = some 1)
def spHeld (C : Addr) : Sp := fun vs H Q _ => ∃ (d : Addr) (s : DS), vs = [.ref d] ∧ DoorAt C H d s ∧ ∀ t H', Same H H' → H' t = some (.tup (s.held.map fun (p : Nat) => V.int (p : Int))) → Q (.ref t) H'
end Fp
namespace Fp
open PySem PySem.Spec PyProof.Rows L2
theorem u65 {k : Nat} {A : Around} (r : Room k A) : A.units + 65 < cLine := by have := r.un; omega
/-! ### rules that may stand within a comprehension -/
theorem op_eqDK {X : Cx} {K : PySem.W.Frag} (hu : X.A.units + 64 < cLine) (e : X.K = K := by rfl) : OpR X (compareOp .Eq) (rEqD K) := by subst e; exact op_eqD hu
theorem op_neDK {X : Cx} {K : PySem.W.Frag} (hu : X.A.units + 64 < cLine) (e : X.K = K := by rfl) : OpR X (compareOp .NotEq) (rNeD K) := by subst e; exact op_neD hu
theorem ix_tupK {X : Cx} {K : PySem.W.Frag} (e : X.K = K := by rfl) : IxR X (rIxT K) := by subst e; exact ix_tup
theorem ix_listK {X : Cx} {K : PySem.W.Frag} (e : X.K = K := by rfl) : IxR X (rIxL K) := by subst e; exact ix_list
def rRepr (K : PySem.W.Frag) : List V → Hp → VK → Prop := fun xs H Q => ∃ (x : V) (d : PyData) (k n : Nat), xs = [x] ∧ Dp K H x d ∧ Sm k n d ∧ k ≤ 64 ∧ n ≤ 1000000 ∧ Q (.str d.shown) H
theorem call_reprK {X : Cx} {K : PySem.W.Frag} (hgu : X.A.guards = some []) (hu : X.A.units + 66 < cLine) (e : X.K = K := by rfl) : CallR X (.builtin "repr") (rRepr K) := by subst e; exact call_reprA hgu hu
theorem pe_fldK {X : Cx} {K : PySem.W.Frag} {o : Expr} {f : Str} {pos : Pos} {to : TE} (h : PE X (.Attribute o f pos) (tFld X.K to f)) (e : X.K = K := by rfl) : PE X (.Attribute o f pos) (tFld K to f) := by subst e; exact h
/-! ### what is told, as data -/
def TOk (H : Hp) : Told → Prop
  | .level i => 0 ≤ i ∧ i ≤ 2
  | .look l => l.length ≤ 5 ∧ ∀ x, some x ∈ l → 0 ≤ x ∧ x ≤ 2
  | .wait => True
  | .word v => Good H v
theorem TOk.mono {H H' : Hp} (g : TK H H') {x : Told} (h : TOk H x) : TOk H' x := by
  cases x with
  | level i => exact h
  | look l => exact h
  | wait => exact h
  | word v => exact Good.mono g h
theorem DS.WF.small {s : DS} (W : s.WF) : s.lev.length ≤ 5 ∧ ∀ x, some x ∈ s.lev → 0 ≤ x ∧ x ≤ 2 := ⟨W.n5, fun x h => by
  obtain ⟨q, hq⟩ := mem_getD.mp h
  rcases W.vals q x hq with rfl | rfl | rfl <;> decide⟩
theorem DoorAt.tok {C : Addr} {H : Hp} {d : Addr} {s : DS} {p : Nat} (h : DoorAt C H d s) : TOk H (s.told p) := by
  obtain ⟨dx, a, b, c, e, f, cv, hv, sv, dv, D⟩ := h
  have W := D.wf
  have h4 := DS.stg_lt s p
  rcases (show s.stg p = 0 ∨ s.stg p = 1 ∨ s.stg p = 2 ∨ s.stg p = 3 by omega) with z | z | z | z
  · rw [DS.told0 z]; exact ⟨by decide, by decide⟩
  · rw [DS.told1 z]; exact W.small
  · rw [DS.told2 z]; rcases DS.wr02 s p with ⟨e, _⟩ | ⟨e, _⟩ <;> rw [e] <;> exact ⟨by decide, by decide⟩
  · rw [DS.told3 z]; split
    · trivial
    · obtain ⟨v, hv⟩ := DS.two_came W (DS.ask_two W z)
      rw [hv]
      exact D.good _ _ hv
def lvD : Lv → PyData
  | none => .none
  | some i => .int i
theorem lv_dp {K : PySem.W.Frag} {H : Hp} : ∀ l : List Lv, DpAll K H (l.map lvV) (l.map lvD)
  | [] => .nil
  | none :: l => .cons .non (lv_dp l)
  | some i :: l => .cons (.int i) (lv_dp l)
theorem lv_sms {l : List Lv} (h : ∀ x, some x ∈ l → 0 ≤ x ∧ x ≤ 2) (hl : l.length ≤ 5) : Sms 1 5 (l.map lvD) := by
  refine (Sms.all (k := 1) (n := 0) fun d hd => ?_).mono (Nat.le_refl _) (by rw [List.length_map]; omega)
  obtain ⟨x, hx, rfl⟩ := List.mem_map.mp hd
  cases x with
  | none => exact Sm.non
  | some i => have := h i hx; exact Sm.int (by omega) (by omega)
theorem Good.dp {K : PySem.W.Frag} {H : Hp} {v : V} (h : Good H v) : ∃ d, Dp K H v d ∧ Sm 4 39 d := by
  obtain ⟨d, a, b⟩ := h
  exact ⟨d, a.dp, b.sm⟩
theorem sm_word (z : Str) (h : (decide (z.cps.size ≤ 10) && z.cps.toList.all (fun c => decide (c < 16 ^ 8)) && PyData.strOk z) = true) : Sm 1 10 (.str z) := by
  rw [Bool.and_eq_true, Bool.and_eq_true] at h
  exact Sm.str (of_decide_eq_true h.1.1) h.1.2 h.2
/-- what is told, as one data, wherever it stands -/
theorem told_data {H : Hp} {x : Told} (o : TOk H x) : ∃ d, Sm 6 100 d ∧ ∀ (K : PySem.W.Frag) (H' : Hp) (t : Addr), TK H H' → ToldAt H' t x → Dp K H' (.ref t) d := by
  cases x with
  | level i =>
    refine ⟨.tuple [.str "level", .int i], ?_, fun K H' t _ h => .tup (.of h) (.cons (.str _) (.cons (.int _) .nil))⟩
    exact (Sms.tup (.cons (sm_word _ (by decide +kernel)) (.cons ((Sm.int (i := i) (by have := o.1; omega) (by have := o.2; omega)).mono (Nat.le_refl 1) (Nat.le_refl 0)) (Sms.nil (n := 0))))).mono (by decide) (by decide)
  | look l =>
    refine ⟨.tuple [.str "look", .tuple (l.map lvD)], ?_, fun K H' t _ h => by obtain ⟨q, a, b⟩ := h; exact .tup (.of a) (.cons (.str _) (.cons (.tup b.sq (lv_dp l)) .nil))⟩
    exact (Sms.tup (.cons ((sm_word "look" (by decide +kernel)).mono (by decide : 1 ≤ 2) (Nat.le_refl 10)) (.cons (lv_sms o.2 o.1).tup (Sms.nil (n := 0))))).mono (by decide) (by decide)
  | wait =>
    refine ⟨.tuple [.str "wait"], ?_, fun K H' t _ h => .tup (.of h) (.cons (.str _) .nil)⟩
    exact (Sms.tup (.cons (sm_word "wait" (by decide +kernel)) (Sms.nil (n := 0)))).mono (by decide) (by decide)
  | word v =>
    obtain ⟨d, hd, ho⟩ := o
    refine ⟨.tuple [.str "word", d], ?_, fun K H' t g h => .tup (.of h) (.cons (.str _) (.cons (hd.mono g).dp .nil))⟩
    exact (Sms.tup (.cons ((sm_word "word" (by decide +kernel)).mono (by decide : 1 ≤ 4) (Nat.le_refl 10)) (.cons ho.sm (Sms.nil (n := 0))))).mono (by decide) (by decide)
/-- two tellings of one thing are one in data -/
theorem told_two {K : PySem.W.Frag} {H : Hp} {t1 t2 : Addr} {x : Told} (h1 : ToldAt H t1 x) (h2 : ToldAt H t2 x) (o : TOk H x) : ∃ d, Dp K H (.ref t1) d ∧ Dp K H (.ref t2) d ∧ Sm 6 100 d := by
  cases x with
  | level i =>
    refine ⟨.tuple [.str "level", .int i], .tup (.of h1) (.cons (.str _) (.cons (.int _) .nil)), .tup (.of h2) (.cons (.str _) (.cons (.int _) .nil)), ?_⟩
    exact (Sms.tup (.cons (sm_word _ (by decide +kernel)) (.cons ((Sm.int (i := i) (by have := o.1; omega) (by have := o.2; omega)).mono (Nat.le_refl 1) (Nat.le_refl 0)) (Sms.nil (n := 0))))).mono (by decide) (by decide)
  | look l =>
    obtain ⟨q1, a1, b1⟩ := h1
    obtain ⟨q2, a2, b2⟩ := h2
    refine ⟨.tuple [.str "look", .tuple (l.map lvD)], .tup (.of a1) (.cons (.str _) (.cons (.tup b1.sq (lv_dp l)) .nil)), .tup (.of a2) (.cons (.str _) (.cons (.tup b2.sq (lv_dp l)) .nil)), ?_⟩
    exact (Sms.tup (.cons ((sm_word "look" (by decide +kernel)).mono (by decide : 1 ≤ 2) (Nat.le_refl 10)) (.cons (lv_sms o.2 o.1).tup (Sms.nil (n := 0))))).mono (by decide) (by decide)
  | wait =>
    refine ⟨.tuple [.str "wait"], .tup (.of h1) (.cons (.str _) .nil), .tup (.of h2) (.cons (.str _) .nil), ?_⟩
    exact (Sms.tup (.cons (sm_word "wait" (by decide +kernel)) (Sms.nil (n := 0)))).mono (by decide) (by decide)
  | word v =>
    obtain ⟨d, hd, sm⟩ := Good.dp (K := K) o
    refine ⟨.tuple [.str "word", d], .tup (.of h1) (.cons (.str _) (.cons hd .nil)), .tup (.of h2) (.cons (.str _) (.cons hd .nil)), ?_⟩
    exact (Sms.tup (.cons ((sm_word "word" (by decide +kernel)).mono (by decide : 1 ≤ 4) (Nat.le_refl 10)) (.cons sm (Sms.nil (n := 0))))).mono (by decide) (by decide)
/-! ### lots of players -/
def natV (l : List Nat) : List V := l.map fun (p : Nat) => V.int (p : Int)
theorem natV_dp {K : PySem.W.Frag} {H : Hp} : ∀ l : List Nat, DpAll K H (natV l) (l.map fun (p : Nat) => PyData.int (p : Int))
  | [] => .nil
  | p :: l => .cons (.int _) (natV_dp l)
theorem natV_sm {l : List Nat} (h : ∀ p ∈ l, p ≤ 5) (hl : l.length ≤ 5) : Sm 2 5 (.tuple (l.map fun (p : Nat) => PyData.int (p : Int))) := by
  refine (Sms.all (k := 1) (n := 0) fun d hd => ?_).tup.mono (Nat.le_refl _) (by rw [List.length_map]; omega)
  obtain ⟨x, hx, rfl⟩ := List.mem_map.mp hd
  have := h x hx
  exact Sm.int (by omega) (by omega)
theorem held_small {s : DS} (W : s.WF) : (∀ p ∈ s.held, p ≤ 5) ∧ s.held.length ≤ 5 := by
  have h5 := W.n5
  refine ⟨fun p hp => ?_, ?_⟩
  · have := List.mem_range.mp (List.mem_filter.mp hp).1
    omega
  · have := List.length_filter_le (fun p => decide (s.lv p = some 1)) (List.range s.lev.length)
    rw [List.length_range] at this
    unfold DS.held
    omega
/-! ### a law's state: a door, an own door, a pot -/
theorem But.into {S T : List Addr} {H0 H H' : Hp} (a : But S H0 H) (b : But T H H') (h : ∀ x ∈ T, H0 x = none ∨ x ∈ S) : But S H0 H' := fun c o n e => b c o (fun m => by
  rcases h c m with z | z
  · rw [z] at e; cases e
  · exact n z) (a c o n e)
theorem But.free {pt d : Addr} {H H1 : Hp} (g : But [pt] H H1) (hp : H1 pt ≠ none) (h : H1 d = none) : H d = none := by
  cases e : H d with
  | none => rfl
  | some o =>
    have := g d o (by simp only [List.mem_singleton]; intro z; exact hp (z ▸ h)) e
    rw [h] at this; cases this
theorem PotAt.ne0 {H : Hp} {p : Addr} {n : Nat} (h : PotAt H p n) : H p ≠ none := by
  obtain ⟨xs, e⟩ := h.there
  rw [e]; simp
structure Sta (C : Addr) (H0 : Hp) (pt d o : Addr) (L : List Addr) (H : Hp) (s1 s2 : DS) (m : Nat) (q : Nat) : Prop where
  fr : But [pt] H0 H
  door : DoorAt C H d s1
  own : ∃ k, OwnAt H o L s2 k
  pot : PotAt H pt m
  p0 : H0 pt ≠ none
  d0 : H0 d = none
  L0 : ∀ x ∈ L, H0 x = none
  dl : s1.deeds.length ≤ q
theorem DoorAt.ins {C : Addr} {H : Hp} {d : Addr} {s : DS} (h : DoorAt C H d s) : ∃ dx fs, H d = some (.ins C dx fs) := by
  obtain ⟨dx, a, b, c, e, f, cv, hv, sv, dv, D⟩ := h
  exact ⟨_, _, D.obj⟩
theorem DoorAt.tk {C : Addr} {H H' : Hp} {d : Addr} {s : DS} (h : DoorAt C H d s) (g : But [d] H H') : TK H H' := TK.but g fun a ha z => by
  obtain ⟨dx, fs, e⟩ := h.ins
  rw [List.mem_singleton.mp ha, e] at z
  exact z
theorem PotAt.tk {H H' : Hp} {pt : Addr} {m : Nat} (h : PotAt H pt m) (g : But [pt] H H') : TK H H' := TK.but g fun a ha z => by
  obtain ⟨xs, e⟩ := h.there
  rw [List.mem_singleton.mp ha, e] at z
  exact z
theorem OwnAt.tk {H H' : Hp} {o : Addr} {L : List Addr} {s : DS} {k : Int} (h : OwnAt H o L s k) (g : But L H H') : TK H H' := TK.but g fun a ha z => by
  rcases h.kind a ha with ⟨xs, e⟩ | ⟨xs, e⟩ <;> rw [e] at z <;> exact z
theorem PotAt.but {H H' : Hp} {pt : Addr} {m : Nat} {S : List Addr} (h : PotAt H pt m) (g : But S H H') (n : pt ∉ S) : PotAt H' pt m := by
  obtain ⟨a, b, c, e, r⟩ := h
  exact ⟨a, b, c, g _ _ n e, r⟩
section
variable {C : Addr} {H0 H H' : Hp} {pt d o : Addr} {L : List Addr} {s1 s2 s' : DS} {m m' q q' : Nat}
theorem Sta.ptL (S : Sta C H0 pt d o L H s1 s2 m q) : pt ∉ L := fun z => S.p0 (S.L0 _ z)
theorem Sta.dL (S : Sta C H0 pt d o L H s1 s2 m q) : d ∉ L := fun z => by
  obtain ⟨k, O⟩ := S.own
  obtain ⟨dx, fs, e⟩ := S.door.ins
  rcases O.kind d z with ⟨xs, e2⟩ | ⟨xs, e2⟩ <;> rw [e] at e2 <;> cases e2
theorem Sta.ptd (S : Sta C H0 pt d o L H s1 s2 m q) : pt ≠ d := fun z => S.p0 (by rw [z]; exact S.d0)
theorem Sta.same (S : Sta C H0 pt d o L H s1 s2 m q) (g : Same H H') : Sta C H0 pt d o L H' s1 s2 m q :=
  ⟨S.fr.trans (.of g), S.door.same g, let ⟨k, O⟩ := S.own; ⟨k, O.same g⟩, S.pot.but (.of (S := []) g) (by simp), S.p0, S.d0, S.L0, S.dl⟩
theorem Sta.take (S : Sta C H0 pt d o L H s1 s2 m q) (g : But [pt] H H') (hp : PotAt H' pt m') : Sta C H0 pt d o L H' s1 s2 m' q :=
  ⟨S.fr.trans g, S.door.but g fun x hx => by rw [List.mem_singleton.mp hx]; exact .inl S.pot.there, let ⟨k, O⟩ := S.own; ⟨k, O.but g (fun x hx => by rw [List.mem_singleton.mp hx]; exact S.ptL) (S.pot.tk g)⟩, hp, S.p0, S.d0, S.L0, S.dl⟩
theorem Sta.stepD (S : Sta C H0 pt d o L H s1 s2 m q) (g : But [d] H H') (hd : DoorAt C H' d s') (hl : s'.deeds.length ≤ q') : Sta C H0 pt d o L H' s' s2 m q' :=
  ⟨S.fr.into g fun x hx => by rw [List.mem_singleton.mp hx]; exact .inl S.d0, hd, let ⟨k, O⟩ := S.own; ⟨k, O.but g (fun x hx => by rw [List.mem_singleton.mp hx]; exact S.dL) (S.door.tk g)⟩, S.pot.but g (by simpa using S.ptd), S.p0, S.d0, S.L0, hl⟩
theorem Sta.stepO (S : Sta C H0 pt d o L H s1 s2 m q) (g : But L H H') {k : Int} (ho : OwnAt H' o L s' k) : Sta C H0 pt d o L H' s1 s' m q :=
  ⟨S.fr.into g fun x hx => .inl (S.L0 x hx), let ⟨k, O⟩ := S.own; S.door.but g O.kind, ⟨k, ho⟩, S.pot.but g S.ptL, S.p0, S.d0, S.L0, S.dl⟩
end
theorem deeds_step {s : DS} {p : Nat} : (s.step p).deeds.length = s.deeds.length + 1 := by
  unfold DS.step
  split <;> (try split) <;> simp
theorem deeds_come {s : DS} {p : Nat} {v : V} : (s.come p v).deeds.length = s.deeds.length + 1 := by simp [DS.come]
theorem DoorAt.ob {C : Addr} {H : Hp} {d : Addr} {s : DS} (h : DoorAt C H d s) : ∃ dx fs, H d = some (.ins C dx fs) ∧ fs.lookup ("step" : Str) = none ∧ fs.lookup ("come" : Str) = none ∧ fs.lookup ("next" : Str) = none ∧ fs.lookup ("copy" : Str) = none := by
  obtain ⟨dx, a, b, c, e, f, cv, hv, sv, dv, D⟩ := h
  exact ⟨_, _, D.obj, no_step, no_come, no_next, no_copy⟩
theorem DS.lv_other {s : DS} {p q : Nat} (W : s.WF) (hc : s.cm p ≠ none) (h : p ≠ q) : (s.step p).lv q = s.lv q := by
  have hp := DS.lt_of_cm W hc
  have h4 := DS.stg_lt s p
  rcases (show s.stg p = 0 ∨ s.stg p = 1 ∨ s.stg p = 2 ∨ s.stg p = 3 by omega) with e | e | e | e
  · rw [DS.lv_step0 e hp, if_neg h]
  · rw [DS.lv_step1 e]
  · rw [DS.lv_step2 e hp, if_neg h]
  · rw [DS.lv_step3 e]
theorem natV_rep (n : Nat) (l : List Nat) : (List.replicate n (natV l)).flatten = natV (List.replicate n l).flatten := by
  unfold natV
  rw [List.map_flatten, List.map_replicate]
theorem count_rep (n p : Nat) (l : List Nat) (h : p ∈ l) : n ≤ (List.replicate n l).flatten.count p := by
  induction n with
  | zero => omega
  | succ n ih =>
    rw [List.replicate_succ, List.flatten_cons, List.count_append]
    have := List.count_pos_iff.mpr h
    omega
theorem mem_rep {n p : Nat} {l : List Nat} (h : p ∈ (List.replicate n l).flatten) : p ∈ l := by
  obtain ⟨x, hx, hp⟩ := List.mem_flatten.mp h
  rw [(List.mem_replicate.mp hx).2] at hp
  exact hp
theorem natV_get {l : List Nat} {i : Nat} {x : V} (h : (natV l)[i]? = some x) : ∃ p, l[i]? = some p ∧ x = .int (p : Int) := by
  unfold natV at h
  rw [List.getElem?_map] at h
  cases e : l[i]? with
  | none => rw [e] at h; cases h
  | some p => rw [e] at h; cases h; exact ⟨p, rfl, rfl⟩
theorem take_snoc {l : List Nat} {i p : Nat} (h : l[i]? = some p) : l.take (i + 1) = l.take i ++ [p] := by
  rw [List.take_add_one, h]; rfl
theorem rep_len (n : Nat) (l : List Nat) : (List.replicate n l).flatten.length = n * l.length := by simp
theorem two_str {a b : Str} (h : a = b) : (!decide (V.str a = V.str b)) = false := by rw [h]; simp
theorem Fst {H : Hp} {t : Addr} {x : Told} (h : ToldAt H t x) : ∃ ys, H t = some (.tup (.str (match x with | .level _ => "level" | .look _ => "look" | .wait => "wait" | .word _ => "word") :: ys)) := by
  cases x with
  | level i => exact ⟨_, h⟩
  | look l => obtain ⟨q, h, _⟩ := h; exact ⟨_, h⟩
  | wait => exact ⟨_, h⟩
  | word v => exact ⟨_, h⟩
theorem stg_ge {s : DS} {p q : Nat} {l : List Nat} (W : s.WF) (hc : s.cm p ≠ none) (h : min 3 (l.count q) ≤ s.stg q) : min 3 ((l ++ [p]).count q) ≤ (s.step p).stg q := by
  rw [DS.stg_step W hc, List.count_append, List.count_singleton]
  by_cases e : p = q
  · subst e; simp; omega
  · rw [if_neg e]; simp [e]; omega
/-- a door and an own door are made -/
theorem Sta.make {C : Addr} {H H1 H2 H3 : Hp} {pt d dx o : Addr} {L : List Addr} {N m : Nat} (hP : PotAt H pt 0) (g1 : But [pt] H H1) (hP1 : PotAt H1 pt m) (hd : H1 d = none) (hdx : H1 dx = none) (hne : dx ≠ d)
    (b : But [d] (upd (upd H1 dx (.own d)) d (.ins C dx [])) H2) (D : DoorAt C H2 d (DS.new N)) (g3 : Same H2 H3) (hL : ∀ x ∈ L, H2 x = none) (O : OwnAt H3 o L (DS.new N) 0) : Sta C H pt d o L H3 (DS.new N) (DS.new N) m 0 := by
  have g2 : Same H1 (upd (upd H1 dx (.own d)) d (.ins C dx [])) := (same_new hdx _).trans (same_new (by rw [upd_ne (Ne.symm hne)]; exact hd) _)
  have pd : pt ≠ d := fun z => hP1.ne0 (by rw [z]; exact hd)
  have fr2 : But [pt] H H2 := (g1.trans (.of g2)).into b fun x hx => by rw [List.mem_singleton.mp hx]; exact .inl (g1.free hP1.ne0 hd)
  have hP2 : PotAt H2 pt m := (hP1.but (.of (S := []) g2) (by simp)).but b (by simpa using pd)
  exact ⟨fr2.trans (.of g3), D.same g3, ⟨_, O⟩, hP2.but (.of (S := []) g3) (by simp), hP.ne0, g1.free hP1.ne0 hd, fun x hx => fr2.free hP2.ne0 (hL x hx), Nat.le_refl _⟩
theorem filter_one : ∀ N, N ≤ 5 → ∀ st, st < N → (List.range N).filter (fun p => decide (p = st)) = [st] := by decide
theorem eqv_self_nat (l : List Nat) : PyData.eqv (.tuple (l.map fun (p : Nat) => PyData.int (p : Int))) (.tuple (l.map fun (p : Nat) => PyData.int (p : Int))) = true := by
  have h : ∀ l : List Nat, PyData.eqvAll (l.map fun (p : Nat) => PyData.int (p : Int)) (l.map fun (p : Nat) => PyData.int (p : Int)) = true := fun l => by
    induction l with
    | nil => simp [PyData.eqvAll]
    | cons a r ih => simp [PyData.eqvAll, PyData.eqv, ih]
  simp only [PyData.eqv]
  exact h l
theorem held_none {s : DS} (h : ∀ p, p < s.lev.length → s.lv p ≠ some 1) : s.held = [] := by
  unfold DS.held
  rw [List.filter_eq_nil_iff]
  intro p hp
  simpa using h p (List.mem_range.mp hp)
theorem held_only {s : DS} (W : s.WF) {st : Nat} (hst : st < s.lev.length) (h1 : s.lv st = some 1) (h : ∀ p, p < s.lev.length → p ≠ st → s.lv p ≠ some 1) : s.held = [st] := by
  unfold DS.held
  rw [← filter_one _ W.n5 st hst]
  refine List.filter_congr fun p hp => ?_
  rw [decide_eq_decide]
  constructor
  · intro z
    by_cases e : p = st
    · exact e
    · exact absurd z (h p (List.mem_range.mp hp) e)
  · intro z; rw [z]; exact h1
theorem lv_of3 {s : DS} {p : Nat} (h : s.stg p = 3) : s.lv p ≠ some 1 := by
  obtain ⟨x, hx, h1⟩ := DS.stg3.mp h
  rw [hx]; intro z; injection z with z; exact h1 z
theorem Sta.put {C : Addr} {H0 H : Hp} {pt d o D : Addr} {L : List Addr} {s1 s2 : DS} {m q : Nat} {xs ys : List V} (S : Sta C H0 pt d o L H s1 s2 m q) (h : H D = some (.lst xs)) (n0 : H0 D = none) (nL : D ∉ L) : Sta C H0 pt d o L (upd H D (.lst ys)) s1 s2 m q := by
  have g : But [D] H (upd H D (.lst ys)) := (But.refl _ _).put (by simp)
  have np : pt ≠ D := fun z => S.p0 (by rw [z]; exact n0)
  have tk : TK H (upd H D (.lst ys)) := .put h fun z => z
  exact ⟨S.fr.into g fun x hx => by rw [List.mem_singleton.mp hx]; exact .inl n0, S.door.but g fun x hx => by rw [List.mem_singleton.mp hx]; exact .inl ⟨_, h⟩,
    let ⟨k, O⟩ := S.own; ⟨k, O.but g (fun x hx => by rw [List.mem_singleton.mp hx]; exact nL) tk⟩, S.pot.but g (by simpa using np), S.p0, S.d0, S.L0, S.dl⟩
/-- an address that is new is none of the state's -/
theorem Sta.new {C : Addr} {H0 H : Hp} {pt d o D : Addr} {L : List Addr} {s1 s2 : DS} {m q : Nat} (S : Sta C H0 pt d o L H s1 s2 m q) (h : H D = none) : H0 D = none ∧ D ∉ L ∧ D ≠ d ∧ D ≠ pt := by
  obtain ⟨k, O⟩ := S.own
  refine ⟨S.fr.free S.pot.ne0 h, fun z => ?_, fun z => ?_, fun z => S.pot.ne0 (by rw [← z]; exact h)⟩
  · rcases O.kind D z with ⟨ys, e⟩ | ⟨ys, e⟩ <;> rw [e] at h <;> cases h
  · obtain ⟨dx', fs, e⟩ := S.door.ins; rw [z, e] at h; cases h
theorem Sta.up {C : Addr} {H0 H : Hp} {pt d o : Addr} {L : List Addr} {s1 s2 : DS} {m q m' q' : Nat} (S : Sta C H0 pt d o L H s1 s2 m q) (hm : m ≤ m') (hq : q ≤ q') : Sta C H0 pt d o L H s1 s2 m' q' :=
  ⟨S.fr, S.door, S.own, S.pot.mono hm, S.p0, S.d0, S.L0, Nat.le_trans S.dl hq⟩
/-! ### one word -/
def DS.hd (s : DS) (p : Nat) : Option V := s.heard.getD p none
def DS.Closed (s : DS) : Prop := (∃ q, s.lv q = some 2) ∧ ∀ p, s.stg p = 2 → s.saw p = true
section
variable {s : DS} {p : Nat} {v : V}
theorem DS.hd_new (n p : Nat) : (DS.new n).hd p = none := DS.rep_none n p
theorem DS.hd_come (q : Nat) : (s.come p v).hd q = s.hd q := rfl
theorem DS.hd_step (W : s.WF) (hc : s.cm p ≠ none) (q : Nat) : (s.step p).hd q = if p = q ∧ s.stg p = 3 ∧ some 1 ∉ s.lev then s.cm s.two else s.hd q := by
  have hp := DS.lt_of_cm W hc
  have h4 := DS.stg_lt s p
  rcases (show s.stg p = 0 ∨ s.stg p = 1 ∨ s.stg p = 2 ∨ s.stg p = 3 by omega) with e | e | e | e
  · rw [if_neg (by omega)]; unfold DS.hd; rw [DS.step0 e]
  · rw [if_neg (by omega)]; unfold DS.hd; rw [DS.step1 e]
  · rw [if_neg (by omega)]; unfold DS.hd; rw [DS.step2 e]
  · unfold DS.hd
    rw [DS.step3 e]
    by_cases z : some 1 ∈ s.lev
    · rw [if_pos z, if_neg (by intro h; exact h.2.2 z)]
    · rw [if_neg z]
      show (s.heard.set p (s.cm s.two)).getD q none = _
      rw [getD_set]
      by_cases h : p = q
      · rw [if_pos ⟨h, by rw [W.lh]; exact hp⟩, if_pos ⟨h, e, z⟩]
      · rw [if_neg (fun h' => h h'.1), if_neg (fun h' => h h'.1)]
theorem closed_of (h : ∃ q, s.lv q = some 2) (n : some 1 ∉ s.lev) : s.Closed := ⟨h, fun p hp => absurd (mem_getD.mpr ⟨p, (DS.stg2.mp hp).1⟩) n⟩
theorem DS.Closed.step (c : s.Closed) (W : s.WF) (hc : s.cm p ≠ none) : (s.step p).Closed ∧ (s.step p).two = s.two := by
  have hp := DS.lt_of_cm W hc
  have hps : p < s.seen.length := by rw [W.ls]; exact hp
  have h4 := DS.stg_lt s p
  have k2 := DS.has2_step W hc c.1
  rcases (show s.stg p = 0 ∨ s.stg p = 1 ∨ s.stg p = 2 ∨ s.stg p = 3 by omega) with e | e | e | e
  · refine ⟨⟨k2, fun q hq => ?_⟩, DS.two_same DS.len_step fun q => ?_⟩
    · rw [DS.stg_step W hc] at hq
      have hne : p ≠ q := by intro z; rw [if_pos z, e] at hq; cases hq
      rw [if_neg hne] at hq
      unfold DS.saw; rw [DS.sn_stepN (by omega)]; exact c.2 q hq
    · rw [DS.lv_step0 e hp]; split
      · rename_i z; subst z; rw [DS.stg0.mp e]; simp
      · rfl
  · refine ⟨⟨k2, fun q hq => ?_⟩, DS.two_same DS.len_step fun q => by rw [DS.lv_step1 e]⟩
    rw [DS.stg_step W hc] at hq
    unfold DS.saw; rw [DS.sn_step1 e hps]
    by_cases z : p = q
    · rw [if_pos z]; exact decide_eq_true (mem_getD.mpr c.1)
    · rw [if_neg z] at hq ⊢; exact c.2 q hq
  · have sw := c.2 p e
    have ew : s.wr p = 0 := by unfold DS.wr; rw [if_pos sw]
    refine ⟨⟨k2, fun q hq => ?_⟩, DS.two_same DS.len_step fun q => ?_⟩
    · rw [DS.stg_step W hc] at hq
      have hne : p ≠ q := by intro z; rw [if_pos z, e] at hq; cases hq
      rw [if_neg hne] at hq
      unfold DS.saw; rw [DS.sn_stepN (by omega)]; exact c.2 q hq
    · rw [DS.lv_step2 e hp]; split
      · rename_i z; subst z; rw [ew, (DS.stg2.mp e).1]; simp
      · rfl
  · refine ⟨⟨k2, fun q hq => ?_⟩, DS.two_same DS.len_step fun q => by rw [DS.lv_step3 e]⟩
    rw [DS.stg_step W hc] at hq
    have hne : p ≠ q := by intro z; rw [if_pos z, e] at hq; cases hq
    rw [if_neg hne] at hq
    unfold DS.saw; rw [DS.sn_stepN (by omega)]; exact c.2 q hq
theorem DS.Closed.come (c : s.Closed) : (s.come p v).Closed ∧ (s.come p v).two = s.two := ⟨c, rfl⟩
theorem stg_out (W : s.WF) (h : s.cm p = none) : s.stg p = 0 := by
  refine DS.stg0.mpr ?_
  cases e : s.lv p with
  | none => rfl
  | some x => exact absurd h (W.cmv p (by rw [e]; simp))
end
/-! ### lists of players -/
def unV : V → Nat
  | .int i => i.toNat
  | _ => 0
theorem natV_perm {ys : List V} {R : List Nat} (h : ys.Perm (natV R)) : ∃ Y : List Nat, ys = natV Y ∧ Y.Perm R := by
  refine ⟨ys.map unV, ?_, ?_⟩
  · unfold natV
    rw [List.map_map]
    conv => lhs; rw [← List.map_id ys]
    refine List.map_congr_left fun x hx => ?_
    have := h.mem_iff.mp hx
    unfold natV at this
    obtain ⟨p, _, rfl⟩ := List.mem_map.mp this
    show V.int p = V.int ((unV (V.int p) : Nat) : Int)
    unfold unV
    simp
  · have := h.map unV
    refine this.trans ?_
    have e : (natV R).map unV = R := by
      unfold natV
      rw [List.map_map]
      conv => rhs; rw [← List.map_id R]
      refine List.map_congr_left fun x _ => ?_
      show unV (V.int x) = x
      unfold unV
      simp
    rw [e]
/-! ### a door and a pot -/
structure Dn (C : Addr) (H : Hp) (pt d : Addr) (s : DS) (m q : Nat) : Prop where
  door : DoorAt C H d s
  pot : PotAt H pt m
  dl : s.deeds.length ≤ q
section
variable {C : Addr} {H H' : Hp} {pt d D : Addr} {s s' : DS} {m m' q q' : Nat}
theorem Dn.ptd (S : Dn C H pt d s m q) : pt ≠ d := fun z => by
  obtain ⟨dx, fs, e⟩ := S.door.ins
  obtain ⟨xs, e2⟩ := S.pot.there
  rw [z, e] at e2; cases e2
theorem Dn.same (S : Dn C H pt d s m q) (g : Same H H') : Dn C H' pt d s m q := ⟨S.door.same g, S.pot.but (.of (S := []) g) (by simp), S.dl⟩
theorem Dn.take (S : Dn C H pt d s m q) (g : But [pt] H H') (hp : PotAt H' pt m') : Dn C H' pt d s m' q := ⟨S.door.but g fun x hx => by rw [List.mem_singleton.mp hx]; exact .inl S.pot.there, hp, S.dl⟩
theorem Dn.stepD (S : Dn C H pt d s m q) (g : But [d] H H') (hd : DoorAt C H' d s') (hl : s'.deeds.length ≤ q') : Dn C H' pt d s' m q' := ⟨hd, S.pot.but g (by simpa using S.ptd), hl⟩
theorem Dn.put {xs ys : List V} (S : Dn C H pt d s m q) (h : H D = some (.lst xs)) (n : D ≠ pt) : Dn C (upd H D (.lst ys)) pt d s m q := by
  have g : But [D] H (upd H D (.lst ys)) := (But.refl _ _).put (by simp)
  exact ⟨S.door.but g fun x hx => by rw [List.mem_singleton.mp hx]; exact .inl ⟨_, h⟩, S.pot.but g (by simpa using n.symm), S.dl⟩
theorem Dn.new (S : Dn C H pt d s m q) (h : H D = none) : D ≠ d ∧ D ≠ pt := ⟨fun z => (by obtain ⟨dx', fs, e⟩ := S.door.ins; rw [z, e] at h; cases h), fun z => S.pot.ne0 (by rw [← z]; exact h)⟩
theorem Dn.up (S : Dn C H pt d s m q) (hm : m ≤ m') (hq : q ≤ q') : Dn C H pt d s m' q' := ⟨S.door, S.pot.mono hm, Nat.le_trans S.dl hq⟩
end
/-- how often a place was asked from lap 8 on -/
def laps (e j i : Nat) : Nat := ((List.range i).filter fun l => decide (8 ≤ l ∧ l % e = j)).length
theorem laps_succ (e j i : Nat) : laps e j (i + 1) = laps e j i + if 8 ≤ i ∧ i % e = j then 1 else 0 := by
  unfold laps
  rw [List.range_succ, List.filter_append, List.length_append]
  congr 1
  by_cases h : 8 ≤ i ∧ i % e = j <;> simp [h]
theorem laps_20 : ∀ e, e ≤ 4 → ∀ j, j < e → 3 ≤ laps e j 20 := by decide
theorem word_data {dv : PyData} (ho : VOk 3 dv) : Sm 5 60 (.tuple [dv]) := (Sms.tup (.cons ho.sm (Sms.nil (n := 0)))).mono (by decide) (by decide)
theorem word_dp {K : PySem.W.Frag} {H0 H : Hp} {v : V} {dv : PyData} {t : Addr} (hv : VAt H0 v dv) (g : TK H0 H) (ht : H t = some (.tup [v])) : Dp K H (.ref t) (.tuple [dv]) := .tup (.of ht) (.cons (hv.mono g).dp .nil)
theorem sm_level {i : Int} (h0 : 0 ≤ i) (h2 : i ≤ 2) : Sm 6 100 (.tuple [.str "level", .int i]) := (Sms.tup (.cons (sm_word _ (by decide +kernel)) (.cons ((Sm.int (i := i) (by omega) (by omega)).mono (Nat.le_refl 1) (Nat.le_refl 0)) (Sms.nil (n := 0))))).mono (by decide) (by decide)
theorem sm_wait : Sm 6 100 (.tuple [.str "wait"]) := (Sms.tup (.cons (sm_word "wait" (by decide +kernel)) (Sms.nil (n := 0)))).mono (by decide) (by decide)
theorem sm_wordD {dv : PyData} (ho : VOk 3 dv) : Sm 6 100 (.tuple [.str "word", dv]) := (Sms.tup (.cons ((sm_word "word" (by decide +kernel)).mono (by decide : 1 ≤ 4) (Nat.le_refl 10)) (.cons ho.sm (Sms.nil (n := 0))))).mono (by decide) (by decide)
theorem DS.Closed.win {s : DS} (c : s.Closed) {w : Nat} (h : w = s.two ∨ (s.lv w = some 1 ∧ s.won w = true)) : w = s.two := by
  rcases h with h | ⟨h1, h2⟩
  · exact h
  · exfalso
    unfold DS.won at h2
    cases e : s.sn w with
    | none => rw [e] at h2; cases h2
    | some l =>
      rw [e] at h2
      have h2 : (!decide (some 2 ∈ l)) = true := h2
      have := c.2 w (DS.stg2.mpr ⟨h1, by rw [e]; simp⟩)
      unfold DS.saw at this
      rw [e] at this
      simp only [Option.getD_some] at this
      rw [this] at h2; cases h2
theorem DoorAt.heard {C : Addr} {H : Hp} {d : Addr} {s : DS} {K : PySem.W.Frag} (h : DoorAt C H d s) (hC : DC K C) : ∃ dx fs hv c, H d = some (.ins C dx fs) ∧ fs.lookup ("heard" : Str) = some (.ref c) ∧ TF H c hv ∧ Paired (One H) hv s.heard := by
  obtain ⟨dx, a, b, c, e, f, cv, hv, sv, dv, D⟩ := h
  exact ⟨dx, _, hv, c, D.obj, d_heard, D.heard, D.heardP⟩
theorem stg_keep {s : DS} {p q : Nat} (W : s.WF) (hc : s.cm p ≠ none) (h : p ≠ q) : (s.step p).stg q = s.stg q := by rw [DS.stg_step W hc, if_neg h]
theorem stg_self {s : DS} {p : Nat} (W : s.WF) (hc : s.cm p ≠ none) : (s.step p).stg p = min 3 (s.stg p + 1) := by rw [DS.stg_step W hc, if_pos rfl]
theorem hd_keep {s : DS} {p q : Nat} (W : s.WF) (hc : s.cm p ≠ none) (h : s.stg p ≠ 3 ∨ some 1 ∈ s.lev) : (s.step p).hd q = s.hd q := by
  rw [DS.hd_step W hc, if_neg]
  rintro ⟨_, a, b⟩
  rcases h with h | h
  · exact h a
  · exact b h
theorem hd_self {s : DS} {p : Nat} (W : s.WF) (hc : s.cm p ≠ none) (h : s.stg p = 3) (h1 : some 1 ∉ s.lev) : (s.step p).hd p = s.cm s.two := by rw [DS.hd_step W hc, if_pos ⟨rfl, h, h1⟩]
theorem lv_none_of {s : DS} {q : Nat} (h : s.stg q = 0 ∨ s.stg q = 3) : s.lv q ≠ some 1 := by
  rcases h with h | h
  · rw [DS.stg0.mp h]; simp
  · exact lv_of3 h
theorem told_lvl {H : Hp} {t : Addr} {i : Int} (h : ToldAt H t (.level i)) : H t = some (.tup [.str "level", .int i]) := h
theorem told_word {s : DS} {p : Nat} {v : V} (h : s.told p = .word v) : s.stg p = 3 ∧ some 1 ∉ s.lev ∧ v = (s.cm s.two).getD .non := by
  have h4 := DS.stg_lt s p
  rcases (show s.stg p = 0 ∨ s.stg p = 1 ∨ s.stg p = 2 ∨ s.stg p = 3 by omega) with z | z | z | z
  · rw [DS.told0 z] at h; cases h
  · rw [DS.told1 z] at h; cases h
  · rw [DS.told2 z] at h; cases h
  · rw [DS.told3 z] at h
    split at h
    · cases h
    · rename_i h1; injection h with h; exact ⟨z, h1, h.symm⟩
theorem cut_word (v : V) : cutV [V.str "word", v] (some 1) none = [v] := rfl
end Fp
/-! len(set(xs)), xs a list of texts that are all the same one -/
namespace Fp
open PySem PySem.Spec PyProof.Rows L2
/-- the set of the text z once something was put in -/
def onlyZ (z : Str) (i : Nat) (k : Str) : Bool := decide (0 < i ∧ k = z)
section
variable {prog : Program} {w : World} {A : Around} {R : Result → Shared → Prop} {I : Addr} {fp wr : List Addr} {G : Array GenState → Array GenState → Prop} {n : Nat} {P : Nat → Value → Prop} {St : Nat → Shared → Prop}
theorem SetOf_move {h h' : Heap} {a : Addr} {S : Str → Bool} {m : Nat} (e : ∀ o, h.get? a = some o → h'.get? a = some o) (hS : h.SetOf (PySem.strKind prog w) a S m) : h'.SetOf (PySem.strKind prog w) a S m := by
  obtain ⟨o, es, ep, t, ho, rest⟩ := hS
  exact ⟨o, es, ep, t, e _ ho, rest⟩
theorem onlyZ_add {h : Heap} {a : Addr} {z : Str} {i : Nat} (hS : h.SetOf (PySem.strKind prog w) a (fun k' => onlyZ z i k' || decide (k' = z)) (if onlyZ z i z = true then min i 1 else min i 1 + 1)) : h.SetOf (PySem.strKind prog w) a (onlyZ z (i + 1)) (min (i + 1) 1) := by
  refine SetOf_congr hS (fun k' => ?_) ?_
  · unfold onlyZ
    by_cases e : k' = z <;> by_cases c : 0 < i <;> simp [e, c]
  · unfold onlyZ
    by_cases c : 0 < i
    · rw [if_pos (by simp [c])]; omega
    · rw [if_neg (by simp [c])]; omega
/-- the putting in, from the i-th on -/
theorem fill_same (W : WalksS prog w A.in1 I fp wr G n P St) (D : Addr) (hD : D ∉ fp) (z : Str) (hv : ∀ i v, P i v → ∃ t, v = .str z t) (j : Nat) :
    ∀ (i : Nat) (s : Shared), i + j = n → St i s → s.heap.SetOf (PySem.strKind prog w) D (onlyZ z i) (min i 1) →
      (∀ s', Moved (D :: wr) G s s' → s'.heap.SetOf (PySem.strKind prog w) D (onlyZ z n) (min n 1) → R (.ok (.ret .none)) s') →
      codeAny (model prog w) A (.builtin "set.update.loop" ⟨[.ref D, .ref I], []⟩) R s := by
  have nw : D ∉ wr := fun h => hD (W.sub _ h)
  have more : ∀ b ∈ wr, b ∈ D :: wr := fun b hb => List.mem_cons_of_mem _ hb
  induction j with
  | zero =>
    intro i s hi st hS q
    obtain rfl : i = n := hi
    refine codeAny_builtin PyProof.Rows.F.entry_set_update_loop ?_
    rw [Around.under_plainId PyProof.Rows.F.plain_set_update_loop _]
    show wpAny _ A.in1 (pyNext (.ref I) >>= _) _ _ s
    refine wpAny_bind (W.done s _ _ st fun s' m => ?_)
    exact wpAny_pure (q s' (m.mono more) (SetOf_move (fun o e => m.heap D o nw e) hS))
  | succ j ih =>
    intro i s hi st hS q
    refine codeAny_builtin PyProof.Rows.F.entry_set_update_loop ?_
    rw [Around.under_plainId PyProof.Rows.F.plain_set_update_loop _]
    show wpAny _ A.in1 (pyNext (.ref I) >>= _) _ _ s
    refine wpAny_bind (W.item i s _ _ (by omega) st fun v s' pv st' m => ?_)
    obtain ⟨t, rfl⟩ := hv i v pv
    have hS' := SetOf_move (fun o e => m.heap D o nw e) hS
    refine wpAny_bind (wpAny_holding ?_)
    unfold setAdd
    refine wpAny_holding (wpAny_bind ((PySem.strKind prog w).pyHash (k := z) (strKind_is _ _ _ _) ?_))
    refine wpAny_setAddHashed_of (knd := PySem.strKind prog w) (s := { s' with toks := s'.toks + 1 }) (strKind_is _ _ _ _) rfl hS' (by unfold scanBound; omega) fun h' sb hS2 => ?_
    refine wpAny_pure ⟨plainId_quiet PyProof.Rows.F.plain_set_update_loop _, ih (i + 1) _ (by omega) (W.frame _ s' _ _ st' (Nat.le_succ _) fun b hb o e => ?_) (onlyZ_add hS2) fun s2 m2 hS3 => q s2 (Moved.trans W.gtrans ((m.mono more).then_heap (Nat.le_succ _) fun b o hb e => ?_) m2) hS3⟩
    · exact (sb.2 b fun (z : b = D) => hD (z ▸ hb)).trans e
    · exact (sb.2 b fun (z : b = D) => hb (by rw [z]; exact List.mem_cons_self)).trans e
end
section
variable {prog : Program} {w : World} {A : Around} {E : Value → Shared → Prop} {s : Shared}
/-- the set's object as it is made, empty -/
def setO (led : Bool) : Obj := { cls := .type "set", dict := none, data := .set #[] 0 (.fresh 0 0 led) }
set_option maxHeartbeats 3200000 in
theorem init_same {l : Addr} {its : Array Value} {z : Str} {led : Bool} (hh : A.handled = none) (hl : s.heap.IsList l its) (hz : ∀ v ∈ its.toList, ∃ t, v = .str z t) :
    codeAny (model prog w) A (.call (.builtin "set.__init__") ⟨[.ref s.heap.objs.size, .ref l], []⟩) (wants (fun r s₂ => r = .none ∧ ∃ h' tk, s₂ = { s with heap := h', toks := tk } ∧
      h'.SetOf (PySem.strKind prog w) s.heap.objs.size (onlyZ z its.size) (min its.size 1) ∧ (∀ b o, b < s.heap.objs.size → s.heap.get? b = some o → h'.get? b = some o)) E) { s with heap := s.heap.push (setO led) } := by
  have top : (s.heap.push (setO led)).get? s.heap.objs.size = some (setO led) := Heap.get?_push_size _ rfl
  have hT : Shared.TypeIs { s with heap := s.heap.push (setO led) } (.ref s.heap.objs.size) "set" := ⟨_, top, rfl⟩
  refine codeAny_call_builtin PySem.F.called_set.init.plain PySem.F.entry_set_init (check_set_init_1 hT ?_)
  obtain ⟨⟨cls, odict, odata, oslots⟩, hol, hcl, nl, hdl⟩ := hl
  simp only at hcl hdl
  subst hcl; subst hdl
  have hol' : (s.heap.push (setO led)).get? l = some { cls := .type "list", dict := odict, data := .seq its nl, slots := oslots } := Heap.get?_push_of_some _ hol
  have f1 := PySem.F.sub_list_set
  have f2 := PySem.F.sub_list_frozenset
  have f3 : (Value.type "list" == Value.type "dict") = false := by decide
  have hl1 : (s.heap.push (setO led)).IsList l its := ⟨_, hol', rfl, nl, rfl⟩
  have lt := Heap.lt_size hol
  unfold Builtin.«set.__init__» noKeywords Builtin.Frozenset.updateFrom
  generalize hPI : pyIter = PI
  wp_walk
  subst hPI
  refine wpAny_pyIter_list hl1 (wpAny_bind (wpAny_runValue ?_))
  have nI : l ≠ (s.heap.push (setO led)).objs.size := by rw [Heap.size_push]; exact Nat.ne_of_lt (Nat.lt_succ_of_lt lt)
  refine fill_same ((Walks.list (by simp [hh]) _ l nI its).toS) s.heap.objs.size ?_ z (fun i v e => hz v (Array.mem_toList_iff.mpr (Array.mem_of_getElem? e))) its.size 0 _ (Nat.zero_add _) ⟨⟨_, Heap.get?_push_size _ rfl, rfl, rfl⟩, (hl1.push _)⟩ ?_ ?_
  · rw [Heap.size_push]; simp only [List.mem_cons, List.mem_singleton, List.not_mem_nil, or_false, not_or]; exact ⟨Nat.ne_of_lt (Nat.lt_succ_self _), Nat.ne_of_gt lt⟩
  · exact SetOf_congr (n := 0) ((setObjOf_fresh (knd := PySem.strKind prog w) led).setOf (Heap.get?_push_of_some _ top) (by decide)) (fun k => by simp [onlyZ]) rfl
  · rintro ⟨h', g', d', tk', os'⟩ m hS
    obtain rfl : g' = s.gens := m.gens
    obtain rfl : d' = s.drawn := m.drawn
    obtain rfl : os' = s.os := m.os
    show wpAny _ _ _ _ _ _
    refine wpAny_pure ?_
    show wpAny _ _ (ret Value.none) _ _ _
    refine wpAny_pure ⟨rfl, h', tk', rfl, hS, fun b o hb e => m.heap b o ?_ (Heap.get?_push_of_some _ (Heap.get?_push_of_some _ e))⟩
    have b1 : b ≠ s.heap.objs.size := Nat.ne_of_lt hb
    have b2 : b ≠ (s.heap.push (setO led)).objs.size := by rw [Heap.size_push]; omega
    simp only [List.mem_cons, List.mem_singleton, List.not_mem_nil, or_false, not_or]
    exact ⟨b1, b2⟩
set_option maxHeartbeats 3200000 in
theorem call_set_same {l : Addr} {its : Array Value} {z : Str} {Q : Value → Shared → Prop} (hh : A.handled = none) (hl : s.heap.IsList l its) (hz : ∀ v ∈ its.toList, ∃ t, v = .str z t)
    (h : ∀ (h' : Heap) (tk : Nat), h'.SetOf (PySem.strKind prog w) s.heap.objs.size (onlyZ z its.size) (min its.size 1) → (∀ b o, b < s.heap.objs.size → s.heap.get? b = some o → h'.get? b = some o) → Q (.ref s.heap.objs.size) { s with heap := h', toks := tk }) :
    wpAny (model prog w) A (call (.type "set") [.ref l]) Q E s := by
  obtain ⟨c, tl, e1⟩ := PySem.F.called_set.mro
  have e2 := PySem.F.called_set.made
  have e3 := PySem.F.called_set.sub
  have e4 := PySem.F.called_set.notType
  have e5 := PySem.F.called_set.canCreate
  have e6 := PySem.F.typeCall_set_1 (.ref l)
  have e7 := PySem.F.called_set.init.lookup
  refine wpAny_call (codeAny_of_tree ?_)
  show wpAny _ _ (callAny (.type "set") _) _ _ _
  refine wpAny_pure ⟨Code.quiet_builtin _ (by decide +kernel), codeAny_builtin PySem.F.entry_type_call ?_⟩
  rw [Around.under_plain (weight_type_call_type "set" [.ref l] []) rfl]
  repeat (any_goals (first | assumption | wp_step))
  refine codeAny_mono (code_set_new_1 (.ref l) (E := E) (Q₁ := fun x s₁ => ∃ led : Bool, x = .ref s.heap.objs.size ∧ s₁ = { s with heap := s.heap.push (setO led) }) fun led => ⟨led, rfl, rfl⟩) fun r s₁ hr => ?_
  cases r with
  | error e => exact hr
  | ok fl =>
    cases fl with
    | ret x =>
      obtain ⟨led, rfl, rfl⟩ := hr
      have top : (s.heap.push (setO led)).get? s.heap.objs.size = some (setO led) := Heap.get?_push_size _ rfl
      have hT : Shared.TypeIs { s with heap := s.heap.push (setO led) } (.ref s.heap.objs.size) "set" := ⟨_, top, rfl⟩
      have e8 := PySem.F.called_set.init.bind (.ref s.heap.objs.size)
      repeat (any_goals (first | assumption | wp_step))
      refine codeAny_mono (init_same (A := A.in1) (E := E) (by simp [hh]) hl hz) fun r₂ s₂ hr₂ => ?_
      cases r₂ with
      | error e => exact hr₂
      | ok fl₂ =>
        cases fl₂ with
        | ret r =>
          obtain ⟨rfl, h', tk, rfl, hS, hk⟩ := hr₂
          repeat (any_goals (first | assumption | wp_step))
          exact h _ _ hS hk
        | _ => exact hr₂.elim
    | _ => exact hr.elim
end
section
variable {X : Cx}
theorem same_vals {z : Str} : ∀ {xs : List V} {us : List Value}, Vals xs us → (∀ x ∈ xs, x = .str z) → ∀ v ∈ us, ∃ t, v = .str z t
  | _, _, .nil, _ => fun v hv => absurd hv (by simp)
  | x :: xs, _, .cons r t, h => by
    have e := h x List.mem_cons_self
    subst e
    obtain ⟨k, rfl⟩ := r
    intro v hv
    rcases List.mem_cons.mp hv with e | hv
    · exact ⟨k, e⟩
    · exact same_vals t (fun y hy => h y (List.mem_cons_of_mem _ hy)) v hv
def tLenSame (K : PySem.W.Frag) (ta : TE) : TE := fun σ H Q => ta σ H fun x H1 => ∃ (l : Addr) (xs : List V) (z : Str), x = .ref l ∧ SqL K H1 l xs ∧ (∀ x ∈ xs, x = .str z) ∧ xs ≠ [] ∧ Q (.int 1) H1
theorem pe_lenSame {a : Expr} {ta : TE} {p p2 q pos : Pos} (hc : X.calm = true) (hg : Gl X "len") (hm : X.mg "len" = none) (hg2 : Gl X "set") (hm2 : X.mg "set" = none) (ha : PE X a ta)
    (na : starEach [a] X.env = (false, eval a X.env) :: starEach [] X.env := by rfl) : PE X (.Call (.Name "len" p) [.Call (.Name "set" p2) [a] [] q] [] pos) (tLenSame X.K ta) := by
  refine ⟨fun pins s σ H Q I h => Call_ (ld_blt I hg hm boot_len (callWith_builtin1 (args_cons (Call_ (ld_blt I hg2 hm2 boot_set (callWith_type1 (args_cons (thn (ha.run pins s σ H _ I h) fun v s1 ⟨x, H1, I1, r1, q1⟩ => args_nil ?_) na) na rfl))) rfl) rfl rfl))⟩
  obtain ⟨l, xs, z, rfl, hs, hx, hne, q1⟩ := q1
  cases r1
  obtain ⟨its, r, pl, hz⟩ := I1.list hs
  have one : min its.toArray.size 1 = 1 := by
    have : 0 < xs.length := List.length_pos_iff.mpr hne
    have := r.length
    rw [List.size_toArray]; omega
  refine call_set_same (I1.ok.hd hc) pl.isList (by simpa using same_vals r hx) fun h' tk hS hk => args_nil ?_
  rw [one] at hS
  obtain ⟨o, es, ep, t, ho, hex, hd, _, _, _, hf, hn⟩ := hS
  have I2 : Inv X pins σ H1 { s1 with heap := h', toks := tk } := I1.kept fun b o e => hk b o (Heap.lt_size e) e
  exact call_len_set ho hex hd hf (by rw [hn] <;> omega) ⟨.int 1, H1, I2.tok _, ⟨_, by rw [hn] <;> rfl⟩, q1⟩
end
end Fp
/-! set(xs), xs a list of integers; tuple(sorted(set(xs))) -/
namespace Fp
open PySem PySem.Spec PyProof.Rows L2
section
variable {prog : Program} {w : World} {A : Around} {E : Value → Shared → Prop} {s : Shared}
set_option maxHeartbeats 3200000 in
theorem init_ints {l : Addr} {its : Array Value} {ns : List Int} (hh : A.handled = none) (hl : s.heap.IsList l its) (hi : IntsAre its.toList ns) (hb : ns.length + 1 < scanBound) :
    codeAny (model prog w) A (.call (.builtin "set.__init__") ⟨[.ref s.heap.objs.size, .ref l], []⟩) (wants (fun r s₂ => r = .none ∧ ∃ h' tk c, s₂ = { s with heap := h', toks := tk } ∧
      SetR w h' s.heap.objs.size (fun j => decide (j ∈ ns)) c ∧ c ≤ ns.length ∧ (∀ b o, b < s.heap.objs.size → s.heap.get? b = some o → h'.get? b = some o)) E) { s with heap := s.heap.push (setO (!w.params.followText "set-order")) } := by
  generalize hled : (!w.params.followText "set-order") = led
  have top : (s.heap.push (setO led)).get? s.heap.objs.size = some (setO led) := Heap.get?_push_size _ rfl
  have hT : Shared.TypeIs { s with heap := s.heap.push (setO led) } (.ref s.heap.objs.size) "set" := ⟨_, top, rfl⟩
  have hsz : its.size = ns.length := by
    have q := hi.length
    rwa [Array.length_toList] at q
  refine codeAny_call_builtin PySem.F.called_set.init.plain PySem.F.entry_set_init (check_set_init_1 hT ?_)
  obtain ⟨⟨cls, odict, odata, oslots⟩, hol, hcl, nl, hdl⟩ := hl
  simp only at hcl hdl
  subst hcl; subst hdl
  have hol' : (s.heap.push (setO led)).get? l = some { cls := .type "list", dict := odict, data := .seq its nl, slots := oslots } := Heap.get?_push_of_some _ hol
  have f1 := PySem.F.sub_list_set
  have f2 := PySem.F.sub_list_frozenset
  have f3 : (Value.type "list" == Value.type "dict") = false := by decide
  have hl1 : (s.heap.push (setO led)).IsList l its := ⟨_, hol', rfl, nl, rfl⟩
  have lt := Heap.lt_size hol
  unfold Builtin.«set.__init__» noKeywords Builtin.Frozenset.updateFrom
  generalize hPI : pyIter = PI
  wp_walk
  subst hPI
  refine wpAny_pyIter_list hl1 (wpAny_bind (wpAny_runValue ?_))
  have nI : l ≠ (s.heap.push (setO led)).objs.size := by rw [Heap.size_push]; exact Nat.ne_of_lt (Nat.lt_succ_of_lt lt)
  refine set_update_ints ((Walks.list (by simp [hh]) _ l nI its).toS) s.heap.objs.size ?_ ns hsz hb (fun i v e => ?_) its.size 0 _ (Nat.sub_zero _) (Nat.zero_le _) ⟨⟨_, Heap.get?_push_size _ rfl, rfl, rfl⟩, (hl1.push _)⟩ ⟨0, Nat.le_refl 0, setR_new_at (w := w) ?_⟩ ?_
  · rw [Heap.size_push]; simp only [List.mem_cons, List.mem_singleton, List.not_mem_nil, or_false, not_or]; exact ⟨Nat.ne_of_lt (Nat.lt_succ_self _), Nat.ne_of_gt lt⟩
  · have hin : i < ns.length := by rw [← hsz]; exact (Array.getElem?_eq_some_iff.mp e).1
    obtain ⟨t, et⟩ := IntsAre.int_at hi i v (by rw [Array.getElem?_toList]; exact e)
    refine ⟨ns[i], t, List.getElem?_eq_getElem hin, ?_⟩
    rw [et, List.getD_eq_getElem?_getD, List.getElem?_eq_getElem hin] <;> rfl
  · rw [hled]
    exact Heap.get?_push_of_some _ top
  · rintro ⟨h', g', d', tk', os'⟩ c m hc hS
    obtain rfl : g' = s.gens := m.gens
    obtain rfl : d' = s.drawn := m.drawn
    obtain rfl : os' = s.os := m.os
    show wpAny _ _ _ _ _ _
    refine wpAny_pure ?_
    show wpAny _ _ (ret Value.none) _ _ _
    refine wpAny_pure ⟨rfl, h', tk', c, rfl, hS, by omega, fun b o hb e => m.heap b o ?_ (Heap.get?_push_of_some _ (Heap.get?_push_of_some _ e))⟩
    have b1 : b ≠ s.heap.objs.size := Nat.ne_of_lt hb
    have b2 : b ≠ (s.heap.push (setO led)).objs.size := by rw [Heap.size_push]; omega
    simp only [List.mem_cons, List.mem_singleton, List.not_mem_nil, or_false, not_or]
    exact ⟨b1, b2⟩
set_option maxHeartbeats 3200000 in
theorem call_set_ints {l : Addr} {its : Array Value} {ns : List Int} {Q : Value → Shared → Prop} (hh : A.handled = none) (hl : s.heap.IsList l its) (hi : IntsAre its.toList ns) (hb : ns.length + 1 < scanBound)
    (h : ∀ (h' : Heap) (tk c : Nat), SetR w h' s.heap.objs.size (fun j => decide (j ∈ ns)) c → c ≤ ns.length → (∀ b o, b < s.heap.objs.size → s.heap.get? b = some o → h'.get? b = some o) → Q (.ref s.heap.objs.size) { s with heap := h', toks := tk }) :
    wpAny (model prog w) A (call (.type "set") [.ref l]) Q E s := by
  obtain ⟨c, tl, e1⟩ := PySem.F.called_set.mro
  have e2 := PySem.F.called_set.made
  have e3 := PySem.F.called_set.sub
  have e4 := PySem.F.called_set.notType
  have e5 := PySem.F.called_set.canCreate
  have e6 := PySem.F.typeCall_set_1 (.ref l)
  have e7 := PySem.F.called_set.init.lookup
  refine wpAny_call (codeAny_of_tree ?_)
  show wpAny _ _ (callAny (.type "set") _) _ _ _
  refine wpAny_pure ⟨Code.quiet_builtin _ (by decide +kernel), codeAny_builtin PySem.F.entry_type_call ?_⟩
  rw [Around.under_plain (weight_type_call_type "set" [.ref l] []) rfl]
  repeat (any_goals (first | assumption | wp_step))
  refine codeAny_mono (code_set_led1 (.ref l) (E := E) (Q₁ := fun x s₁ => x = .ref s.heap.objs.size ∧ s₁ = { s with heap := s.heap.push (setO (!w.params.followText "set-order")) }) ⟨rfl, rfl⟩) fun r s₁ hr => ?_
  cases r with
  | error e => exact hr
  | ok fl =>
    cases fl with
    | ret x =>
      obtain ⟨rfl, rfl⟩ := hr
      have top : (s.heap.push (setO (!w.params.followText "set-order"))).get? s.heap.objs.size = some (setO (!w.params.followText "set-order")) := Heap.get?_push_size _ rfl
      have hT : Shared.TypeIs { s with heap := s.heap.push (setO (!w.params.followText "set-order")) } (.ref s.heap.objs.size) "set" := ⟨_, top, rfl⟩
      have e8 := PySem.F.called_set.init.bind (.ref s.heap.objs.size)
      repeat (any_goals (first | assumption | wp_step))
      refine codeAny_mono (init_ints (A := A.in1) (E := E) (by simp [hh]) hl hi hb) fun r₂ s₂ hr₂ => ?_
      cases r₂ with
      | error e => exact hr₂
      | ok fl₂ =>
        cases fl₂ with
        | ret r =>
          obtain ⟨rfl, h', tk, c, rfl, hS, hc, hk⟩ := hr₂
          repeat (any_goals (first | assumption | wp_step))
          exact h _ _ _ hS hc hk
        | _ => exact hr₂.elim
    | _ => exact hr.elim
end
theorem ints_vals : ∀ {ns : List Int} {us : List Value}, Vals (ns.map V.int) us → IntsAre us ns
  | [], _, .nil => .nil
  | n :: ns, _, .cons r t => by
    obtain ⟨k, rfl⟩ := r
    exact .cons n k (ints_vals t)
/-- set(xs) of a list of integers -/
def rSetI (K : PySem.W.Frag) (w : World) : List V → Hp → VK → Prop := fun xs H Q => ∃ (l : Addr) (ns : List Int), xs = [.ref l] ∧ SqL K H l (ns.map V.int) ∧ ns.length ≤ 1000 ∧ ∀ a c, c ≤ ns.length → H a = none → Q (.ref a) (upd H a (SetO w a (fun j => decide (j ∈ ns)) c))
section
variable {X : Cx}
theorem cr_setI (hc : X.calm = true) : CallR X (.type "set") (rSetI X.K X.w) := by
  intro pins s σ H xs us Q I r h
  obtain ⟨l, ns, rfl, hs, hl, q⟩ := h
  rw [Vals.ref1 r]
  obtain ⟨its, rv, pl, hz⟩ := I.list hs
  refine call_set_ints (ns := ns) (I.ok.hd hc) pl.isList (by simpa using ints_vals rv) (by unfold scanBound; omega) fun h' tk c hS hcl hk => ?_
  exact ⟨.ref s.heap.objs.size, _, I.laid (t' := tk) (fun b u e => hk b u (Heap.lt_size e) e) (Nat.le_refl _) (setO_new hS), rfl, q _ c hcl (I.hok.fresh (Nat.le_refl _))⟩
end
end Fp
/-! A stair of levels, as a plain thing -/
namespace Fp
open PySem PySem.Spec PyProof.Rows L2
theorem countP_same {α : Type} {f g : α → Bool} : ∀ {l : List α}, (∀ x ∈ l, f x = true → g x = true) → l.countP g ≤ l.countP f → ∀ x ∈ l, g x = true → f x = true
  | [], _, _, x, hx, _ => absurd hx (by simp)
  | a :: l, h, e, x, hx, hg => by
    have hm := List.countP_mono_left (l := l) fun y hy => h y (List.mem_cons_of_mem _ hy)
    have ha := h a List.mem_cons_self
    rw [List.countP_cons, List.countP_cons] at e
    by_cases fa : f a = true
    · have ga := ha fa
      rw [if_pos fa, if_pos ga] at e
      rcases List.mem_cons.mp hx with z | z
      · rw [z]; exact fa
      · exact countP_same (fun y hy => h y (List.mem_cons_of_mem _ hy)) (by omega) x z hg
    · rw [if_neg fa] at e
      by_cases ga : g a = true
      · rw [if_pos ga] at e; omega
      · rw [if_neg ga] at e
        rcases List.mem_cons.mp hx with z | z
        · rw [z] at hg; exact absurd hg ga
        · exact countP_same (fun y hy => h y (List.mem_cons_of_mem _ hy)) (by omega) x z hg
theorem countP_more {α : Type} [DecidableEq α] {f g : α → Bool} : ∀ {l : List α}, (∀ x ∈ l, f x = true → g x = true) → ∀ x ∈ l, f x = false → g x = true → l.countP f < l.countP g := fun {l} h x hx hf hg => by
  rcases Nat.lt_or_ge (l.countP f) (l.countP g) with z | z
  · exact z
  · have := countP_same h z x hx hg
    rw [hf] at this; cases this
theorem countP_range (n : Nat) (f : Nat → Bool) : (List.range n).countP f ≤ n := by
  have := List.countP_le_length (p := f) (l := List.range n)
  rwa [List.length_range] at this
inductive Due where
  | wr (l : Int) | look
structure LS where
  lev : List Lv
  vw : List (Option (List Nat))
  lk : List Bool
  run : List PyData
namespace LS
def new (n : Nat) : LS := ⟨List.replicate n none, List.replicate n none, List.replicate n false, []⟩
def n (s : LS) : Nat := s.lev.length
def lv (s : LS) (p : Nat) : Lv := s.lev.getD p none
def vi (s : LS) (p : Nat) : Option (List Nat) := s.vw.getD p none
def lo (s : LS) (p : Nat) : Bool := s.lk.getD p false
def le (a : Lv) (l : Int) : Bool := match a with
  | none => false
  | some x => decide (x ≤ l)
def below (s : LS) (l : Int) : List Nat := (List.range s.n).filter fun p => le (s.lv p) l
def next (s : LS) (p : Nat) : Option Due := if (s.vi p).isSome then none else if s.lo p then some .look else some (.wr (match s.lv p with
  | none => (s.n : Nat)
  | some l => l - 1))
def own (s : LS) (p : Nat) : Int := (s.lv p).getD 0
def seen (s : LS) (p : Nat) : Option (List Nat) := if s.own p ≤ (s.below (s.own p)).length then some (s.below (s.own p)) else none
def wrote (s : LS) (p : Nat) (l : Int) : LS := { s with lev := s.lev.set p (some l), lk := s.lk.set p true, run := s.run ++ [.tuple [.int (p : Nat), .str "write", .int l]] }
def looked (s : LS) (p : Nat) : LS := { s with vw := s.vw.set p (s.seen p), lk := s.lk.set p false, run := s.run ++ [.tuple [.int (p : Nat), .str "look", .tuple (s.lev.map lvD)]] }
def step (s : LS) (p : Nat) : LS := match s.next p with
  | none => s
  | some (.wr l) => s.wrote p l
  | some .look => s.looked p
/-- at l or below, or coming there -/
def inS (s : LS) (l : Nat) (p : Nat) : Bool := le (s.lv p) l
def inD (s : LS) (l : Nat) (p : Nat) : Bool := decide (s.lv p = some ((l : Int) + 1)) && !s.lo p && (s.vi p).isNone
structure WF (s : LS) : Prop where
  n1 : 1 ≤ s.n
  n5 : s.n ≤ 5
  lw : s.vw.length = s.n
  ll : s.lk.length = s.n
  rng : ∀ p l, s.lv p = some l → 1 ≤ l ∧ l ≤ s.n
  lkl : ∀ p, s.lo p = true → s.lv p ≠ none
  vil : ∀ p v, s.vi p = some v → ∃ l : Nat, s.lv p = some (l : Int) ∧ v = s.below l ∧ (s.below l).length = l
  vlk : ∀ p, s.vi p ≠ none → s.lo p = false
  few : ∀ l : Nat, l < s.n → (List.range s.n).countP (fun p => s.inS l p || s.inD l p) ≤ l
section
variable {s : LS} {p q : Nat} {l : Int}
theorem lv_new (n p : Nat) : (new n).lv p = none := DS.rep_none n p
theorem vi_new (n p : Nat) : (new n).vi p = none := DS.rep_none n p
theorem getB_set (l : List Bool) (p q : Nat) (x : Bool) : (l.set p x).getD q false = if p = q ∧ p < l.length then x else l.getD q false := by
  simp only [List.getD_eq_getElem?_getD, List.getElem?_set]
  by_cases h : p = q
  · subst h
    by_cases h2 : p < l.length
    · simp [h2]
    · have e : l[p]? = none := List.getElem?_eq_none (by omega)
      simp [h2, e]
  · simp [h]
theorem lo_new (n p : Nat) : (new n).lo p = false := by
  show (List.replicate n false).getD p false = false
  rw [List.getD_eq_getElem?_getD, List.getElem?_replicate]; split <;> rfl
theorem WF.new {n : Nat} (h1 : 1 ≤ n) (h5 : n ≤ 5) : (LS.new n).WF := by
  have hn : (LS.new n).n = n := by simp [LS.new, LS.n]
  refine ⟨by omega, by omega, by simp [LS.new, LS.n], by simp [LS.new, LS.n], ?_, ?_, ?_, ?_, fun l hl => ?_⟩
  · intro p l h; rw [lv_new] at h; cases h
  · intro p h; rw [lo_new] at h; cases h
  · intro p v h; rw [vi_new] at h; cases h
  · intro p h; rw [vi_new] at h; exact absurd rfl h
  · have : (List.range (LS.new n).n).countP (fun p => (LS.new n).inS l p || (LS.new n).inD l p) = 0 := by
      rw [List.countP_eq_zero]
      intro p _
      unfold inS inD
      rw [lv_new]
      simp [le]
    omega
theorem mem_below : q ∈ s.below l ↔ q < s.n ∧ le (s.lv q) l = true := by
  unfold below
  rw [List.mem_filter, List.mem_range]
theorem below_len : (s.below l).length = (List.range s.n).countP fun p => le (s.lv p) l := by
  unfold below
  rw [List.countP_eq_length_filter]
theorem le_some {x : Int} (h : s.lv q = some x) : le (s.lv q) l = decide (x ≤ l) := by rw [h]; rfl
theorem lt_of_lv {x : Int} (h : s.lv q = some x) : q < s.n := (getD_none_of h).1
theorem WF.below_le (W : s.WF) (l : Nat) (h : l ≤ s.n) : (s.below l).length ≤ l := by
  rw [below_len]
  by_cases e : l < s.n
  · refine Nat.le_trans (List.countP_mono_left fun x _ hx => ?_) (W.few l e)
    show (s.inS l x || s.inD l x) = true
    rw [show s.inS l x = true from hx]; rfl
  · have : l = s.n := by omega
    rw [this]; exact countP_range _ _
theorem n_wrote : (s.wrote p l).n = s.n := by simp [wrote, n]
theorem n_looked : (s.looked p).n = s.n := rfl
theorem n_step : (s.step p).n = s.n := by
  unfold step
  split
  · rfl
  · exact n_wrote
  · rfl
theorem lv_wrote (hp : p < s.n) : (s.wrote p l).lv q = if p = q then some l else s.lv q := by
  show (s.lev.set p (some l)).getD q none = _
  rw [getD_set]
  by_cases e : p = q
  · rw [if_pos ⟨e, hp⟩, if_pos e]
  · rw [if_neg (fun z => e z.1), if_neg e]; rfl
theorem vi_wrote : (s.wrote p l).vi q = s.vi q := rfl
theorem lo_wrote (W : s.WF) (hp : p < s.n) : (s.wrote p l).lo q = if p = q then true else s.lo q := by
  show (s.lk.set p true).getD q false = _
  rw [getB_set]
  by_cases e : p = q
  · rw [if_pos ⟨e, by rw [W.ll]; exact hp⟩, if_pos e]
  · rw [if_neg (fun z => e z.1), if_neg e]; rfl
theorem lv_looked : (s.looked p).lv q = s.lv q := rfl
theorem vi_looked (W : s.WF) (hp : p < s.n) : (s.looked p).vi q = if p = q then s.seen p else s.vi q := by
  show (s.vw.set p (s.seen p)).getD q none = _
  rw [getD_set]
  by_cases e : p = q
  · rw [if_pos ⟨e, by rw [W.lw]; exact hp⟩, if_pos e]
  · rw [if_neg (fun z => e z.1), if_neg e]; rfl
theorem lo_looked (W : s.WF) (hp : p < s.n) : (s.looked p).lo q = if p = q then false else s.lo q := by
  show (s.lk.set p false).getD q false = _
  rw [getB_set]
  by_cases e : p = q
  · rw [if_pos ⟨e, by rw [W.ll]; exact hp⟩, if_pos e]
  · rw [if_neg (fun z => e z.1), if_neg e]; rfl
theorem below_looked : (s.looked p).below l = s.below l := rfl
/-- nobody comes to a level where as many stand as can -/
theorem WF.full (W : s.WF) {l : Nat} (hl : (s.below l).length = l) (hr : l ≤ s.n) : ∀ q, q < s.n → s.inD l q = false := fun q hq => by
  cases z : s.inD l q with
  | false => rfl
  | true =>
    exfalso
    have hlv : s.lv q = some ((l : Int) + 1) := by
      unfold inD at z
      rw [Bool.and_eq_true, Bool.and_eq_true] at z
      exact of_decide_eq_true z.1.1
    have hle : le (s.lv q) l = false := by rw [le_some hlv]; exact decide_eq_false (by omega)
    have r := (W.rng q _ hlv).2
    have hf := W.few l (by omega)
    have := countP_more (l := List.range s.n) (f := fun p => le (s.lv p) l) (g := fun p => s.inS l p || s.inD l p) (fun x _ hx => by show (s.inS l x || _) = true; rw [show s.inS l x = true from hx]; rfl) q (List.mem_range.mpr hq) hle (by show (s.inS l q || s.inD l q) = true; rw [z]; simp)
    rw [← below_len, hl] at this
    omega
theorem WF.wrote (W : s.WF) (hp : p < s.n) (hv : s.vi p = none) (hk : s.lo p = false) (hl : match s.lv p with | none => l = (s.n : Nat) | some x => l = x - 1) : (s.wrote p l).WF := by
  have L := fun q => lv_wrote (s := s) (l := l) (q := q) hp
  have K := fun q => lo_wrote (l := l) (q := q) W hp
  have low : ∀ x, s.lv p = some x → 2 ≤ x := fun x hx => by
    have h1 := (W.rng p x hx).1
    rcases (show x = 1 ∨ 2 ≤ x by omega) with z | z
    · exfalso
      have hf := W.few 0 (by have := W.n1; omega)
      have hz : (List.range s.n).countP (fun p => s.inS 0 p || s.inD 0 p) = 0 := by omega
      rw [List.countP_eq_zero] at hz
      have := hz p (List.mem_range.mpr hp)
      refine this ?_
      unfold inD
      rw [hx, z, hk, hv]
      simp
    · exact z
  have lr : 1 ≤ l ∧ l ≤ s.n := by
    cases e : s.lv p with
    | none => rw [e] at hl; have := W.n1; simp only at hl; omega
    | some x => rw [e] at hl; have := low x e; have := (W.rng p x e).2; simp only at hl; omega
  -- p is counted only where it was counted
  have key : ∀ k : Nat, k < s.n → l ≤ k → s.inS k p = true ∨ s.inD k p = true := fun k hk' hlk => by
    cases e : s.lv p with
    | none => rw [e] at hl; simp only at hl; omega
    | some x =>
      rw [e] at hl
      simp only at hl
      by_cases z : x ≤ k
      · left; show le (s.lv p) k = true; rw [le_some e]; exact decide_eq_true z
      · right
        unfold inD
        rw [e, hk, hv, show x = (k : Int) + 1 by omega]
        simp
  refine ⟨by rw [n_wrote]; exact W.n1, by rw [n_wrote]; exact W.n5, by rw [n_wrote]; exact W.lw, by rw [n_wrote]; simp [LS.wrote, W.ll], fun q x hq => ?_, fun q hq => ?_, fun q v hq => ?_, fun q hq => ?_, fun k hk' => ?_⟩
  · rw [n_wrote]; rw [L] at hq
    split at hq
    · cases hq; exact lr
    · exact W.rng q x hq
  · rw [K] at hq; rw [L]
    split
    · simp
    · rename_i z; rw [if_neg z] at hq; exact W.lkl q hq
  · rw [vi_wrote] at hq
    obtain ⟨k, h1, h2, h3⟩ := W.vil q v hq
    have pq : p ≠ q := fun z => by rw [← z, hv] at hq; cases hq
    have hkn := (W.rng q _ h1).2
    have e : (s.wrote p l).below k = s.below k := by
      unfold below
      rw [n_wrote]
      refine List.filter_congr fun x hx => ?_
      rw [L]
      split
      · rename_i z
        subst z
        cases hb : le (s.lv p) k with
        | true =>
          cases e : s.lv p with
          | none => rw [e] at hb; cases hb
          | some y =>
            rw [le_some e] at hb
            have := of_decide_eq_true hb
            rw [e] at hl
            simp only at hl
            exact decide_eq_true (by omega)
        | false =>
          refine decide_eq_false fun hlk => ?_
          rcases Nat.lt_or_ge k s.n with c | c
          · have := W.full h3 (by omega) p hp
            rcases key k c (by omega) with w | w
            · have w : le (s.lv p) k = true := w
              rw [hb] at w; cases w
            · rw [this] at w; cases w
          · have kn : k = s.n := by omega
            rw [below_len] at h3
            have := countP_same (l := List.range s.n) (f := fun p => le (s.lv p) k) (g := fun _ => true) (fun _ _ _ => rfl) (by rw [h3, kn]; exact countP_range _ _) p (List.mem_range.mpr hp) rfl
            rw [hb] at this; cases this
      · rfl
    exact ⟨k, by rw [L, if_neg pq]; exact h1, by rw [e]; exact h2, by rw [e]; exact h3⟩
  · rw [vi_wrote] at hq
    rw [K, if_neg]
    · exact W.vlk q hq
    · intro z; rw [← z] at hq; exact hq hv
  · rw [n_wrote] at hk' ⊢
    refine Nat.le_trans (List.countP_mono_left fun x hx h => ?_) (W.few k hk')
    by_cases z : p = x
    · subst z
      have h1 : (s.wrote p l).inD k p = false := by unfold inD; rw [K, if_pos rfl]; simp
      rw [h1, Bool.or_false] at h
      have h : le ((s.wrote p l).lv p) k = true := h
      rw [L, if_pos rfl] at h
      have := of_decide_eq_true (show decide (l ≤ (k : Int)) = true from h)
      rcases key k hk' this with w | w <;> rw [w] <;> simp
    · have h1 : (s.wrote p l).inS k x = s.inS k x := by unfold inS; rw [L, if_neg z]
      have h2 : (s.wrote p l).inD k x = s.inD k x := by unfold inD; rw [L, if_neg z, K, if_neg z]; rfl
      rw [h1, h2] at h; exact h
theorem WF.looked (W : s.WF) (hp : p < s.n) (hk : s.lo p = true) : (s.looked p).WF := by
  have V := fun q => vi_looked (q := q) W hp
  have K := fun q => lo_looked (q := q) W hp
  have hv : s.vi p = none := by
    cases e : s.vi p with
    | none => rfl
    | some v => have := W.vlk p (by rw [e]; simp); rw [hk] at this; cases this
  obtain ⟨x, hx⟩ : ∃ x, s.lv p = some x := by
    cases e : s.lv p with
    | none => exact absurd e (W.lkl p hk)
    | some x => exact ⟨x, rfl⟩
  have ho : s.own p = x := by unfold own; rw [hx]; rfl
  obtain ⟨r1, r2⟩ := W.rng p x hx
  obtain ⟨k, rfl⟩ : ∃ k : Nat, x = k := ⟨x.toNat, by omega⟩
  refine ⟨W.n1, W.n5, by show (s.vw.set p _).length = _; rw [List.length_set]; exact W.lw, by show (s.lk.set p _).length = _; rw [List.length_set]; exact W.ll, W.rng, fun q hq => ?_, fun q v hq => ?_, fun q hq => ?_, fun j hj => ?_⟩
  · rw [K] at hq
    split at hq
    · cases hq
    · exact W.lkl q hq
  · rw [V] at hq
    by_cases z : p = q
    · rw [if_pos z] at hq
      subst z
      unfold seen at hq
      rw [ho] at hq
      split at hq
      · rename_i h
        cases hq
        have := W.below_le k (by omega)
        exact ⟨k, hx, rfl, by show (s.below k).length = k; omega⟩
      · cases hq
    · rw [if_neg z] at hq; exact W.vil q v hq
  · rw [K]
    split
    · rfl
    · rename_i z; rw [V, if_neg z] at hq; exact W.vlk q hq
  · have hj : j < s.n := hj
    show (List.range s.n).countP _ ≤ j
    have oth : ∀ q, p ≠ q → (s.looked p).inD j q = s.inD j q := fun q z => by unfold inD; rw [K, if_neg z, V, if_neg z]; rfl
    by_cases c : k = j + 1 ∧ s.seen p = none
    · obtain ⟨c1, c2⟩ := c
      have hb : (s.below (j + 1 : Nat)).length ≤ j := by
        unfold seen at c2
        rw [ho] at c2
        split at c2
        · cases c2
        · rename_i h; rw [← c1]; omega
      rw [below_len] at hb
      refine Nat.le_trans (List.countP_mono_left fun y hy h => ?_) hb
      rcases Bool.or_eq_true_iff.mp h with w | w
      · have w : le (s.lv y) j = true := w
        cases e : s.lv y with
        | none => rw [e] at w; cases w
        | some z => rw [e] at w; have := of_decide_eq_true (show decide (z ≤ (j : Int)) = true from w); exact decide_eq_true (by omega)
      · unfold inD at w
        rw [Bool.and_eq_true, Bool.and_eq_true] at w
        have := of_decide_eq_true w.1.1
        have this : s.lv y = some ((j : Int) + 1) := this
        rw [this]; exact decide_eq_true (by omega)
    · refine Nat.le_trans (List.countP_mono_left fun y hy h => ?_) (W.few j hj)
      rcases Bool.or_eq_true_iff.mp h with w | w
      · have w : s.inS j y = true := w
        rw [w]; rfl
      · by_cases z : p = y
        · subst z
          exfalso
          unfold inD at w
          rw [Bool.and_eq_true, Bool.and_eq_true] at w
          have h1 := of_decide_eq_true w.1.1
          have h1 : s.lv p = some ((j : Int) + 1) := h1
          rw [hx] at h1
          have h1 := Option.some.inj h1
          have h2 := w.2
          rw [V, if_pos rfl] at h2
          refine c ⟨by omega, ?_⟩
          cases e : s.seen p with
          | none => rfl
          | some v => rw [e] at h2; cases h2
        · rw [oth y z] at w; rw [w]; simp
theorem next_none : s.next p = none ↔ s.vi p ≠ none := by
  unfold next
  cases s.vi p with
  | none => simp; split <;> simp
  | some v => simp
theorem WF.step (W : s.WF) (hp : p < s.n) : (s.step p).WF := by
  unfold LS.step
  cases e : s.next p with
  | none => exact W
  | some du =>
    have hv : s.vi p = none := Classical.byContradiction fun z => by rw [next_none.mpr z] at e; cases e
    unfold LS.next at e
    rw [hv] at e
    simp only [Option.isSome_none, Bool.false_eq_true, if_false] at e
    cases hk : s.lo p with
    | true => rw [hk] at e; cases e; exact W.looked hp hk
    | false =>
      rw [hk] at e
      cases e
      refine W.wrote hp hv hk ?_
      cases s.lv p <;> rfl
/-- views stay -/
theorem vi_keep {v : List Nat} (W : s.WF) (hp : p < s.n) (h : s.vi q = some v) : (s.step p).vi q = some v := by
  unfold LS.step
  cases e : s.next p with
  | none => exact h
  | some du =>
    have hv : s.vi p = none := Classical.byContradiction fun z => by rw [next_none.mpr z] at e; cases e
    have pq : p ≠ q := fun z => by rw [z, h] at hv; cases hv
    cases du with
    | wr l => exact h
    | look => show (s.looked p).vi q = _; rw [vi_looked W hp, if_neg pq]; exact h
/-- how many steps one that goes on alone has still to do, at most -/
def left (s : LS) (p : Nat) : Int := if (s.vi p).isSome then 0 else match s.lv p with
  | none => 2 * (s.n : Nat)
  | some l => if s.lo p then 2 * l - 1 else 2 * l - 2
theorem left_step (W : s.WF) (hp : p < s.n) (h : s.vi p = none) : (s.step p).left p < s.left p ∧ 0 < s.left p := by
  have n1 := W.n1
  have e0 : s.left p = match s.lv p with
    | none => 2 * (s.n : Nat)
    | some l => if s.lo p then 2 * l - 1 else 2 * l - 2 := by unfold left; rw [h]; rfl
  unfold LS.step
  cases hk : s.lo p with
  | true =>
    have en : s.next p = some .look := by unfold next; rw [h, hk]; rfl
    rw [en]
    obtain ⟨x, hx⟩ : ∃ x, s.lv p = some x := by
      cases e : s.lv p with
      | none => exact absurd e (W.lkl p hk)
      | some x => exact ⟨x, rfl⟩
    have r := W.rng p x hx
    rw [hx, hk] at e0
    simp only [if_true] at e0
    rw [e0]
    show (s.looked p).left p < _ ∧ _
    refine ⟨?_, by omega⟩
    unfold left
    rw [vi_looked W hp, if_pos rfl, lo_looked W hp, if_pos rfl, lv_looked, hx]
    split
    · omega
    · simp only [Bool.false_eq_true, if_false]; omega
  | false =>
    cases hl : s.lv p with
    | none =>
      have en : s.next p = some (.wr (s.n : Nat)) := by unfold next; rw [h, hk, hl]; rfl
      rw [en]
      rw [hl] at e0
      simp only at e0
      rw [e0]
      show (s.wrote p (s.n : Nat)).left p < _ ∧ _
      refine ⟨?_, by omega⟩
      unfold left
      rw [vi_wrote, h, lo_wrote W hp, if_pos rfl, lv_wrote hp, if_pos rfl]
      simp only [Option.isSome_none, Bool.false_eq_true, if_false, if_true]
      omega
    | some x =>
      have en : s.next p = some (.wr (x - 1)) := by unfold next; rw [h, hk, hl]; rfl
      rw [en]
      rw [hl, hk] at e0
      simp only [Bool.false_eq_true, if_false] at e0
      rw [e0]
      have r := W.rng p x hl
      have x2 : 2 ≤ x := by
        rcases (show x = 1 ∨ 2 ≤ x by omega) with z | z
        · exfalso
          have hf := W.few 0 (by omega)
          have hz : (List.range s.n).countP (fun p => s.inS 0 p || s.inD 0 p) = 0 := by omega
          rw [List.countP_eq_zero] at hz
          refine hz p (List.mem_range.mpr hp) ?_
          unfold inD
          rw [hl, z, hk, h]
          simp
        · exact z
      show (s.wrote p (x - 1)).left p < _ ∧ _
      refine ⟨?_, by omega⟩
      unfold left
      rw [vi_wrote, h, lo_wrote W hp, if_pos rfl, lv_wrote hp, if_pos rfl]
      simp only [Option.isSome_none, Bool.false_eq_true, if_false, if_true]
      omega
theorem left_top (W : s.WF) : s.left p ≤ 2 * (s.n : Nat) := by
  unfold left
  split
  · omega
  · split
    · omega
    · rename_i l hl
      have := W.rng p l hl
      split <;> omega
/-- a view has its own hand, and all elder views, if the hand was fresh -/
theorem WF.self (W : s.WF) {v : List Nat} (h : s.vi p = some v) : p ∈ v := by
  obtain ⟨l, h1, h2, _⟩ := W.vil p v h
  rw [h2]
  exact mem_below.mpr ⟨lt_of_lv h1, by rw [le_some h1]; exact decide_eq_true (Int.le_refl _)⟩
theorem WF.elder (W : s.WF) {s0 : LS} (W0 : s0.WF) {v w : List Nat} (hf : s0.lv p = none) (h : s.vi p = some v) (hq : s.vi q = some w) (hq0 : s0.vi q = some w) : ∀ x ∈ w, x ∈ v := by
  obtain ⟨l, h1, h2, _⟩ := W.vil p v h
  obtain ⟨k, k1, k2, _⟩ := W.vil q w hq
  obtain ⟨k0, j1, j2, _⟩ := W0.vil q w hq0
  have hpw : p ∉ w := fun z => by
    rw [j2] at z
    have := (mem_below.mp z).2
    rw [hf] at this; cases this
  have hkl : k ≤ l := by
    rcases Nat.lt_or_ge l k with z | z
    · exfalso
      refine hpw ?_
      rw [k2]
      exact mem_below.mpr ⟨lt_of_lv h1, by rw [le_some h1]; exact decide_eq_true (by omega)⟩
    · exact z
  intro x hx
  rw [k2] at hx
  obtain ⟨a, b⟩ := mem_below.mp hx
  rw [h2]
  refine mem_below.mpr ⟨a, ?_⟩
  cases e : s.lv x with
  | none => rw [e] at b; cases b
  | some y => rw [e] at b; have := of_decide_eq_true (show decide (y ≤ (k : Int)) = true from b); exact decide_eq_true (by omega)
end
end LS
end Fp
/-! len of an object with an own __len__; data that stays, whatever lists change; C(k = v) -/
namespace Fp
open PySem PySem.Spec PyProof.Rows L2
structure LenC (P : Program) (w : World) (K : PySem.W.Frag) (mg : Str → Option Value) (base : Heap) (C : Addr) (n : Nat) (ps : List Str) (sp : Sp) : Prop where
  ex : ∃ (f : Addr) (fd : FuncData), PySem.W.findIn K (.ref C) "__len__" = some (some (.ref f)) ∧ PySem.W.isFn K (.ref f) = true ∧ Binds K fd ps [] ∧ FnOk P w K mg base CX0 n f fd ps sp
def rLenO (C : Addr) (sp : Sp) : List V → Hp → VK → Prop := fun xs H Q => ∃ (a dx : Addr) (fs : List (Str × V)), xs = [.ref a] ∧ H a = some (.ins C dx fs) ∧ sp [.ref a] H (fun v H' => ∃ n : Nat, v = .int n ∧ n < 2 ^ 62 ∧ Q (.int n) H') E0
section
variable {X : Cx} {C : Addr} {n : Nat} {ps : List Str} {sp : Sp}
theorem call_lenO (M : LenC X.prog X.w X.K X.mg X.base C n ps sp) (hr : Room (n + 1) X.A) : CallR X (.builtin "len") (rLenO C sp) := by
  intro pins s σ H xs us Q I r h
  obtain ⟨a, dx, fs, rfl, ha, q⟩ := h
  rw [Vals.ref1 r]
  obtain ⟨f, fd, hs, hf, hb, F⟩ := M.ex
  obtain ⟨mA, J, _⟩ := ins_get I.hok ha
  obtain ⟨od, J, _⟩ := J.look
  obtain ⟨m, hF⟩ := I.fr
  refine PySem.W.len_K hF I.ok.mod.kin J hs hf ?_
  have e0 : Env0 X.prog X.w X.K X.mg X.base X.A.in1 X.stack s H := I.env0.in1
  have r2 : Vals ([V.ref a] ++ []) ([Value.ref a] ++ []) := Vals.append (.cons rfl .nil) .nil
  have hsp : sp ([V.ref a] ++ []) H (fun v H' => ∃ n : Nat, v = .int n ∧ n < 2 ^ 62 ∧ Q (.int n) H') E0 := q
  have hl : ([Value.ref a] ++ []).length = ps.length := by rw [← r2.length]; exact F.len _ _ _ _ hsp
  refine wpAny_call (codeAny_mono (F.run X.A.in1 X.stack s H ⟨[.ref a], []⟩ _ _ _ E0 hr.in1 e0 (hb s [.ref a] I.kIn hl) r2 hsp) fun r s' hq => ?_)
  cases r with
  | error e => exact pass0 pins σ H s e s' I hq
  | ok fl =>
    cases fl with
    | ret u =>
      obtain ⟨v, H', I', rv, k, rfl, hk, q'⟩ := I.after hq
      obtain ⟨t, rfl⟩ := rv
      exact ⟨⟨by omega, by omega⟩, .int k, H', I'.tok _, ⟨_, rfl⟩, q'⟩
    | next => exact False.elim hq
    | brk => exact False.elim hq
    | cont => exact False.elim hq
end
/-! ### C(k = v) -/
structure MkK (P : Program) (w : World) (K : PySem.W.Frag) (mg : Str → Option Value) (base : Heap) (x : Str) (C : Addr) (k : Nat) (ps ks : List Str) (sp : Sp) : Prop where
  at_ : mg x = some (.ref C)
  ex : ∃ (f : Addr) (fd : FuncData), Mk K C f ∧ KBn K fd ps 1 ks (fun us ws => us ++ ws) (fun vs zs => vs ++ zs) ∧ FnOk P w K mg base CX0 k f fd ps sp
section
variable {X : Cx} {x : Str} {k : Nat} {ps ks : List Str} {sp : Sp} {C : Addr} {kws : List Keyword} {tk : TA} {p pos : Pos}
theorem pe_mkK (M : MkK X.prog X.w X.K X.mg X.base x C k ps ks sp) (hr : Room (k + 1) X.A) (hg : Gl X x) (hkw : PK X kws tk)
    (hall : (backToKw pos (keywordEach kws X.env)).all (·.1.isSome) = true := by rfl) (hks : (backToKw pos (keywordEach kws X.env)).filterMap (·.1) = ks := by rfl) (hdb : (x == ("__debug__" : Str)) = false := by decide)
    (hpl : ((backTo pos (starEach [] X.env)).any (·.1) || (backToKw pos (keywordEach kws X.env)).any (·.1.isNone)) = false := by rfl) :
    PE X (.Call (.Name x p) [] kws pos) (tMakeK C 0 ks.length sp (fun vs zs => vs ++ zs) E0 tNil tk) := by
  obtain ⟨f, fd, h1, h2, h3⟩ := M.ex
  exact pe_makeK0 h1 h3 hr hg M.at_ h2 pass0 hkw hall hks hdb hpl
end
/-! ### data that stays -/
def SD (K : PySem.W.Frag) (H : Hp) (x : V) (d : PyData) : Prop := ∀ H', TK H H' → Dp K H' x d
section
variable {K : PySem.W.Frag} {H H' : Hp} {x v : V} {d dv : PyData} {t : Addr} {xs : List V} {ds : List PyData}
theorem SD.mono (h : SD K H x d) (g : TK H H') : SD K H' x d := fun _ g2 => h _ (g.trans g2)
theorem SDs.mono (h : Paired (SD K H) xs ds) (g : TK H H') : Paired (SD K H') xs ds := pr_imp (fun _ _ h => SD.mono h g) h
theorem SDs.dp : ∀ {xs : List V} {ds : List PyData}, Paired (SD K H) xs ds → DpAll K H xs ds
  | _, _, .nil => .nil
  | _, _, .cons a b => .cons (a _ (.refl _)) (SDs.dp b)
theorem sd_tup (h : H t = some (.tup xs)) (a : Paired (SD K H) xs ds) : SD K H (.ref t) (.tuple ds) := fun _ g => .tup (.of (g.t h)) (SDs.dp (SDs.mono a g))
theorem sd_int (i : Int) : SD K H (.int i) (.int i) := fun _ _ => .int i
theorem sd_str (z : Str) : SD K H (.str z) (.str z) := fun _ _ => .str z
theorem sd_non : SD K H .non .none := fun _ _ => .non
theorem sd_val (h : VAt H v dv) : SD K H v dv := fun _ g => (h.mono g).dp
/-- what is told, as data, the word's being dv -/
def tdD (dv : PyData) : Told → PyData
  | .level i => .tuple [.str "level", .int i]
  | .look l => .tuple [.str "look", .tuple (l.map lvD)]
  | .wait => .tuple [.str "wait"]
  | .word _ => .tuple [.str "word", dv]
theorem sd_lv : ∀ l : List Lv, Paired (SD K H) (l.map lvV) (l.map lvD)
  | [] => .nil
  | none :: l => .cons sd_non (sd_lv l)
  | some i :: l => .cons (sd_int i) (sd_lv l)
theorem sd_told {x : Told} (h : ToldAt H t x) (hw : ∀ v, x = .word v → VAt H v dv) : SD K H (.ref t) (tdD dv x) := by
  cases x with
  | level i => exact sd_tup h (.cons (sd_str _) (.cons (sd_int _) .nil))
  | look l =>
    obtain ⟨q, a, b⟩ := h
    intro H' g
    exact .tup (.of (g.t a)) (.cons (.str _) (.cons (.tup (g.tt b).sq (SDs.dp (sd_lv l))) .nil))
  | wait => exact sd_tup h (.cons (sd_str _) .nil)
  | word v => exact sd_tup h (.cons (sd_str _) (.cons (sd_val (hw v rfl)) .nil))
end
/-- how many steps were done -/
def DS.stps (s : DS) : Nat := (s.deeds.filter (·.stp)).length
def spDLen (C : Addr) : Sp := fun vs H Q _ => ∃ (d : Addr) (s : DS), vs = [.ref d] ∧ DoorAt C H d s ∧ s.deeds.length < 100000 ∧ ∀ H', Same H H' → Q (.int (s.stps : Nat)) H'
end Fp
namespace Fp
open PySem PySem.Spec PyProof.Rows L2
/-! ### steps one by one -/
section
variable {C : Addr} {H H1 H2 : Hp} {d : Addr} {s : DS} {c h : List (Option V)} {l : List Lv} {sn : List (Option (List Lv))} {ds : List Deed} {p n m : Nat} {x : V}
theorem nx_step (e1 : ds.length = n) (e2 : (ds.filter (·.stp)).length = m) (D : DoorAt C H d (DS.mk c l h sn (ds ++ [⟨true, p, x⟩]))) :
    ∃ ds' : List Deed, ds'.length = n + 1 ∧ (ds'.filter (·.stp)).length = m + 1 ∧ DoorAt C H d ⟨c, l, h, sn, ds'⟩ := ⟨_, by rw [List.length_append, e1]; rfl, by rw [List.filter_append, List.length_append, e2]; rfl, D⟩
theorem nx_come (e1 : ds.length = n) (e2 : (ds.filter (·.stp)).length = m) (D : DoorAt C H d (DS.mk c l h sn (ds ++ [⟨false, p, x⟩]))) :
    ∃ ds' : List Deed, ds'.length = n + 1 ∧ (ds'.filter (·.stp)).length = m ∧ DoorAt C H d ⟨c, l, h, sn, ds'⟩ := ⟨_, by rw [List.length_append, e1]; rfl, by rw [List.filter_append, List.length_append, e2]; rfl, D⟩
theorem Same.into {H0 : Hp} (F : Same H0 H1) (g : But [d] H1 H2) (hd : H0 d = none) : Same H0 H2 := fun b o e => g b o (by
  rw [List.mem_singleton]
  intro z
  rw [z, hd] at e
  cases e) (F b o e)
end
theorem SD.now {K : PySem.W.Frag} {H : Hp} {x : V} {d : PyData} (h : SD K H x d) : Dp K H x d := h H (.refl _)
theorem Same.gone {H H1 : Hp} {a : Addr} (F : Same H H1) (h : H1 a = none) : H a = none := by
  cases e : H a with
  | none => rfl
  | some o => rw [F a o e] at h; cases h
theorem Same.put {H H1 : Hp} {a : Addr} {o : HO} (F : Same H H1) (h : H a = none) : Same H (upd H1 a o) := fun b u e => by
  rw [upd_ne (fun z => by rw [z, h] at e; cases e)]; exact F b u e
theorem pr_append {α β : Type} {F : α → β → Prop} : ∀ {l l' : List α} {m m' : List β}, Paired F l m → Paired F l' m' → Paired F (l ++ l') (m ++ m')
  | _, _, _, _, .nil, h => h
  | _, _, _, _, .cons a r, h => .cons a (pr_append r h)
theorem pr_two {α β : Type} {F : α → β → Prop} {l : List α} {a b : β} (h : Paired F l [a, b]) : ∃ x y, l = [x, y] ∧ F x a ∧ F y b := by
  cases h with
  | cons h1 t => cases t with
    | cons h2 t => cases t; exact ⟨_, _, rfl, h1, h2⟩
/-- one player alone, at 2, step by step -/
def lateS (v : V) : Nat → List Deed → DS
  | 0, ds => ⟨[none, none, some v], [none, none, none], [none, none, none], [none, none, none], ds⟩
  | 1, ds => ⟨[none, none, some v], [none, none, some 1], [none, none, none], [none, none, none], ds⟩
  | 2, ds => ⟨[none, none, some v], [none, none, some 1], [none, none, none], [none, none, some [none, none, some 1]], ds⟩
  | 3, ds => ⟨[none, none, some v], [none, none, some 2], [none, none, none], [none, none, some [none, none, some 1]], ds⟩
  | _, ds => ⟨[none, none, some v], [none, none, some 2], [none, none, some v], [none, none, some [none, none, some 1]], ds⟩
def lateT (v : V) : Nat → Told
  | 0 => .level 1
  | 1 => .look [none, none, some 1]
  | 2 => .level 2
  | _ => .word v
theorem late_step (v : V) (i : Nat) (ds : List Deed) (hi : i < 4) : (lateS v i ds).cm 2 ≠ none ∧ (lateS v i ds).told 2 = lateT v i ∧ (lateS v i ds).deeds = ds ∧ ∃ x, (lateS v i ds).step 2 = lateS v (i + 1) (ds ++ [⟨true, 2, x⟩]) := by
  rcases (show i = 0 ∨ i = 1 ∨ i = 2 ∨ i = 3 by omega) with rfl | rfl | rfl | rfl <;> exact ⟨fun z => (nomatch (show some v = none from z)), rfl, rfl, _, rfl⟩
theorem late_word {v x : V} {i : Nat} (hi : i < 4) (h : lateT v i = .word x) : x = v := by
  rcases (show i = 0 ∨ i = 1 ∨ i = 2 ∨ i = 3 by omega) with rfl | rfl | rfl | rfl <;> first | (cases h; done) | (injection h with h; exact h.symm)
theorem Sms.list {k n m : Nat} {ds : List PyData} (h : ∀ d ∈ ds, Sm k n d) (hm : (n + 1) * ds.length ≤ m) : Sm (k + 1) m (.list ds) := (Sms.all h).lst.mono (Nat.le_refl _) hm
theorem sm_td {dv : PyData} (ho : VOk 3 dv) (x : Told) (h : ∀ i, x = .level i → 0 ≤ i ∧ i ≤ 2) (hl : ∀ l, x = .look l → l.length ≤ 5 ∧ ∀ i, some i ∈ l → 0 ≤ i ∧ i ≤ 2) : Sm 6 100 (tdD dv x) := by
  cases x with
  | level i => exact sm_level (h i rfl).1 (h i rfl).2
  | look l =>
    have := hl l rfl
    exact (Sms.tup (.cons ((sm_word "look" (by decide +kernel)).mono (by decide : 1 ≤ 2) (Nat.le_refl 10)) (.cons (lv_sms this.2 this.1).tup (Sms.nil (n := 0))))).mono (by decide) (by decide)
  | wait => exact sm_wait
  | word v => exact sm_wordD ho
end Fp
/-! k35: the last two turned about; what deeds are as data; shown texts that differ -/
namespace Fp
open PySem PySem.Spec PyProof.Rows L2
theorem pick2 (its : List Value) (n : Nat) (a b : Value) (hn : its.length = n + 2) (ha : its[n + 1]? = some a) (hb : its[n]? = some b) : slicePick its.toArray none (some (-3)) (some (-1)) = #[a, b] := by
  unfold slicePick
  have hs : its.toArray.size = n + 2 := by simpa using hn
  have e : sliceBounds none (some (-3)) (some (-1)) its.toArray.size = ((n : Int) + 1, (n : Int) - 1, -1) := by
    rw [hs]
    unfold sliceBounds
    simp only [Option.getD_some, show ¬ ((-1 : Int) > 0) by decide, if_false, show ((-3 : Int) < 0) by decide, if_true]
    refine Prod.ext ?_ (Prod.ext ?_ rfl)
    · show ((n + 2 : Nat) : Int) - 1 = (n : Int) + 1; omega
    · show max (-1) (min (-3 + ((n + 2 : Nat) : Int)) (((n + 2 : Nat) : Int) - 1)) = (n : Int) - 1; omega
  rw [e]
  have r : sliceRange ((n : Int) + 1) ((n : Int) - 1) (-1) = [n + 1, n] := by
    unfold sliceRange
    have h : (n : Int) + 1 > (n : Int) - 1 := by omega
    have c : ((n : Int) + 1 - ((n : Int) - 1) - -1 - 1) / (- -1) = 2 := by
      rw [show (- -1 : Int) = 1 by decide, Int.ediv_one]; omega
    simp only [show ¬ ((-1 : Int) > 0) by decide, if_false, h, if_true, c]
    show [(((n : Int) + 1 + -1 * ((0 : Nat) : Int))).toNat, (((n : Int) + 1 + -1 * ((1 : Nat) : Int))).toNat] = _
    rw [show ((n : Int) + 1 + -1 * ((0 : Nat) : Int)).toNat = n + 1 by omega, show ((n : Int) + 1 + -1 * ((1 : Nat) : Int)).toNat = n by omega]
  show ((sliceRange ((n : Int) + 1) ((n : Int) - 1) (-1)).filterMap (its.toArray[·]?)).toArray = _
  rw [r]
  simp [ha, hb]
def tLast2 (K : PySem.W.Frag) (te : TE) : TE := fun σ H Q => te σ H fun x H1 => ∃ a xs u v, x = .ref a ∧ SqL K H1 a (xs ++ [u, v]) ∧ ∀ p, H1 p = none → Q (.ref p) (upd H1 p (.lst [v, u]))
section
variable {X : Cx}
theorem pe_last2 {e : Expr} {te : TE} {k k2 : Nat} {p1 p2 p3 p4 p5 pos : Pos} (he : PE X e te) : PE X (.Subscript e (.Slice none (some (.UnaryOp .USub (.Constant (.int 3) k2 p4) p5)) (some (.UnaryOp .USub (.Constant (.int 1) k p1) p2)) p3) pos) (tLast2 X.K te) := by
  refine ⟨fun pins s σ H Q I h => ?_⟩
  refine Subscript_ (thn (he.run pins s σ H _ I h) fun v s1 ⟨x, H1, I1, r1, q1⟩ => ?_)
  obtain ⟨a, xs, u1, v1, ex, hx, q⟩ := q1
  subst ex
  cases r1
  have hst : PO X (some (.UnaryOp .USub (.Constant (.int 1) k p1) p2)) (tPart (tUn (rU fun i => .int (-i)) (tC (.int 1)))) := po_some (pe_un un_neg pe_int)
  have hst3 : PO X (some (.UnaryOp .USub (.Constant (.int 3) k2 p4) p5)) (tPart (tUn (rU fun i => .int (-i)) (tC (.int 3)))) := po_some (pe_un un_neg pe_int)
  refine wpAny_Slice (thn (po_none.run pins s1 σ H1 (fun o H2 => o = none ∧ H2 = H1) I1 ⟨rfl, rfl⟩) fun vl s2 ⟨l, H2, I2, pl, el, e2⟩ => ?_)
  subst el e2
  refine thn (hst3.run pins s2 σ H2 (fun o H3 => o = some (-3) ∧ H3 = H2) I2 ⟨3, rfl, -3, rfl, rfl, rfl⟩) fun vu s3 ⟨u, H3, I3, pu, eu, e3⟩ => ?_
  subst eu e3
  refine thn (hst.run pins s3 σ H3 (fun o H4 => o = some (-1) ∧ H4 = H3) I3 ⟨1, rfl, -1, rfl, rfl, rfl⟩) fun vs s4 ⟨o, H4, I4, ps, eo, e4⟩ => ?_
  subst eo e4
  have I5 : Inv X pins σ H4 { s4 with heap := s4.heap.push { cls := .type "slice", data := .fields #[vl, vu, vs] } } := I4.kept (t' := s4.toks) fun b ob q => Heap.get?_push_of_some _ q
  obtain ⟨its, r, ht, hz⟩ := I5.list hx
  have hlen := r.length
  rw [List.length_append] at hlen
  have hl2 : its.length = xs.length + 2 := hlen.symm
  show wpAny (model X.prog X.w) X.A (subscriptTail e (.Slice none (some (.UnaryOp .USub (.Constant (.int 3) k2 p4) p5)) (some (.UnaryOp .USub (.Constant (.int 1) k p1) p2)) p3) (.ref a) (.ref s4.heap.objs.size)) (EP X pins σ Q) X.xe { s4 with heap := s4.heap.push { cls := .type "slice", data := .fields #[vl, vu, vs] } }
  refine tail_any (ops := [.ref a, .ref s4.heap.objs.size]) ht.isList.typeIs (PySem.slot_list_getitem.lookup) ?_ (by with_unfolding_all rfl)
  refine wpAny_getItem_list_slice ht.isList (Heap.IsSliceOf.new _ vl vu vs) pl pu ps (by decide) ?_ (by rw [List.size_toArray]; rw [List.length_append] at hz; omega)
  obtain ⟨w1, hw1, rw1⟩ := r.get (i := xs.length + 1) (x := v1) (by rw [List.getElem?_append_right (by omega), show xs.length + 1 - xs.length = 1 by omega]; rfl)
  obtain ⟨w2, hw2, rw2⟩ := r.get (i := xs.length) (x := u1) (by rw [List.getElem?_append_right (by omega), Nat.sub_self]; rfl)
  rw [pick2 its xs.length w1 w2 hl2 hw1 hw2]
  refine ⟨.ref _, _, I5.laid (t' := s4.toks) (o := .lst [v1, u1]) (fun b ob q => Heap.get?_push_of_some _ q) (Nat.le_refl _) ?_, rfl, q _ (I5.hok.fresh (Nat.le_refl _))⟩
  exact ⟨by show 2 ≤ sizeLine; decide, _, 0, .cons rw1 (.cons rw2 .nil), Heap.get?_push_size _ rfl⟩
end
/-! ### deeds -/
theorem DS.step_deeds (s : DS) (p : Nat) : (s.step p).deeds = s.deeds ++ [⟨true, p, .str (DS.kindOf (s.stg p))⟩] := by
  have h4 := DS.stg_lt s p
  rcases (show s.stg p = 0 ∨ s.stg p = 1 ∨ s.stg p = 2 ∨ s.stg p = 3 by omega) with e | e | e | e
  · rw [DS.step0 e, e]; rfl
  · rw [DS.step1 e, e]; rfl
  · rw [DS.step2 e, e]; rfl
  · rw [DS.step3 e, e]; split <;> rfl
structure DS.DOk (s : DS) : Prop where
  hok : ∀ q x, s.hd q = some x → ∃ r, s.cm r = some x
  dcm : ∀ d ∈ s.deeds, d.stp = false → s.cm d.p = some d.x
  dst : ∀ d ∈ s.deeds, d.stp = true → ∃ k, k ≤ 3 ∧ d.x = .str (DS.kindOf k)
  dp : ∀ d ∈ s.deeds, d.p < 5
theorem DS.DOk.new (n : Nat) : (DS.new n).DOk := ⟨fun q x h => (by rw [DS.hd_new] at h; cases h), fun d h => absurd h (by simp [DS.new]), fun d h => absurd h (by simp [DS.new]), fun d h => absurd h (by simp [DS.new])⟩
theorem DS.DOk.come {s : DS} {p : Nat} {v : V} (h : s.DOk) (W : s.WF) (hp : p < s.lev.length) (hc : s.cm p = none) : (s.come p v).DOk := by
  have keep : ∀ r x, s.cm r = some x → (s.come p v).cm r = some x := fun r x hr => by
    rw [DS.cm_come, if_neg]
    · exact hr
    · rintro ⟨z, _⟩; rw [← z, hc] at hr; cases hr
  have e : (s.come p v).deeds = s.deeds ++ [⟨false, p, v⟩] := rfl
  have h5 := W.n5
  refine ⟨fun q x hq => ?_, fun d hd hs => ?_, fun d hd hs => ?_, fun d hd => ?_⟩
  · rw [DS.hd_come] at hq
    obtain ⟨r, hr⟩ := h.hok q x hq
    exact ⟨r, keep r x hr⟩
  · rw [e] at hd
    rcases List.mem_append.mp hd with hd | hd
    · exact keep _ _ (h.dcm d hd hs)
    · rw [List.mem_singleton] at hd; subst hd
      rw [DS.cm_come, if_pos ⟨rfl, by rw [W.lc]; exact hp⟩]
  · rw [e] at hd
    rcases List.mem_append.mp hd with hd | hd
    · exact h.dst d hd hs
    · rw [List.mem_singleton] at hd; subst hd; cases hs
  · rw [e] at hd
    rcases List.mem_append.mp hd with hd | hd
    · exact h.dp d hd
    · rw [List.mem_singleton] at hd; subst hd; show p < 5; omega
theorem DS.DOk.step {s : DS} {p : Nat} (h : s.DOk) (W : s.WF) (hc : s.cm p ≠ none) : (s.step p).DOk := by
  have hp := DS.lt_of_cm W hc
  have h5 := W.n5
  refine ⟨fun q x hq => ?_, fun d hd hs => ?_, fun d hd hs => ?_, fun d hd => ?_⟩
  · rw [DS.hd_step W hc] at hq
    split at hq
    · exact ⟨s.two, by rw [DS.cm_step]; exact hq⟩
    · obtain ⟨r, hr⟩ := h.hok q x hq
      exact ⟨r, by rw [DS.cm_step]; exact hr⟩
  · rw [DS.step_deeds] at hd
    rw [DS.cm_step]
    rcases List.mem_append.mp hd with hd | hd
    · exact h.dcm d hd hs
    · rw [List.mem_singleton] at hd; subst hd; cases hs
  · rw [DS.step_deeds] at hd
    rcases List.mem_append.mp hd with hd | hd
    · exact h.dst d hd hs
    · rw [List.mem_singleton] at hd; subst hd; exact ⟨_, DS.stg_lt s p, rfl⟩
  · rw [DS.step_deeds] at hd
    rcases List.mem_append.mp hd with hd | hd
    · exact h.dp d hd
    · rw [List.mem_singleton] at hd; subst hd; show p < 5; omega
theorem kind_cases {k : Nat} (h : k ≤ 3) : DS.kindOf k = "level" ∨ DS.kindOf k = "look" ∨ DS.kindOf k = "ask" := by
  rcases (show k = 0 ∨ k = 1 ∨ k = 2 ∨ k = 3 by omega) with e | e | e | e <;> subst e
  · exact .inl rfl
  · exact .inr (.inl rfl)
  · exact .inl rfl
  · exact .inr (.inr rfl)
theorem sm_kind {k : Nat} (h : k ≤ 3) : Sm 1 10 (.str (DS.kindOf k)) := by
  rcases kind_cases h with e | e | e <;> rw [e] <;> exact sm_word _ (by decide +kernel)
/-- a deed as data -/
def DD (d : Deed) (pd : PyData) : Prop := ∃ w x, pd = .tuple [.str w, .int (d.p : Nat), x]
theorem deeds_data {H : Hp} : ∀ ds : List Deed, (∀ d ∈ ds, (d.stp = false → Good H d.x) ∧ (d.stp = true → ∃ k, k ≤ 3 ∧ d.x = .str (DS.kindOf k)) ∧ d.p < 5) →
    ∃ pds : List PyData, (∀ (K : PySem.W.Frag) (H' : Hp) (dv : List V), TK H H' → Paired (DeedAt H') dv ds → DpAll K H' dv pds) ∧ (∀ d ∈ pds, Sm 5 70 d) ∧ Paired DD ds pds
  | [], _ => ⟨[], fun K H' dv g P => by cases P; exact .nil, fun d h => absurd h (by simp), .nil⟩
  | d :: ds, h => by
    obtain ⟨pds, h1, h2, h3⟩ := deeds_data ds fun e he => h e (List.mem_cons_of_mem _ he)
    obtain ⟨g0, g1, g2⟩ := h d List.mem_cons_self
    have smp : Sm 1 0 (.int (d.p : Nat)) := Sm.int (by omega) (by omega)
    cases hs : d.stp with
    | false =>
      obtain ⟨dx, vx, ox⟩ := g0 hs
      refine ⟨.tuple [.str "come", .int (d.p : Nat), dx] :: pds, fun K H' dv g P => ?_, fun e he => ?_, .cons ⟨_, _, rfl⟩ h3⟩
      · cases P with
        | cons a r =>
          obtain ⟨q, rfl, hq⟩ := a
          rw [hs] at hq
          exact .cons (.tup (.of hq) (.cons (.str _) (.cons (.int _) (.cons (vx.mono g).dp .nil)))) (h1 K H' _ g r)
      · rcases List.mem_cons.mp he with e' | e'
        · rw [e']
          exact (Sms.tup (.cons ((sm_word "come" (by decide +kernel)).mono (by decide : 1 ≤ 4) (Nat.le_refl 10)) (.cons (smp.mono (by decide) (Nat.le_refl 0)) (.cons ox.sm (Sms.nil (n := 0)))))).mono (by decide) (by decide)
        · exact h2 e e'
    | true =>
      obtain ⟨k, hk, ex⟩ := g1 hs
      refine ⟨.tuple [.str "step", .int (d.p : Nat), .str (DS.kindOf k)] :: pds, fun K H' dv g P => ?_, fun e he => ?_, .cons ⟨_, _, rfl⟩ h3⟩
      · cases P with
        | cons a r =>
          obtain ⟨q, rfl, hq⟩ := a
          rw [hs, ex] at hq
          exact .cons (.tup (.of hq) (.cons (.str _) (.cons (.int _) (.cons (.str _) .nil)))) (h1 K H' _ g r)
      · rcases List.mem_cons.mp he with e' | e'
        · rw [e']
          exact (Sms.tup (.cons ((sm_word "step" (by decide +kernel)).mono (by decide : 1 ≤ 4) (Nat.le_refl 10)) (.cons (smp.mono (by decide) (Nat.le_refl 0)) (.cons ((sm_kind hk).mono (by decide) (Nat.le_refl 10)) (Sms.nil (n := 0)))))).mono (by decide) (by decide)
        · exact h2 e e'
theorem eqv_players : ∀ {ds es : List Deed} {pd pe : List PyData}, Paired DD ds pd → Paired DD es pe → PyData.eqvAll pd pe = true → ds.map Deed.p = es.map Deed.p
  | _, _, _, _, .nil, .nil, _ => rfl
  | _, _, _, _, .nil, .cons _ _, h => by simp [PyData.eqvAll] at h
  | _, _, _, _, .cons _ _, .nil, h => by simp [PyData.eqvAll] at h
  | _, _, _, _, .cons a r, .cons b t, h => by
    obtain ⟨w, x, rfl⟩ := a
    obtain ⟨w', x', rfl⟩ := b
    rw [PyData.eqvAll, Bool.and_eq_true] at h
    have h1 := h.1
    simp only [PyData.eqv, PyData.eqvAll, Bool.and_eq_true] at h1
    have h2 := h1.2.1
    rw [List.map_cons, List.map_cons, eqv_players r t h.2]
    congr 1
    simp at h2
    omega
theorem DS.DOk.deeds {C : Addr} {H : Hp} {d : Addr} {s : DS} (h : s.DOk) (D : DoorAt C H d s) : ∀ x ∈ s.deeds, (x.stp = false → Good H x.x) ∧ (x.stp = true → ∃ k, k ≤ 3 ∧ x.x = .str (DS.kindOf k)) ∧ x.p < 5 := by
  intro x hx
  obtain ⟨dx', a, b, c, e, f, cv', hv', sv', dv', DD⟩ := D
  exact ⟨fun z => DD.good _ _ (h.dcm x hx z), h.dst x hx, h.dp x hx⟩
/-! ### (VALUE,) or None, as data -/
theorem opt_data {H : Hp} : ∀ m : List (Option V), (∀ x, some x ∈ m → Good H x) → ∃ ds : List PyData, (∀ (K : PySem.W.Frag) (H' : Hp) (cv : List V), TK H H' → Paired (One H') cv m → DpAll K H' cv ds) ∧ (∀ d ∈ ds, Sm 5 60 d) ∧ ds.length = m.length
  | [], _ => ⟨[], fun K H' cv g P => by cases P; exact .nil, fun d h => absurd h (by simp), rfl⟩
  | o :: m, h => by
    obtain ⟨ds, h1, h2, h3⟩ := opt_data m fun x hx => h x (List.mem_cons_of_mem _ hx)
    cases o with
    | none =>
      refine ⟨.none :: ds, fun K H' cv g P => ?_, fun d hd => ?_, by simp [h3]⟩
      · cases P with
        | cons a r => rw [show _ = V.non from a]; exact .cons .non (h1 K H' _ g r)
      · rcases List.mem_cons.mp hd with e | e
        · rw [e]; exact Sm.non.mono (by decide) (by decide)
        · exact h2 d e
    | some v =>
      obtain ⟨dv, vv, ov⟩ := h v List.mem_cons_self
      refine ⟨.tuple [dv] :: ds, fun K H' cv g P => ?_, fun d hd => ?_, by simp [h3]⟩
      · cases P with
        | cons a r => obtain ⟨q, rfl, hq⟩ := a; exact .cons (word_dp vv g hq) (h1 K H' _ g r)
      · rcases List.mem_cons.mp hd with e | e
        · rw [e]; exact word_data ov
        · exact h2 d e
/-! ### shown texts -/
theorem str_ext {a b : Str} (h : a.cps.toList = b.cps.toList) : a = b := by
  cases a; cases b; congr 1; exact Array.ext' h
theorem cpl (a b : Str) : (a ++ b).cps.toList = a.cps.toList ++ b.cps.toList := by rw [Str.cps_append]; simp
theorem textFrom_app : ∀ (as bs : List Str) (k : Nat) (acc : Str), textFrom k acc (as ++ bs) = textFrom (k + as.length) (textFrom k acc as) bs
  | [], bs, k, acc => rfl
  | a :: as, bs, k, acc => by
    show textFrom (k + 1) _ (as ++ bs) = _
    rw [textFrom_app as bs, List.length_cons, show k + 1 + as.length = k + (as.length + 1) by omega]
    rfl
def digit (p : Nat) : Nat := 48 + p
theorem int_text : ∀ p : Nat, p < 5 → (toString (p : Int) : Str).cps.toList = [digit p] := by decide +kernel
theorem pair_text {p : Nat} (hp : p < 5) (c : PyData) : ∃ r, (PyData.shown (.tuple [.int (p : Nat), c])).cps.toList = 40 :: digit p :: r := by
  refine ⟨?r, ?_⟩
  rotate_left
  · simp only [PyData.shown, PyData.shownAll, tupleText, Str.join, List.length_cons, List.length_nil]
    rw [cpl, cpl, cpl, cpl, int_text p hp]
    show [40] ++ ([digit p] ++ _ ++ _) ++ _ = _
    simp only [List.cons_append, List.nil_append, List.append_assoc]
    rfl
theorem shown_list (xs : List PyData) : PyData.shown (.list xs) = listText (PyData.shownAll xs) := by rw [PyData.shown]
theorem shownAll_app : ∀ xs ys : List PyData, PyData.shownAll (xs ++ ys) = PyData.shownAll xs ++ PyData.shownAll ys
  | [], ys => by simp [PyData.shownAll]
  | x :: xs, ys => by simp [PyData.shownAll, shownAll_app xs ys]
theorem textFrom2 (k : Nat) (acc a b : Str) : ∃ z, (textFrom k acc [a, b]).cps.toList = acc.cps.toList ++ (if k > 0 then [44, 32] else []) ++ a.cps.toList ++ z := by
  refine ⟨?z, ?_⟩
  rotate_left
  · show ((acc ++ _ ++ a) ++ _ ++ b).cps.toList = _
    rw [cpl, cpl, cpl, cpl]
    have : ((if k > 0 then ", " else "" : String) : Str).cps.toList = (if k > 0 then [44, 32] else []) := by split <;> decide +kernel
    rw [this, List.append_assoc]
/-- two lists of pairs that begin alike, and go on by other players -/
theorem shown_other {xs : List PyData} {p q : Nat} {c d : PyData} (hp : p < 5) (hq : q < 5) (h : p ≠ q) :
    PyData.shown (.list (xs ++ [.tuple [.int (p : Nat), c], .tuple [.int (q : Nat), d]])) ≠ PyData.shown (.list (xs ++ [.tuple [.int (q : Nat), d], .tuple [.int (p : Nat), c]])) := by
  intro e
  rw [shown_list, shown_list, shownAll_app, shownAll_app] at e
  unfold listText at e
  rw [textFrom_app, textFrom_app] at e
  have e2 := congrArg (fun z : Str => z.cps.toList) e
  simp only [cpl] at e2
  obtain ⟨z1, h1⟩ := textFrom2 (0 + (PyData.shownAll xs).length) (textFrom 0 "[" (PyData.shownAll xs)) (PyData.shown (.tuple [.int (p : Nat), c])) (PyData.shown (.tuple [.int (q : Nat), d]))
  obtain ⟨z2, h2⟩ := textFrom2 (0 + (PyData.shownAll xs).length) (textFrom 0 "[" (PyData.shownAll xs)) (PyData.shown (.tuple [.int (q : Nat), d])) (PyData.shown (.tuple [.int (p : Nat), c]))
  obtain ⟨r1, g1⟩ := pair_text hp c
  obtain ⟨r2, g2⟩ := pair_text hq d
  have s1 : PyData.shownAll [.tuple [.int (p : Nat), c], .tuple [.int (q : Nat), d]] = [PyData.shown (.tuple [.int (p : Nat), c]), PyData.shown (.tuple [.int (q : Nat), d])] := by simp [PyData.shownAll]
  have s2 : PyData.shownAll [.tuple [.int (q : Nat), d], .tuple [.int (p : Nat), c]] = [PyData.shown (.tuple [.int (q : Nat), d]), PyData.shown (.tuple [.int (p : Nat), c])] := by simp [PyData.shownAll]
  rw [s1, s2, h1, h2, g1, g2] at e2
  simp only [List.append_assoc] at e2
  have e3 := List.append_cancel_left (List.append_cancel_left e2)
  simp only [List.cons_append, List.cons.injEq, true_and] at e3
  have := e3.1
  unfold digit at this
  omega
theorem pr_imp' {α β : Type} {F G : α → β → Prop} : ∀ {l : List α} {m : List β}, Paired F l m → (∀ n ∈ l, ∀ y, F n y → G n y) → Paired G l m
  | _, _, .nil, _ => .nil
  | _, _, .cons a r, h => .cons (h _ List.mem_cons_self _ a) (pr_imp' r fun n hn => h n (List.mem_cons_of_mem _ hn))
def rListOf (K : PySem.W.Frag) : List V → Hp → VK → Prop := fun xs H Q => ∃ p ys, xs = [.ref p] ∧ (SqL K H p ys ∨ SqT K H p ys) ∧ ∀ l, H l = none → Q (.ref l) (upd H l (.lst ys))
theorem call_list_ofK {X : Cx} {K : PySem.W.Frag} (e : X.K = K := by rfl) : CallR X (.type "list") (rListOf K) := by subst e; exact call_list_of
/-! ### promises -/
def spCopy (C : Addr) : Sp := fun vs H Q _ => ∃ (d : Addr) (s : DS), vs = [.ref d] ∧ DoorAt C H d s ∧ ∀ e H', Same H H' → H e = none → DoorAt C H' e s → Q (.ref e) H'
def spDEq (C : Addr) : Sp := fun vs H Q _ => ∃ (d : Addr) (s : DS) (y : V), vs = [.ref d, y] ∧ DoorAt C H d s ∧ s.DOk ∧
  ((∃ e t, y = .ref e ∧ DoorAt C H e t ∧ t.DOk ∧ t.lev.length = s.lev.length ∧ ∀ b, (t.deeds = s.deeds → b = true) → (s.deeds.map Deed.p ≠ t.deeds.map Deed.p → b = false) → Q (.bl b) H) ∨ (∃ o kvs, y = .ref o ∧ H o = some (.dK kvs) ∧ Q (.bl false) H))
def spONext : Sp := fun vs H Q _ => ∃ (o : Addr) (L : List Addr) (p : Nat) (s : DS) (k : Int), vs = [.ref o, .int p] ∧ OwnAt H o L s k ∧ s.WF ∧ p < s.lev.length ∧ ∀ H', Same H H' → Q (optS (s.next p)) H'
def spOCopy : Sp := fun vs H Q _ => ∃ (o : Addr) (L : List Addr) (s : DS) (k : Int), vs = [.ref o] ∧ OwnAt H o L s k ∧ ∀ o' L' H', Same H H' → (∀ x ∈ L', H x = none) → OwnAt H' o' L' s k → Q (.ref o') H'
def spIsDoor (C : Addr) : Sp := fun vs H Q _ => ∃ (d o : Addr) (L : List Addr) (s : DS), vs = [.ref d, .ref o] ∧ DoorAt C H d s ∧ OwnAt H o L s (s.stps : Nat) ∧ s.DOk ∧ s.deeds.length < 100000 ∧ ∀ H', Same H H' → Q (.bl true) H'
/-! ### what was done -/
abbrev Done := Nat × Option V
def DoneAt (H : Hp) (x : V) (e : Done) : Prop := ∃ t c, x = .ref t ∧ H t = some (.tup [.int (e.1 : Nat), c]) ∧ e.1 < 5 ∧ match e.2 with
  | none => c = .non
  | some v => ∃ q, c = .ref q ∧ H q = some (.tup [v]) ∧ Good H v
theorem DoneAt.mono {H H' : Hp} (g : TK H H') {x : V} {e : Done} (h : DoneAt H x e) : DoneAt H' x e := by
  obtain ⟨p, o⟩ := e
  obtain ⟨t, c, h1, h2, h3, h4⟩ := h
  refine ⟨t, c, h1, g.t h2, h3, ?_⟩
  cases o with
  | none => exact h4
  | some v => obtain ⟨q, a, b, d⟩ := h4; exact ⟨q, a, g.t b, d.mono g⟩
def DS.does (s : DS) (e : Done) : DS := match e.2 with
  | none => s.step e.1
  | some v => s.come e.1 v
def DS.let_ (s : DS) (e : Done) : Prop := match e.2 with
  | none => s.cm e.1 ≠ none
  | some _ => s.cm e.1 = none ∧ e.1 < s.lev.length
def DS.run (s : DS) (l : List Done) : DS := l.foldl DS.does s
inductive Leg : DS → List Done → Prop
  | nil {s} : Leg s []
  | cons {s e l} : s.let_ e → Leg (s.does e) l → Leg s (e :: l)
section
variable {s : DS} {e f : Done} {l m : List Done}
theorem Leg.snoc : ∀ {l : List Done} {s : DS}, Leg s l → (s.run l).let_ e → Leg s (l ++ [e])
  | [], _, _, h => .cons h .nil
  | _ :: _, _, .cons a r, h => .cons a (Leg.snoc r h)
theorem Leg.take : ∀ {l m : List Done} {s : DS}, Leg s (l ++ m) → Leg s l ∧ Leg (s.run l) m
  | [], _, _, h => ⟨.nil, h⟩
  | _ :: _, _, _, .cons a r => ⟨.cons a (Leg.take r).1, (Leg.take r).2⟩
theorem Leg.app : ∀ {l m : List Done} {s : DS}, Leg s l → Leg (s.run l) m → Leg s (l ++ m)
  | [], _, _, _, h => h
  | _ :: _, _, _, .cons a r, h => .cons a (Leg.app r h)
theorem run_app : s.run (l ++ m) = (s.run l).run m := List.foldl_append
theorem len_does : (s.does e).lev.length = s.lev.length := by
  obtain ⟨p, o⟩ := e
  cases o with
  | none => exact DS.len_step
  | some v => rfl
theorem len_run : ∀ {l : List Done} {s : DS}, (s.run l).lev.length = s.lev.length
  | [], _ => rfl
  | e :: l, s => (len_run (l := l) (s := s.does e)).trans len_does
theorem WF_does (W : s.WF) (h : s.let_ e) : (s.does e).WF := by
  obtain ⟨p, o⟩ := e
  cases o with
  | none => exact W.step h
  | some v => exact W.come
theorem DOk_does (D : s.DOk) (W : s.WF) (h : s.let_ e) : (s.does e).DOk := by
  obtain ⟨p, o⟩ := e
  cases o with
  | none => exact D.step W h
  | some v => exact D.come W h.2 h.1
theorem both_run : ∀ {l : List Done} {s : DS}, Leg s l → s.WF → s.DOk → (s.run l).WF ∧ (s.run l).DOk
  | [], _, _, W, D => ⟨W, D⟩
  | _ :: _, _, .cons a r, W, D => by
    have h := both_run r (WF_does W a) (DOk_does D W a)
    exact h
theorem ps_does : (s.does e).deeds.map Deed.p = s.deeds.map Deed.p ++ [e.1] := by
  obtain ⟨p, o⟩ := e
  cases o with
  | none => show (s.step p).deeds.map Deed.p = _; rw [DS.step_deeds, List.map_append]; rfl
  | some v => show (s.come p v).deeds.map Deed.p = _; rw [show (s.come p v).deeds = s.deeds ++ [⟨false, p, v⟩] from rfl, List.map_append]; rfl
theorem ps_run : ∀ {l : List Done} {s : DS}, (s.run l).deeds.map Deed.p = s.deeds.map Deed.p ++ l.map Prod.fst
  | [], s => by simp [DS.run]
  | e :: l, s => by
    show ((s.does e).run l).deeds.map Deed.p = _
    rw [ps_run, ps_does]; simp
theorem cm_does (W : s.WF) (h : s.let_ e) (q : Nat) (hq : q ≠ e.1) : (s.does e).cm q = s.cm q := by
  obtain ⟨p, o⟩ := e
  cases o with
  | none => exact DS.cm_step q
  | some v =>
    show (s.come p v).cm q = _
    rw [DS.cm_come, if_neg]
    rintro ⟨z, _⟩; exact hq z.symm
theorem let_swap (W : s.WF) (he : s.let_ e) (hf : (s.does e).let_ f) (n : f.1 ≠ e.1) : s.let_ f ∧ (s.does f).let_ e := by
  have a : s.let_ f := by
    obtain ⟨q, o⟩ := f
    cases o with
    | none => show s.cm q ≠ none; rw [← cm_does W he q n]; exact hf
    | some v => exact ⟨by rw [← cm_does W he q n]; exact hf.1, by rw [← len_does (s := s) (e := e)]; exact hf.2⟩
  refine ⟨a, ?_⟩
  obtain ⟨p, o⟩ := e
  cases o with
  | none => show (s.does f).cm p ≠ none; rw [cm_does W a p (Ne.symm n)]; exact he
  | some v => exact ⟨by rw [cm_does W a p (Ne.symm n)]; exact he.1, by rw [len_does]; exact he.2⟩
theorem len_deeds_run : (s.run l).deeds.length = s.deeds.length + l.length := by
  have := congrArg List.length (ps_run (l := l) (s := s))
  simpa using this
end
def spAgain (C : Addr) (K : PySem.W.Frag) : Sp := fun vs H Q _ => ∃ (n : Nat) (dl : Addr) (xs : List V) (l : List Done), vs = [.int n, .ref dl] ∧ 1 ≤ n ∧ n ≤ 5 ∧ H dl = some (.lst xs) ∧ Paired (DoneAt H) xs l ∧ Leg (DS.new n) l ∧ l.length < 1000 ∧
  ∀ d H', Same H H' → H d = none → DoorAt C H' d ((DS.new n).run l) → Q (.ref d) H'
def spLDeed (C : Addr) : Sp := fun vs H Q _ => ∃ (pt d o dl : Addr) (L : List Addr) (s : DS) (m : Nat) (xs : List V), vs = [.ref pt, .ref d, .ref o, .ref dl] ∧ PotAt H pt m ∧ m < 800000 ∧ DoorAt C H d s ∧ OwnAt H o L s (s.stps : Nat) ∧ H dl = some (.lst xs) ∧ xs.length < 1000 ∧ s.deeds.length < 1000 ∧
  pt ∉ L ∧ pt ≠ d ∧ pt ≠ dl ∧ dl ∉ L ∧ dl ≠ d ∧ d ∉ L ∧
  ∀ (e : Done) (x : V) H', But (pt :: d :: dl :: L) H H' → PotAt H' pt (m + 100) → s.let_ e → DoorAt C H' d (s.does e) → OwnAt H' o L (s.does e) ((s.does e).stps : Nat) → H' dl = some (.lst (xs ++ [x])) → DoneAt H' x e → Q (.bl true) H'
theorem stps_step {s : DS} {p : Nat} : (s.step p).stps = s.stps + 1 := by
  unfold DS.stps
  rw [DS.step_deeds, List.filter_append, List.length_append]; rfl
theorem stps_come {s : DS} {p : Nat} {v : V} : (s.come p v).stps = s.stps := by
  unfold DS.stps
  rw [show (s.come p v).deeds = s.deeds ++ [⟨false, p, v⟩] from rfl, List.filter_append, List.length_append]; rfl
end Fp
/-! A stair of levels in the heap; promises -/
namespace Fp
open PySem PySem.Spec PyProof.Rows L2
def lfl (n : Int) (a b r e : Addr) : List (Str × V) := [("many", .int n), ("levels", .ref a), ("views", .ref b), ("run", .ref r), ("looking", .ref e)]
structure LC (K : PySem.W.Frag) (C : Addr) : Prop where
  cl : Cls K C
  nM : NoAttr K C "many"
  nL : NoAttr K C "levels"
  nV : NoAttr K C "views"
  nR : NoAttr K C "run"
  nK : NoAttr K C "looking"
section
variable {n : Int} {a b r e a' b' r' e' : Addr}
theorem l_many : (lfl n a b r e).lookup ("many" : Str) = some (.int n) := by kernel_rfl
theorem l_lev : (lfl n a b r e).lookup ("levels" : Str) = some (.ref a) := by kernel_rfl
theorem l_vw : (lfl n a b r e).lookup ("views" : Str) = some (.ref b) := by kernel_rfl
theorem l_run : (lfl n a b r e).lookup ("run" : Str) = some (.ref r) := by kernel_rfl
theorem l_lk : (lfl n a b r e).lookup ("looking" : Str) = some (.ref e) := by kernel_rfl
theorem lp_lev : putF "levels" (.ref a') (lfl n a b r e) = lfl n a' b r e := by kernel_rfl
theorem lp_vw : putF "views" (.ref b') (lfl n a b r e) = lfl n a b' r e := by kernel_rfl
theorem lp_run : putF "run" (.ref r') (lfl n a b r e) = lfl n a b r' e := by kernel_rfl
theorem lp_lk : putF "looking" (.ref e') (lfl n a b r e) = lfl n a b r e' := by kernel_rfl
theorem l_all : putF "looking" (.ref e) (putF "run" (.ref r) (putF "views" (.ref b) (putF "levels" (.ref a) (putF "many" (.int n) [])))) = lfl n a b r e := by kernel_rfl
theorem l_copy : putF "looking" (.ref e) (putF "run" (.ref r) (putF "views" (.ref b) (putF "levels" (.ref a) (lfl n a' b' r' e')))) = lfl n a b r e := by kernel_rfl
theorem ln_next : (lfl n a b r e).lookup ("next" : Str) = none := by kernel_rfl
theorem ln_step : (lfl n a b r e).lookup ("step" : Str) = none := by kernel_rfl
theorem ln_view : (lfl n a b r e).lookup ("view_from" : Str) = none := by kernel_rfl
theorem ln_copy : (lfl n a b r e).lookup ("copy" : Str) = none := by kernel_rfl
theorem ln_weave : (lfl n a b r e).lookup ("weave" : Str) = none := by kernel_rfl
end
def ViewAt (H : Hp) (x : V) : Option (List Nat) → Prop
  | none => x = .non
  | some l => ∃ p, x = .ref p ∧ TT H p (natV l)
theorem ViewAt.mono {H H' : Hp} (g : TK H H') {x : V} {o : Option (List Nat)} (h : ViewAt H x o) : ViewAt H' x o := by
  cases o with
  | none => exact h
  | some v => obtain ⟨p, e, q⟩ := h; exact ⟨p, e, g.tt q⟩
theorem ViewAt.is {H : Hp} {x : V} {o : Option (List Nat)} (h : ViewAt H x o) : decide (x = .non) = o.isNone := by
  cases o with
  | none => rw [show x = .non from h]; rfl
  | some v => obtain ⟨p, e, _⟩ := h; rw [e]; rfl
structure LvIn (K : PySem.W.Frag) (C : Addr) (H : Hp) (d : Addr) (s : LS) (dx a b r e : Addr) (vv rv : List V) : Prop where
  obj : H d = some (.ins C dx (lfl (s.n : Nat) a b r e))
  own : H dx = some (.own d)
  lev : TF H a (s.lev.map lvV)
  vw : TF H b vv
  vwP : Paired (ViewAt H) vv s.vw
  run : H r = some (.tup rv)
  runP : Paired (SD K H) rv s.run
  lk : TF H e (s.lk.map V.bl)
def LvAt (K : PySem.W.Frag) (C : Addr) (H : Hp) (d : Addr) (s : LS) : Prop := ∃ dx a b r e vv rv, LvIn K C H d s dx a b r e vv rv
section
variable {K : PySem.W.Frag} {C : Addr} {H H' : Hp} {d dx a b r e : Addr} {s : LS} {vv rv : List V} {S : List Addr}
theorem LvIn.mono (h : LvIn K C H d s dx a b r e vv rv) (g : TK H H') (g1 : ∀ o, H d = some o → H' d = some o) (g2 : H' dx = H dx) : LvIn K C H' d s dx a b r e vv rv :=
  ⟨g1 _ h.obj, by rw [g2]; exact h.own, g.f h.lev, g.f h.vw, pr_imp (fun _ _ => ViewAt.mono g) h.vwP, g.t h.run, SDs.mono h.runP g, g.f h.lk⟩
theorem LvIn.same (h : LvIn K C H d s dx a b r e vv rv) (g : Same H H') : LvIn K C H' d s dx a b r e vv rv := h.mono (.of g) (fun o q => g _ _ q) (by rw [g _ _ h.own]; exact h.own.symm)
theorem LvAt.same (h : LvAt K C H d s) (g : Same H H') : LvAt K C H' d s := by
  obtain ⟨dx, a, b, r, e, vv, rv, h⟩ := h
  exact ⟨dx, a, b, r, e, vv, rv, h.same g⟩
theorem LvAt.off (h : LvAt K C H d s) (g : But S H H') (tk : TK H H') (n : ∀ x ∈ S, x ≠ d ∧ H x ≠ some (.own d)) : LvAt K C H' d s := by
  obtain ⟨dx, a, b, r, e, vv, rv, h⟩ := h
  have nd : d ∉ S := fun m => (n d m).1 rfl
  have nx : dx ∉ S := fun m => (n dx m).2 h.own
  exact ⟨dx, a, b, r, e, vv, rv, h.mono tk (fun o q => g _ _ nd q) (by rw [g _ _ nx h.own]; exact h.own.symm)⟩
theorem LvAt.ob (h : LvAt K C H d s) : ∃ dx fs, H d = some (.ins C dx fs) ∧ fs.lookup ("next" : Str) = none ∧ fs.lookup ("step" : Str) = none ∧ fs.lookup ("copy" : Str) = none ∧ fs.lookup ("view_from" : Str) = none ∧ fs.lookup ("weave" : Str) = none := by
  obtain ⟨dx, a, b, r, e, vv, rv, h⟩ := h
  exact ⟨_, _, h.obj, ln_next, ln_step, ln_copy, ln_view, ln_weave⟩
theorem LvAt.tk (h : LvAt K C H d s) (g : But [d] H H') : TK H H' := TK.but g fun a ha z => by
  obtain ⟨dx, fs, e, _⟩ := h.ob
  rw [List.mem_singleton.mp ha, e] at z
  exact z
end
def DueAt (H : Hp) (y : V) : Option Due → Prop
  | none => y = .non
  | some (.wr l) => ∃ t, y = .ref t ∧ H t = some (.tup [.str "write", .int l])
  | some .look => ∃ t, y = .ref t ∧ H t = some (.tup [.str "look"])
def spChkMany : Sp := fun vs H Q _ => ∃ n : Nat, vs = [.int n] ∧ 1 ≤ n ∧ n ≤ 5 ∧ Q .non H
def spLInit (K : PySem.W.Frag) (C : Addr) : Sp := fun vs H Q _ => ∃ (d dx : Addr) (n : Nat), vs = [.ref d, .int n] ∧ 1 ≤ n ∧ n ≤ 5 ∧ H d = some (.ins C dx []) ∧ H dx = some (.own d) ∧ ∀ H', But [d] H H' → LvAt K C H' d (LS.new n) → Q .non H'
def spLNext (K : PySem.W.Frag) (C : Addr) : Sp := fun vs H Q _ => ∃ (d : Addr) (p : Nat) (s : LS), vs = [.ref d, .int p] ∧ LvAt K C H d s ∧ s.WF ∧ p < s.n ∧ ∀ y H', Same H H' → DueAt H' y (s.next p) → Q y H'
def spLView (K : PySem.W.Frag) (C : Addr) : Sp := fun vs H Q _ => ∃ (d : Addr) (p : Nat) (s : LS), vs = [.ref d, .int p] ∧ LvAt K C H d s ∧ s.WF ∧ p < s.n ∧ s.lv p ≠ none ∧ ∀ y H', Same H H' → ViewAt H' y (s.seen p) → Q y H'
def spLStep (K : PySem.W.Frag) (C : Addr) : Sp := fun vs H Q _ => ∃ (d : Addr) (p : Nat) (s : LS), vs = [.ref d, .int p] ∧ LvAt K C H d s ∧ s.WF ∧ p < s.n ∧ s.next p ≠ none ∧ s.run.length < 100000 ∧
  ∀ y dd H', But [d] H H' → LvAt K C H' d (s.step p) → (s.step p).run = s.run ++ [dd] → SD K H' y dd → Q y H'
def spLCopy (K : PySem.W.Frag) (C : Addr) : Sp := fun vs H Q _ => ∃ (d : Addr) (s : LS), vs = [.ref d] ∧ LvAt K C H d s ∧ s.WF ∧ ∀ e H', Same H H' → H e = none → LvAt K C H' e s → Q (.ref e) H'
/-! ### data -/
theorem sm_write {p : Nat} {l : Int} (hp : p < 5) (h1 : 1 ≤ l) (h5 : l ≤ 5) : Sm 4 60 (.tuple [.int (p : Nat), .str "write", .int l]) :=
  (Sms.tup (.cons (Sm.int (i := (p : Nat)) (by omega) (by omega)) (.cons ((sm_word "write" (by decide +kernel)).mono (Nat.le_refl 1) (Nat.le_refl 10)) (.cons (Sm.int (i := l) (by omega) (by omega)) (Sms.nil (n := 0)))))).mono (by decide) (by decide)
theorem sm_look {p : Nat} {l : List Lv} (hp : p < 5) (hl : l.length ≤ 5) (h : ∀ x, some x ∈ l → 1 ≤ x ∧ x ≤ 5) : Sm 4 60 (.tuple [.int (p : Nat), .str "look", .tuple (l.map lvD)]) := by
  have sl : Sms 1 5 (l.map lvD) := by
    refine (Sms.all (k := 1) (n := 0) fun d hd => ?_).mono (Nat.le_refl _) (by rw [List.length_map]; omega)
    obtain ⟨x, hx, rfl⟩ := List.mem_map.mp hd
    cases x with
    | none => exact Sm.non
    | some i => have := h i hx; exact Sm.int (by omega) (by omega)
  exact (Sms.tup (.cons ((Sm.int (i := (p : Nat)) (by omega) (by omega)).mono (by decide : 1 ≤ 2) (Nat.le_refl 0)) (.cons ((sm_word "look" (by decide +kernel)).mono (by decide : 1 ≤ 2) (Nat.le_refl 10)) (.cons sl.tup (Sms.nil (n := 0)))))).mono (by decide) (by decide)
def LS.ROk (s : LS) : Prop := ∀ d ∈ s.run, Sm 4 60 d
theorem LS.ROk.new (n : Nat) : (LS.new n).ROk := fun d h => absurd h (by simp [LS.new])
theorem LS.WF.levs {s : LS} (W : s.WF) : s.lev.length ≤ 5 ∧ ∀ x, some x ∈ s.lev → 1 ≤ x ∧ x ≤ 5 := ⟨W.n5, fun x hx => by
  obtain ⟨q, hq⟩ := mem_getD.mp hx
  have := W.rng q x hq
  have := W.n5
  omega⟩
theorem LS.step_run {s : LS} {p : Nat} (W : s.WF) (hp : p < s.n) (h : s.next p ≠ none) : ∃ dd, (s.step p).run = s.run ++ [dd] ∧ Sm 4 60 dd := by
  have n5 := W.n5
  have Ws := W.step hp
  unfold LS.step at Ws ⊢
  cases e : s.next p with
  | none => exact absurd e h
  | some du =>
    rw [e] at Ws
    cases du with
    | wr l =>
      have := Ws.rng p l (by show (s.wrote p l).lv p = some l; rw [LS.lv_wrote hp, if_pos rfl])
      rw [show LS.n (match some (Due.wr l) with | none => s | some (.wr l) => s.wrote p l | some .look => s.looked p) = s.n from LS.n_wrote] at this
      exact ⟨_, rfl, sm_write (by omega) this.1 (by omega)⟩
    | look => exact ⟨_, rfl, sm_look (by omega) W.levs.1 W.levs.2⟩
theorem LS.ROk.step {s : LS} {p : Nat} (R : s.ROk) (W : s.WF) (hp : p < s.n) (h : s.next p ≠ none) : (s.step p).ROk := by
  obtain ⟨dd, e, sm⟩ := LS.step_run W hp h
  intro d hd
  rw [e] at hd
  rcases List.mem_append.mp hd with z | z
  · exact R d z
  · rw [List.mem_singleton.mp z]; exact sm
/-- views as data -/
def vwD : Option (List Nat) → PyData
  | none => .none
  | some l => .tuple (l.map fun (p : Nat) => PyData.int (p : Int))
theorem vw_dp {K : PySem.W.Frag} {H : Hp} : ∀ {vv : List V} {m : List (Option (List Nat))}, Paired (ViewAt H) vv m → DpAll K H vv (m.map vwD)
  | _, _, .nil => .nil
  | _, _, .cons (b := o) a r => by
    cases o with
    | none => rw [show _ = V.non from a]; exact .cons .non (vw_dp r)
    | some l => obtain ⟨p, rfl, q⟩ := a; exact .cons (.tup q.sq (natV_dp l)) (vw_dp r)
theorem vw_sm {s : LS} (W : s.WF) : ∀ d ∈ s.vw.map vwD, Sm 2 5 d := by
  intro d hd
  obtain ⟨o, ho, rfl⟩ := List.mem_map.mp hd
  have n5 := W.n5
  cases o with
  | none => exact Sm.non.mono (by decide) (by decide)
  | some v =>
    obtain ⟨q, hq⟩ := mem_getD.mp ho
    obtain ⟨l, h1, h2, h3⟩ := W.vil q v hq
    have := W.rng q _ h1
    rw [h2]
    refine natV_sm (fun p hp => ?_) (by omega)
    have := (LS.mem_below.mp hp).1
    omega
end Fp
/-! o.m(k = v, ..); players by other numbers -/
namespace Fp
open PySem PySem.Spec PyProof.Rows L2
/-! ### methods called by keywords alone -/
def tMethKW (C : Addr) (m : Str) (n : Nat) (sp : Sp) (gV : List V → List V → List V) (E : XK) (ta : TE) (tk : TA) : TE := fun σ H Q => ta σ H fun x H1 => ∃ a dx fs, x = .ref a ∧ H1 a = some (.ins C dx fs) ∧ fs.lookup m = none ∧ tk σ H1 fun zs H2 => zs.length = n ∧ sp (gV [.ref a] zs) H2 Q E
structure MdK (P : Program) (w : World) (K : PySem.W.Frag) (mg : Str → Option Value) (base : Heap) (CX : CXT) (C : Addr) (m : Str) (k : Nat) (ps ks : List Str) (g : List Value → List Value → List Value) (gV : List V → List V → List V) (sp : Sp) : Prop where
  ex : ∃ (f : Addr) (fd : FuncData), Meth K C m f ∧ KBn K fd ps 1 ks g gV ∧ FnOk P w K mg base CX k f fd ps sp
section
variable {X : Cx} {k : Nat} {C : Addr} {ps ks : List Str} {sp : Sp} {m : Str} {pos apos : Pos} {o : Expr} {kws : List Keyword} {ta : TE} {tk : TA} {g : List Value → List Value → List Value} {gV : List V → List V → List V}
theorem pe_mdK {pl : Sem Bool} (he : PE X o ta) (c : Cls X.K C) (M : MdK X.prog X.w X.K X.mg X.base CX0 C m k ps ks g gV sp) (hr : Room k X.A) (hkw : PK X kws tk)
    (hall : (backToKw pos (keywordEach kws X.env)).all (·.1.isSome) = true := by rfl) (hks : (backToKw pos (keywordEach kws X.env)).filterMap (·.1) = ks := by rfl)
    (hpl : ((backTo pos (starEach [] X.env)).any (·.1) || (backToKw pos (keywordEach kws X.env)).any (·.1.isNone)) = false := by rfl)
    (ht : eval (.Call (.Attribute o m apos) [] kws pos) X.env = (do
      let ov ← eval o X.env
      standAt apos.atName
      let (f, first) ← holding [ov] (getMethod ov m pl)
      callWith pos f first (backTo pos (starEach [] X.env)) (backToKw pos (keywordEach kws X.env))) := by rfl) :
    PE X (.Call (.Attribute o m apos) [] kws pos) (tMethKW C m ks.length sp gV E0 ta tk) := by
  obtain ⟨f, fd, hm, hb, F⟩ := M.ex
  refine ⟨fun pins s σ H Q I h => ?_⟩
  refine PySem.W.methodCall_KW (pl := pl) (thn (he.run pins s σ H _ I h) fun u s1 ⟨x, H1, I1, rx, a, dx, fs, ex, ea, l, q⟩ => ?_) ht
  subst ex
  obtain rfl : u = Value.ref a := rx
  refine getmeth_ok I1 ea c hm l ?_
  refine PySem.W.callWith_KW0 (first := [.ref a]) (h₀ := X.base) I.ok.mod.kin hm.kp hall ?_ hpl
  refine thn (hkw.run pos pins s1 σ H1 _ I1 q) fun ws s2 ⟨zs, H2, I2, rz, l2, q2⟩ => ⟨I2.kIn, ?_⟩
  rw [hks]
  have r1 : Vals [V.ref a] [Value.ref a] := .cons rfl .nil
  have r2 := hb.rel r1 rz
  refine wpAny_call (codeAny_mono (F.run X.A X.stack s2 H2 ⟨[.ref a], ks.zip ws⟩ (g [.ref a] ws) (gV [.ref a] zs) Q E0 hr I2.env0 (hb.to s2 [.ref a] ws I2.kIn rfl (rz.length.symm.trans l2)) r2 q2) fun r s' hq => ?_)
  cases r with
  | error e => exact pass0 pins σ H2 s2 e s' I2 hq
  | ok fl =>
    cases fl with
    | ret u => exact I2.after hq
    | next => exact False.elim hq
    | brk => exact False.elim hq
    | cont => exact False.elim hq
end
/-! ### rows by other numbers -/
structure Nu (nu : List Nat) : Prop where
  lt : ∀ q ∈ nu, q < 5
  up : nu.Pairwise (· < ·)
def ledF {β : Type} : List β → List Nat → List β → List β
  | x :: xs, q :: nu, acc => ledF xs nu (acc.set q x)
  | _, _, acc => acc
def ledL {α : Type} (nu : List Nat) (xs : List (Option α)) : List (Option α) := ledF xs nu (List.replicate 5 none)
theorem led_snoc {β : Type} {x : β} {q : Nat} : ∀ {xs : List β} {nu : List Nat} {acc : List β}, nu[xs.length]? = some q → ledF (xs ++ [x]) nu acc = (ledF xs nu acc).set q x
  | [], [], acc, h => by cases h
  | [], r :: nu, acc, h => by cases h; cases nu <;> rfl
  | y :: ys, [], acc, h => by cases h
  | y :: ys, r :: nu, acc, h => by
    show ledF (ys ++ [x]) nu (acc.set r y) = (ledF ys nu (acc.set r y)).set q x
    exact led_snoc (by simpa using h)
theorem led_len {β : Type} : ∀ (xs : List β) (nu : List Nat) (acc : List β), (ledF xs nu acc).length = acc.length
  | [], nu, acc => by cases nu <;> rfl
  | x :: xs, [], acc => rfl
  | x :: xs, q :: nu, acc => by show (ledF xs nu _).length = _; rw [led_len xs nu]; simp
theorem led_map {β γ : Type} (f : β → γ) : ∀ (xs : List β) (nu : List Nat) (acc : List β), (ledF xs nu acc).map f = ledF (xs.map f) nu (acc.map f)
  | [], nu, acc => by cases nu <;> rfl
  | x :: xs, [], acc => rfl
  | x :: xs, q :: nu, acc => by
    show (ledF xs nu _).map f = ledF (xs.map f) nu ((acc.map f).set q (f x))
    rw [led_map f xs nu, List.map_set]
theorem led_pair {β γ : Type} {F : β → γ → Prop} : ∀ {xs : List β} {ys : List γ} {nu : List Nat} {acc : List β} {bcc : List γ}, Paired F xs ys → Paired F acc bcc → Paired F (ledF xs nu acc) (ledF ys nu bcc)
  | _, _, nu, _, _, .nil, h => by cases nu <;> exact h
  | _, _, [], _, _, .cons _ _, h => h
  | _, _, q :: nu, _, _, .cons a r, h => led_pair (nu := nu) r (pr_set a q h)
theorem ledL_len {α : Type} {nu : List Nat} {xs : List (Option α)} : (ledL nu xs).length = 5 := by unfold ledL; rw [led_len]; simp
section
variable {nu : List Nat}
theorem Nu.inj (N : Nu nu) {p p' q : Nat} (h : nu[p]? = some q) (h' : nu[p']? = some q) : p = p' := by
  have a := List.getElem?_eq_some_iff.mp h
  have b := List.getElem?_eq_some_iff.mp h'
  obtain ⟨a1, a2⟩ := a
  obtain ⟨b1, b2⟩ := b
  have up := List.pairwise_iff_getElem.mp N.up
  rcases Nat.lt_trichotomy p p' with h | h | h
  · have := up p p' a1 b1 h; omega
  · exact h
  · have := up p' p b1 a1 h; omega
theorem Nu.mono (N : Nu nu) {p p' q q' : Nat} (h : nu[p]? = some q) (h' : nu[p']? = some q') : p < p' ↔ q < q' := by
  obtain ⟨a1, a2⟩ := List.getElem?_eq_some_iff.mp h
  obtain ⟨b1, b2⟩ := List.getElem?_eq_some_iff.mp h'
  have up := List.pairwise_iff_getElem.mp N.up
  constructor
  · intro z; have := up p p' a1 b1 z; omega
  · intro z
    rcases Nat.lt_trichotomy p p' with h | h | h
    · exact h
    · subst h; omega
    · have := up p' p b1 a1 h; omega
theorem Nu.five (N : Nu nu) {p q : Nat} (h : nu[p]? = some q) : q < 5 := N.lt q (List.mem_of_getElem? h)
theorem led_at {α : Type} (N : Nu nu) {xs : List (Option α)} (hl : xs.length = nu.length) : ∀ i, i ≤ xs.length → (∀ p q, p < i → nu[p]? = some q → (ledL nu (xs.take i)).getD q none = xs.getD p none) ∧ (∀ q, (∀ p, p < i → nu[p]? ≠ some q) → (ledL nu (xs.take i)).getD q none = none)
  | 0, _ => ⟨fun p q h => absurd h (by omega), fun q _ => by
    rw [List.take_zero]
    show (ledF [] nu (List.replicate 5 none)).getD q none = none
    have : ledF ([] : List (Option α)) nu (List.replicate 5 none) = List.replicate 5 none := by cases nu <;> rfl
    rw [this]; exact DS.rep_none 5 q⟩
  | i + 1, hi => by
    obtain ⟨h1, h2⟩ := led_at N hl i (by omega)
    have hx : xs[i]? = some xs[i] := List.getElem?_eq_getElem (by omega)
    obtain ⟨q0, hq0⟩ : ∃ q, nu[i]? = some q := ⟨nu[i], List.getElem?_eq_getElem (by omega)⟩
    have e : ledL nu (xs.take (i + 1)) = (ledL nu (xs.take i)).set q0 xs[i] := by
      rw [List.take_add_one, hx]
      exact led_snoc (by rw [List.length_take, Nat.min_eq_left (by omega)]; exact hq0)
    have q5 := N.five hq0
    rw [e]
    refine ⟨fun p q hp hq => ?_, fun q hq => ?_⟩
    · rw [getD_set, ledL_len]
      by_cases z : q0 = q
      · rw [if_pos ⟨z, q5⟩]
        subst z
        have := N.inj hq hq0
        subst this
        exact (getD_of hx).symm
      · rw [if_neg (fun w => z w.1)]
        refine h1 p q ?_ hq
        by_cases pi : p = i
        · subst pi; rw [hq0] at hq; exact absurd (Option.some.inj hq) z
        · omega
    · rw [getD_set, if_neg]
      · exact h2 q fun p hp => hq p (by omega)
      · rintro ⟨z, _⟩; exact hq i (by omega) (by rw [hq0, z])
theorem ledL_at {α : Type} (N : Nu nu) {xs : List (Option α)} (hl : xs.length = nu.length) {p q : Nat} (h : nu[p]? = some q) : (ledL nu xs).getD q none = xs.getD p none := by
  have := (led_at N hl xs.length (Nat.le_refl _)).1 p q (by rw [hl]; exact get_lt h) h
  rwa [List.take_length] at this
theorem ledL_off {α : Type} (N : Nu nu) {xs : List (Option α)} (hl : xs.length = nu.length) {q : Nat} (h : q ∉ nu) : (ledL nu xs).getD q none = none := by
  have := (led_at N hl xs.length (Nat.le_refl _)).2 q (fun p _ z => h (List.mem_of_getElem? z))
  rwa [List.take_length] at this
theorem mem_led {α : Type} (N : Nu nu) {xs : List (Option α)} (hl : xs.length = nu.length) (x : α) : some x ∈ ledL nu xs ↔ some x ∈ xs := by
  rw [mem_getD, mem_getD]
  constructor
  · rintro ⟨q, hq⟩
    by_cases z : q ∈ nu
    · obtain ⟨p, hp⟩ := List.getElem?_of_mem z
      exact ⟨p, by rw [← ledL_at N hl hp]; exact hq⟩
    · rw [ledL_off N hl z] at hq; cases hq
  · rintro ⟨p, hp⟩
    have hlt := (getD_none_of hp).1
    have : nu[p]? = some nu[p] := List.getElem?_eq_getElem (by omega)
    exact ⟨nu[p], by rw [ledL_at N hl this]; exact hp⟩
end
theorem ext_getD {α : Type} {l m : List (Option α)} (h : l.length = m.length) (e : ∀ q, l.getD q none = m.getD q none) : l = m := by
  refine List.ext_getElem? fun q => ?_
  by_cases hq : q < l.length
  · have := e q
    rw [getD_at hq, getD_at (by omega), this]
  · rw [List.getElem?_eq_none (by omega), List.getElem?_eq_none (by omega)]
theorem sorted_ext : ∀ {l m : List Nat}, l.Pairwise (· < ·) → m.Pairwise (· < ·) → (∀ x, x ∈ l ↔ x ∈ m) → l = m
  | [], [], _, _, _ => rfl
  | [], b :: m, _, _, h => absurd ((h b).mpr List.mem_cons_self) (by simp)
  | a :: l, [], _, _, h => absurd ((h a).mp List.mem_cons_self) (by simp)
  | a :: l, b :: m, hl, hm, h => by
    obtain ⟨a1, a2⟩ := List.pairwise_cons.mp hl
    obtain ⟨b1, b2⟩ := List.pairwise_cons.mp hm
    have eab : a = b := by
      rcases List.mem_cons.mp ((h a).mp List.mem_cons_self) with e | e
      · exact e
      · rcases List.mem_cons.mp ((h b).mpr List.mem_cons_self) with e' | e'
        · exact e'.symm
        · have := b1 a e; have := a1 b e'; omega
    subst eab
    congr 1
    refine sorted_ext a2 b2 fun x => ?_
    constructor
    · intro hx
      rcases List.mem_cons.mp ((h x).mp (List.mem_cons_of_mem _ hx)) with e | e
      · have := a1 x hx; omega
      · exact e
    · intro hx
      rcases List.mem_cons.mp ((h x).mpr (List.mem_cons_of_mem _ hx)) with e | e
      · have := b1 x hx; omega
      · exact e
/-! ### who can be told next -/
namespace DS
def cameL (s : DS) : List Nat := (List.range s.lev.length).filter fun p => (s.cm p).isSome
def readyL (s : DS) : List Nat := s.held.filter fun p => s.won p
def minN (a : Nat) (l : List Nat) : Nat := l.foldl min a
def wins (s : DS) : List Nat := if some 2 ∈ s.lev then [minN s.two s.readyL] else match s.readyL with
  | [] => s.cameL
  | r :: _ => (s.cameL.filter fun p => decide (p < r) && (s.sn p).isNone) ++ [r]
end DS
theorem minN_spec : ∀ (l : List Nat) (a : Nat), DS.minN a l ∈ a :: l ∧ ∀ x ∈ a :: l, DS.minN a l ≤ x
  | [], a => ⟨by simp [DS.minN], fun x hx => by rw [List.mem_singleton.mp hx]; exact Nat.le_refl _⟩
  | b :: l, a => by
    obtain ⟨h1, h2⟩ := minN_spec l (min a b)
    have e : DS.minN a (b :: l) = DS.minN (min a b) l := rfl
    rw [e]
    refine ⟨?_, fun x hx => ?_⟩
    · rcases List.mem_cons.mp h1 with z | z
      · rw [z]
        rcases Nat.le_total a b with w | w
        · rw [Nat.min_eq_left w]; simp
        · rw [Nat.min_eq_right w]; simp
      · simp [z]
    · have hm := h2 (min a b) List.mem_cons_self
      rcases List.mem_cons.mp hx with z | z
      · rw [z]; exact Nat.le_trans hm (Nat.min_le_left _ _)
      · rcases List.mem_cons.mp z with z | z
        · rw [z]; exact Nat.le_trans hm (Nat.min_le_right _ _)
        · exact h2 x (List.mem_cons_of_mem _ z)
theorem minN_of {a m : Nat} {l : List Nat} (h1 : m ∈ a :: l) (h2 : ∀ x ∈ a :: l, m ≤ x) : DS.minN a l = m := by
  obtain ⟨a1, a2⟩ := minN_spec l a
  exact Nat.le_antisymm (a2 m h1) (h2 _ a1)
def dedup (l : List Nat) : List Nat := l.foldl (fun acc x => if x ∈ acc then acc else acc ++ [x]) []
theorem dedup_snoc (l : List Nat) (x : Nat) : dedup (l ++ [x]) = if x ∈ dedup l then dedup l else dedup l ++ [x] := by
  unfold dedup; rw [List.foldl_append]; rfl
theorem take_last {l : List Nat} {n : Nat} (h : l.length = n + 1) : l = l.take n ++ [l[n]] := by
  conv => lhs; rw [← List.take_append_drop n l]
  congr 1
  rw [List.drop_eq_getElem_cons (by omega)]
  congr 1
  exact List.drop_eq_nil_of_le (by omega)
theorem dedup_len : ∀ (n : Nat) (l : List Nat), l.length = n → (dedup l).length ≤ n
  | 0, l, h => by rw [List.length_eq_zero_iff.mp h]; decide
  | n + 1, l, h => by
    have e := take_last h
    rw [e, dedup_snoc]
    have ih := dedup_len n (l.take n) (by rw [List.length_take]; omega)
    split
    · omega
    · rw [List.length_append]; show _ + 1 ≤ _; omega
theorem dedup_mem : ∀ (n : Nat) (l : List Nat), l.length = n → ∀ x ∈ dedup l, x ∈ l
  | 0, l, h => by rw [List.length_eq_zero_iff.mp h]; simp [dedup]
  | n + 1, l, h => by
    have e := take_last h
    rw [e, dedup_snoc]
    have ih := dedup_mem n (l.take n) (by rw [List.length_take]; omega)
    intro x hx
    split at hx
    · exact List.mem_append_left _ (ih x hx)
    · rcases List.mem_append.mp hx with z | z
      · exact List.mem_append_left _ (ih x z)
      · exact List.mem_append_right _ z
def spWinG (C : Addr) : Sp := fun vs H Q _ => ∃ (d : Addr) (s : DS), vs = [.ref d] ∧ DoorAt C H d s ∧ ∀ (l : Addr) H', Same H H' → H l = none → H' l = some (.lst (natV s.wins)) → Q (.ref l) H'
def spMayG (C : Addr) : Sp := fun vs H Q _ => ∃ (d : Addr) (s : DS) (cod : Nat → V) (dat : Nat → PyData) (cs : Nat → Nat), vs = [.ref d] ∧ DoorAt C H d s ∧ (∀ p v, s.cm p = some v → v = cod (cs p)) ∧ (∀ p, VAt H (cod (cs p)) (dat (cs p)) ∧ VOk 3 (dat (cs p))) ∧
  (∀ p q, PyData.eqv (dat (cs p)) (dat (cs q)) = decide (cs p = cs q)) ∧ ∀ t H', Same H H' → H' t = some (.tup ((dedup (s.wins.map cs)).map cod)) → Q (.ref t) H'
theorem wins_mem {s : DS} (W : s.WF) {p : Nat} (h : p ∈ s.wins) : p < s.lev.length ∧ s.cm p ≠ none := by
  have hheld : ∀ p ∈ s.held, p < s.lev.length ∧ s.lv p = some 1 := fun p hp => by
    have := List.mem_filter.mp hp
    exact ⟨List.mem_range.mp this.1, of_decide_eq_true this.2⟩
  have hr : ∀ p ∈ s.readyL, p < s.lev.length ∧ s.cm p ≠ none := fun p hp => by
    have := hheld p (List.mem_filter.mp hp).1
    exact ⟨this.1, W.cmv p (by rw [this.2]; simp)⟩
  have hc : ∀ p ∈ s.cameL, p < s.lev.length ∧ s.cm p ≠ none := fun p hp => by
    have := List.mem_filter.mp hp
    refine ⟨List.mem_range.mp this.1, fun z => ?_⟩
    rw [z] at this; exact absurd this.2 (by simp)
  unfold DS.wins at h
  split at h
  · rename_i h2
    rw [List.mem_singleton.mp h]
    obtain ⟨h1, _⟩ := minN_spec s.readyL s.two
    rcases List.mem_cons.mp h1 with z | z
    · rw [z]
      obtain ⟨m1, m2, _⟩ := DS.two_lev (mem_getD.mp h2)
      exact ⟨m1, W.cmv _ (by rw [m2]; simp)⟩
    · exact hr _ z
  · split at h
    · exact hc p h
    · rename_i r rs e
      rcases List.mem_append.mp h with z | z
      · exact hc p (List.mem_filter.mp z).1
      · rw [List.mem_singleton.mp z]; exact hr r (by rw [e]; exact List.mem_cons_self)
theorem wins_len {s : DS} (W : s.WF) : s.wins.length ≤ 6 := by
  have h5 := W.n5
  have hc : s.cameL.length ≤ 5 := by
    have := List.length_filter_le (fun p => (s.cm p).isSome) (List.range s.lev.length)
    rw [List.length_range] at this
    unfold DS.cameL; omega
  unfold DS.wins
  split
  · show 1 ≤ 6; decide
  · split
    · omega
    · rename_i r _ _
      rw [List.length_append]
      have := List.length_filter_le (fun p => decide (p < r) && (s.sn p).isNone) s.cameL
      show _ + 1 ≤ 6
      omega
/-! ### two doors, the one by other numbers -/
structure RelD (nm : V → V) (nu : List Nat) (s t : DS) : Prop where
  N : Nu nu
  ls : s.lev.length = nu.length
  lt : t.lev.length = 5
  Ws : s.WF
  Wt : t.WF
  lv : ∀ p q, nu[p]? = some q → t.lv q = s.lv p
  cm : ∀ p q, nu[p]? = some q → t.cm q = (s.cm p).map nm
  sn : ∀ p q, nu[p]? = some q → t.sn q = (s.sn p).map (ledL nu)
  hd : ∀ p q, nu[p]? = some q → t.hd q = (s.hd p).map nm
  offC : ∀ q, q ∉ nu → t.cm q = none
  offH : ∀ q, q ∉ nu → t.hd q = none
  snl : ∀ p l, s.sn p = some l → l.length = nu.length
  st : t.stps = s.stps
def mapT (nm : V → V) (nu : List Nat) : Told → Told
  | .level i => .level i
  | .look l => .look (ledL nu l)
  | .wait => .wait
  | .word v => .word (nm v)
section
variable {nm : V → V} {nu : List Nat} {s t : DS} {p q : Nat} {v : V}
theorem RelD.new {n : Nat} (N : Nu nu) (h1 : 1 ≤ n) (h5 : n ≤ 5) (hl : nu.length = n) : RelD nm nu (DS.new n) (DS.new 5) := by
  refine ⟨N, by simp [DS.new, hl], by simp [DS.new], .new h1 h5, .new (by decide) (by decide), ?_, ?_, ?_, ?_, ?_, ?_, ?_, rfl⟩
  · intro p q _; rw [DS.lv_new, DS.lv_new]
  · intro p q _; rw [DS.cm_new, DS.cm_new]; rfl
  · intro p q _; rw [DS.sn_new, DS.sn_new]; rfl
  · intro p q _; rw [DS.hd_new, DS.hd_new]; rfl
  · intro q _; exact DS.cm_new _ _
  · intro q _; exact DS.hd_new _ _
  · intro p l h; rw [DS.sn_new] at h; cases h
theorem RelD.offL (R : RelD nm nu s t) (h : q ∉ nu) : t.lv q = none := by
  cases e : t.lv q with
  | none => rfl
  | some x => exact absurd (R.offC q h) (R.Wt.cmv q (by rw [e]; simp))
theorem RelD.offS (R : RelD nm nu s t) (h : q ∉ nu) : t.sn q = none := by
  cases e : t.sn q with
  | none => rfl
  | some x => exact absurd (R.offL h) (R.Wt.snv q (by rw [e]; simp))
theorem RelD.lev (R : RelD nm nu s t) : t.lev = ledL nu s.lev := by
  refine ext_getD (by rw [R.lt, ledL_len]) fun q => ?_
  by_cases h : q ∈ nu
  · obtain ⟨p, hp⟩ := List.getElem?_of_mem h
    rw [ledL_at R.N R.ls hp]; exact R.lv p q hp
  · rw [ledL_off R.N R.ls h]; exact R.offL h
theorem RelD.heard (R : RelD nm nu s t) : t.heard = ledL nu (s.heard.map (Option.map nm)) := by
  have hl : (s.heard.map (Option.map nm)).length = nu.length := by rw [List.length_map, R.Ws.lh, R.ls]
  refine ext_getD (by rw [R.Wt.lh, R.lt, ledL_len]) fun q => ?_
  by_cases h : q ∈ nu
  · obtain ⟨p, hp⟩ := List.getElem?_of_mem h
    rw [ledL_at R.N hl hp]
    have e : (s.heard.map (Option.map nm)).getD p none = (s.hd p).map nm := by
      rw [List.getD_eq_getElem?_getD, List.getElem?_map]
      unfold DS.hd
      rw [List.getD_eq_getElem?_getD]
      cases s.heard[p]? <;> rfl
    rw [e]; exact R.hd p q hp
  · rw [ledL_off R.N hl h]; exact R.offH q h
theorem RelD.stg (R : RelD nm nu s t) (h : nu[p]? = some q) : t.stg q = s.stg p := by
  unfold DS.stg
  rw [R.lv p q h, R.sn p q h]
  unfold DS.stgOf
  cases s.sn p <;> rfl
theorem RelD.mem (R : RelD nm nu s t) (x : Int) : some x ∈ t.lev ↔ some x ∈ s.lev := by rw [R.lev]; exact mem_led R.N R.ls x
theorem RelD.saw (R : RelD nm nu s t) (h : nu[p]? = some q) : t.saw q = s.saw p := by
  unfold DS.saw
  rw [R.sn p q h]
  cases e : s.sn p with
  | none => rfl
  | some l => exact decide_eq_decide.mpr (mem_led R.N (R.snl p l e) 2)
theorem RelD.won (R : RelD nm nu s t) (h : nu[p]? = some q) : t.won q = s.won p := by
  unfold DS.won
  rw [R.sn p q h]
  cases e : s.sn p with
  | none => rfl
  | some l => show (!decide _) = (!decide _); rw [decide_eq_decide.mpr (mem_led R.N (R.snl p l e) 2)]
theorem RelD.wr (R : RelD nm nu s t) (h : nu[p]? = some q) : t.wr q = s.wr p := by unfold DS.wr; rw [R.saw h]
theorem RelD.at (R : RelD nm nu s t) (h : p < s.lev.length) : nu[p]? = some (nu.getD p 0) := by
  rw [R.ls] at h
  rw [List.getD_eq_getElem?_getD, List.getElem?_eq_getElem h]; rfl
theorem RelD.two (R : RelD nm nu s t) (h2 : ∃ p, s.lv p = some 2) : nu[s.two]? = some t.two := by
  obtain ⟨a1, a2, a3⟩ := DS.two_lev h2
  have hq := R.at a1
  have t2 : t.lv (nu.getD s.two 0) = some 2 := by rw [R.lv _ _ hq]; exact a2
  obtain ⟨b1, b2, b3⟩ := DS.two_lev ⟨_, t2⟩
  by_cases hm : t.two ∈ nu
  · obtain ⟨p', hp'⟩ := List.getElem?_of_mem hm
    have e2 : s.lv p' = some 2 := by rw [← R.lv p' _ hp']; exact b2
    have h3 : ¬ p' < s.two := fun z => a3 p' z e2
    have h4 : ¬ nu.getD s.two 0 < t.two := fun z => b3 _ z t2
    have h5 := R.N.mono hq hp'
    have : p' = s.two := by
      have : ¬ s.two < p' := fun z => h4 (h5.mp z)
      omega
    rw [← this]; exact hp'
  · rw [R.offL hm] at b2; cases b2
theorem RelD.told (R : RelD nm nu s t) (h : nu[p]? = some q) : t.told q = mapT nm nu (s.told p) := by
  have h4 := DS.stg_lt s p
  have e := R.stg h
  rcases (show s.stg p = 0 ∨ s.stg p = 1 ∨ s.stg p = 2 ∨ s.stg p = 3 by omega) with z | z | z | z <;> rw [z] at e
  · rw [DS.told0 z, DS.told0 e]; rfl
  · rw [DS.told1 z, DS.told1 e, R.lev]; rfl
  · rw [DS.told2 z, DS.told2 e, R.wr h]; rfl
  · rw [DS.told3 z, DS.told3 e]
    by_cases y : some 1 ∈ s.lev
    · rw [if_pos y, if_pos ((R.mem 1).mpr y)]; rfl
    · rw [if_neg y, if_neg (fun w => y ((R.mem 1).mp w))]
      have h2 := DS.ask_two R.Ws z
      obtain ⟨v, hv⟩ := DS.two_came R.Ws h2
      rw [R.cm _ _ (R.two h2), hv]; rfl
theorem RelD.ne (R : RelD nm nu s t) {p' q' : Nat} (h : nu[p]? = some q) (h' : nu[p']? = some q') : p = p' ↔ q = q' := by
  constructor
  · rintro rfl; rw [h] at h'; exact Option.some.inj h'
  · rintro rfl; exact R.N.inj h h'
theorem RelD.come (R : RelD nm nu s t) (h : nu[p]? = some q) : RelD nm nu (s.come p v) (t.come q (nm v)) := by
  have hp : p < s.came.length := by rw [R.Ws.lc, R.ls]; exact get_lt h
  have hq : q < t.came.length := by rw [R.Wt.lc, R.lt]; exact R.N.five h
  refine ⟨R.N, R.ls, R.lt, R.Ws.come, R.Wt.come, R.lv, fun p' q' h' => ?_, R.sn, R.hd, fun q' h' => ?_, R.offH, R.snl, by rw [stps_come, stps_come]; exact R.st⟩
  · rw [DS.cm_come, DS.cm_come]
    by_cases z : p = p'
    · rw [if_pos ⟨(R.ne h h').mp z, hq⟩, if_pos ⟨z, hp⟩]; rfl
    · rw [if_neg (fun w => z ((R.ne h h').mpr w.1)), if_neg (fun w => z w.1)]; exact R.cm p' q' h'
  · rw [DS.cm_come, if_neg]
    · exact R.offC q' h'
    · rintro ⟨z, _⟩; exact h' (z ▸ List.mem_of_getElem? h)
theorem RelD.step (R : RelD nm nu s t) (h : nu[p]? = some q) (hc : s.cm p ≠ none) : RelD nm nu (s.step p) (t.step q) := by
  have hc' : t.cm q ≠ none := by
    rw [R.cm p q h]
    cases e : s.cm p with
    | none => exact absurd e hc
    | some v => simp
  have hp := DS.lt_of_cm R.Ws hc
  have hq := DS.lt_of_cm R.Wt hc'
  have hps : p < s.seen.length := by rw [R.Ws.ls]; exact hp
  have hqs : q < t.seen.length := by rw [R.Wt.ls]; exact hq
  have e := R.stg h
  have h4 := DS.stg_lt s p
  have ne := fun p' q' (h' : nu[p']? = some q') => R.ne h h'
  have hdR : ∀ p' q', nu[p']? = some q' → (t.step q).hd q' = ((s.step p).hd p').map nm := fun p' q' h' => by
    rw [DS.hd_step R.Ws hc, DS.hd_step R.Wt hc']
    by_cases z : p = p' ∧ s.stg p = 3 ∧ some 1 ∉ s.lev
    · rw [if_pos z, if_pos ⟨(ne p' q' h').mp z.1, by rw [e]; exact z.2.1, fun w => z.2.2 ((R.mem 1).mp w)⟩]
      exact R.cm _ _ (R.two (DS.ask_two R.Ws z.2.1))
    · rw [if_neg z, if_neg (fun w => z ⟨(ne p' q' h').mpr w.1, by rw [← e]; exact w.2.1, fun y => w.2.2 ((R.mem 1).mpr y)⟩)]
      exact R.hd p' q' h'
  have offHR : ∀ q', q' ∉ nu → (t.step q).hd q' = none := fun q' h' => by
    rw [DS.hd_step R.Wt hc', if_neg]
    · exact R.offH q' h'
    · rintro ⟨z, _⟩; exact h' (z ▸ List.mem_of_getElem? h)
  have stR : (t.step q).stps = (s.step p).stps := by rw [stps_step, stps_step, R.st]
  refine ⟨R.N, by rw [DS.len_step]; exact R.ls, by rw [DS.len_step]; exact R.lt, R.Ws.step hc, R.Wt.step hc', fun p' q' h' => ?_, fun p' q' h' => by rw [DS.cm_step, DS.cm_step]; exact R.cm p' q' h', fun p' q' h' => ?_, hdR, fun q' h' => by rw [DS.cm_step]; exact R.offC q' h', offHR, fun p' l h' => ?_, stR⟩
  · rcases (show s.stg p = 0 ∨ s.stg p = 1 ∨ s.stg p = 2 ∨ s.stg p = 3 by omega) with z | z | z | z <;> rw [z] at e
    · rw [DS.lv_step0 z hp, DS.lv_step0 e hq]
      by_cases y : p = p'
      · rw [if_pos y, if_pos ((ne p' q' h').mp y)]
      · rw [if_neg y, if_neg (fun w => y ((ne p' q' h').mpr w))]; exact R.lv p' q' h'
    · rw [DS.lv_step1 z, DS.lv_step1 e]; exact R.lv p' q' h'
    · rw [DS.lv_step2 z hp, DS.lv_step2 e hq, R.wr h]
      by_cases y : p = p'
      · rw [if_pos y, if_pos ((ne p' q' h').mp y)]
      · rw [if_neg y, if_neg (fun w => y ((ne p' q' h').mpr w))]; exact R.lv p' q' h'
    · rw [DS.lv_step3 z, DS.lv_step3 e]; exact R.lv p' q' h'
  · by_cases z : s.stg p = 1
    · rw [DS.sn_step1 z hps, DS.sn_step1 (by rw [e]; exact z) hqs]
      by_cases y : p = p'
      · rw [if_pos y, if_pos ((ne p' q' h').mp y), R.lev]; rfl
      · rw [if_neg y, if_neg (fun w => y ((ne p' q' h').mpr w))]; exact R.sn p' q' h'
    · rw [DS.sn_stepN z, DS.sn_stepN (by rw [e]; exact z)]; exact R.sn p' q' h'
  · by_cases z : s.stg p = 1
    · rw [DS.sn_step1 z hps] at h'
      split at h'
      · cases h'; exact R.ls
      · exact R.snl p' l h'
    · rw [DS.sn_stepN z] at h'; exact R.snl p' l h'
/-- lots of players, by other numbers -/
theorem RelD.lots (R : RelD nm nu s t) {f g : Nat → Bool} (hg : ∀ q, q ∉ nu → g q = false) (h : ∀ p q, nu[p]? = some q → g q = f p) : (List.range t.lev.length).filter g = ((List.range s.lev.length).filter f).map fun p => nu.getD p 0 := by
  have rs : ∀ n, (List.range n).Pairwise (· < ·) := fun n => List.pairwise_lt_range
  refine sorted_ext ((rs _).filter _) ?_ fun x => ?_
  · rw [List.pairwise_map]
    refine List.Pairwise.imp_of_mem ?_ ((rs s.lev.length).filter f)
    intro a b ha hb hab
    have ha := List.mem_range.mp (List.mem_filter.mp ha).1
    have hb := List.mem_range.mp (List.mem_filter.mp hb).1
    exact (R.N.mono (R.at ha) (R.at hb)).mp hab
  · rw [List.mem_filter, List.mem_range, List.mem_map]
    constructor
    · rintro ⟨h1, h2⟩
      by_cases z : x ∈ nu
      · obtain ⟨p, hp⟩ := List.getElem?_of_mem z
        have hpl : p < s.lev.length := by rw [R.ls]; exact get_lt hp
        refine ⟨p, List.mem_filter.mpr ⟨List.mem_range.mpr hpl, by rw [← h p x hp]; exact h2⟩, ?_⟩
        have := R.at hpl
        rw [hp] at this; exact (Option.some.inj this).symm
      · rw [hg x z] at h2; cases h2
    · rintro ⟨p, hp, rfl⟩
      have hp' := List.mem_filter.mp hp
      have hpl := List.mem_range.mp hp'.1
      have ha := R.at hpl
      exact ⟨by rw [R.lt]; exact R.N.five ha, by rw [h p _ ha]; exact hp'.2⟩
theorem RelD.held (R : RelD nm nu s t) : t.held = s.held.map fun p => nu.getD p 0 :=
  R.lots (fun q h => by rw [R.offL h]; decide) fun p q h => by rw [R.lv p q h]
theorem RelD.cameL (R : RelD nm nu s t) : t.cameL = s.cameL.map fun p => nu.getD p 0 :=
  R.lots (fun q h => by rw [R.offC q h]; rfl) fun p q h => by rw [R.cm p q h]; cases s.cm p <;> rfl
theorem held_lt {s : DS} : ∀ p ∈ s.held, p < s.lev.length := fun p hp => List.mem_range.mp (List.mem_filter.mp hp).1
theorem RelD.readyL (R : RelD nm nu s t) : t.readyL = s.readyL.map fun p => nu.getD p 0 := by
  unfold DS.readyL
  rw [R.held, List.filter_map]
  congr 1
  refine List.filter_congr fun p hp => ?_
  exact R.won (R.at (held_lt p hp))
theorem RelD.wins (R : RelD nm nu s t) : t.wins = s.wins.map fun p => nu.getD p 0 := by
  have er := R.readyL
  have rl : ∀ p ∈ s.readyL, p < s.lev.length := fun p hp => held_lt p (List.mem_filter.mp hp).1
  unfold DS.wins
  by_cases h2 : some 2 ∈ s.lev
  · rw [if_pos h2, if_pos ((R.mem 2).mpr h2)]
    obtain ⟨m1, m2, _⟩ := DS.two_lev (mem_getD.mp h2)
    have ht : nu.getD s.two 0 = t.two := by
      have a := R.two (mem_getD.mp h2)
      have b := R.at m1
      rw [b] at a; exact Option.some.inj a
    show [_] = [nu.getD (DS.minN s.two s.readyL) 0]
    congr 1
    obtain ⟨a1, a2⟩ := minN_spec s.readyL s.two
    have lt : ∀ p ∈ s.two :: s.readyL, p < s.lev.length := fun p hp => by
      rcases List.mem_cons.mp hp with z | z
      · rw [z]; exact m1
      · exact rl p z
    refine minN_of ?_ fun x hx => ?_
    · rw [er]
      rcases List.mem_cons.mp a1 with z | z
      · rw [z, ht]; exact List.mem_cons_self
      · exact List.mem_cons_of_mem _ (List.mem_map.mpr ⟨_, z, rfl⟩)
    · have hx' : ∃ p ∈ s.two :: s.readyL, nu.getD p 0 = x := by
        rcases List.mem_cons.mp hx with z | z
        · exact ⟨s.two, List.mem_cons_self, by rw [z, ht]⟩
        · rw [er] at z
          obtain ⟨p, hp, e⟩ := List.mem_map.mp z
          exact ⟨p, List.mem_cons_of_mem _ hp, e⟩
      obtain ⟨p, hp, rfl⟩ := hx'
      have h1 := R.at (lt _ a1)
      have h3 := R.at (lt p hp)
      rcases Nat.lt_or_ge (nu.getD p 0) (nu.getD (DS.minN s.two s.readyL) 0) with z | z
      · have := (R.N.mono h3 h1).mpr z
        have := a2 p hp
        omega
      · exact z
  · rw [if_neg h2, if_neg (fun w => h2 ((R.mem 2).mp w)), er]
    cases e : s.readyL with
    | nil => exact R.cameL
    | cons r rs =>
      show (t.cameL.filter fun p => decide (p < nu.getD r 0) && (t.sn p).isNone) ++ [nu.getD r 0] = List.map _ (_ ++ [r])
      have hr := R.at (rl r (by rw [e]; exact List.mem_cons_self))
      rw [List.map_append, R.cameL, List.filter_map]
      congr 2
      refine List.filter_congr fun p hp => ?_
      have hpl := List.mem_range.mp (List.mem_filter.mp hp).1
      have ha := R.at hpl
      show (decide (nu.getD p 0 < nu.getD r 0) && (t.sn (nu.getD p 0)).isNone) = _
      rw [R.sn p _ ha, decide_eq_decide.mpr (R.N.mono ha hr).symm]
      cases s.sn p <;> rfl
end
end Fp
/-! views of a stair are a row; weavings; walks over two tuples -/
namespace Fp
open PySem PySem.Spec PyProof.Rows L2
theorem walk_zipT {K : PySem.W.Frag} {a b : Addr} {xs ys : List V} {n : Nat} (hn : n = min xs.length ys.length) : Walk (RZ.ItzT K a b) n (fun H => SqT K H a xs ∧ SqT K H b ys) (YPair (fun i => xs[i]?) (fun i => ys[i]?)) := by
  subst hn
  refine ⟨fun i _ hi q => ?_, fun _ q => ⟨xs, ys, q.1, q.2, by omega⟩, fun i H v H' _ q y => ?_⟩
  · have h1 : i < xs.length := by omega
    have h2 : i < ys.length := by omega
    exact ⟨xs, ys, xs[i], ys[i], q.1, q.2, by simp [h1], by simp [h2]⟩
  · obtain ⟨T, x, z, h1, h2, h3, h4, h5⟩ := y
    exact ⟨T, x, z, h1, h2, h3, h4 xs q.1, h5 ys q.2⟩
def Sub (l m : List Nat) : Prop := ∀ x ∈ l, x ∈ m
instance (l m : List Nat) : Decidable (Sub l m) := inferInstanceAs (Decidable (∀ x ∈ l, x ∈ m))
namespace LS
section
variable {s : LS} {p q : Nat} {l m : List Nat}
theorem below_up (s : LS) (l : Int) : (s.below l).Pairwise (· < ·) := List.Pairwise.filter _ List.pairwise_lt_range
theorem below_mono {a b : Int} (h : a ≤ b) : Sub (s.below a) (s.below b) := fun x hx => by
  obtain ⟨h1, h2⟩ := mem_below.mp hx
  refine mem_below.mpr ⟨h1, ?_⟩
  cases e : s.lv x with
  | none => rw [e] at h2; cases h2
  | some y => rw [e] at h2; have := of_decide_eq_true (show decide (y ≤ a) = true from h2); exact decide_eq_true (by omega)
/-- what is known of a view -/
structure ViewOk (s : LS) (p : Nat) (l : List Nat) : Prop where
  up : l.Pairwise (· < ·)
  self : p ∈ l
  lt : ∀ x ∈ l, x < s.n
  len : l.length ≤ 5
theorem WF.view (W : s.WF) (h : s.vi p = some l) : ViewOk s p l := by
  obtain ⟨k, h1, h2, h3⟩ := W.vil p l h
  have := W.rng p _ h1
  have := W.n5
  refine ⟨by rw [h2]; exact below_up _ _, W.self h, fun x hx => ?_, by rw [h2, h3]; omega⟩
  rw [h2] at hx
  exact (mem_below.mp hx).1
theorem WF.vlt (W : s.WF) (h : s.vi p = some l) : p < s.n := (W.view h).lt p (W.view h).self
theorem WF.fits (W : s.WF) (h : s.vi p = some l) (h' : s.vi q = some m) : (q ∈ l → Sub m l) ∧ (q ∉ l → Sub l m) := by
  obtain ⟨k, h1, h2, _⟩ := W.vil p l h
  obtain ⟨j, j1, j2, _⟩ := W.vil q m h'
  have hq : q ∈ l ↔ j ≤ k := by
    rw [h2, mem_below]
    rw [le_some j1, decide_eq_true_iff]
    exact ⟨fun z => by have := z.2; omega, fun z => ⟨W.vlt h', by omega⟩⟩
  rw [hq, h2, j2]
  exact ⟨fun z => below_mono (by omega), fun z => below_mono (by omega)⟩
def woven (s : LS) (ws : List Nat) : LS := ws.foldl (fun s p => s.step p) s
theorem woven_snoc (ws : List Nat) (p : Nat) : s.woven (ws ++ [p]) = (s.woven ws).step p := List.foldl_append
theorem n_woven : ∀ {ws : List Nat} {s : LS}, (s.woven ws).n = s.n
  | [], _ => rfl
  | p :: ws, s => (n_woven (ws := ws) (s := s.step p)).trans n_step
theorem step_none (h : s.next p = none) : s.step p = s := by unfold LS.step; rw [h]
theorem ok_woven : ∀ {ws : List Nat} {s : LS}, s.WF → s.ROk → (∀ p ∈ ws, p < s.n) → (s.woven ws).WF ∧ (s.woven ws).ROk
  | [], _, W, R, _ => ⟨W, R⟩
  | p :: ws, s, W, R, h => by
    have hp := h p List.mem_cons_self
    have R' : (s.step p).ROk := by
      by_cases z : s.next p = none
      · rw [step_none z]; exact R
      · exact R.step W hp z
    have r := ok_woven (ws := ws) (s := s.step p) (W.step hp) R' fun q hq => by rw [n_step]; exact h q (List.mem_cons_of_mem _ hq)
    exact r
theorem step_run' (W : s.WF) (hp : p < s.n) : ∃ ds, (s.step p).run = s.run ++ ds ∧ ds.length ≤ 1 := by
  by_cases z : s.next p = none
  · exact ⟨[], by rw [step_none z]; simp, by decide⟩
  · obtain ⟨dd, e, _⟩ := step_run W hp z
    exact ⟨[dd], e, Nat.le_refl _⟩
theorem set_same (W : s.WF) (hp : p < s.n) (h : s.vi p = none) : s.vw.set p none = s.vw := by
  have hl : p < s.vw.length := by rw [W.lw]; exact hp
  have e : s.vw[p] = none := by
    have := getD_at hl
    rw [List.getElem?_eq_getElem hl] at this
    have h' : s.vw.getD p none = none := h
    rw [h'] at this
    exact Option.some.inj this
  refine List.ext_getElem? fun i => ?_
  rw [List.getElem?_set]
  by_cases z : p = i
  · subst z; rw [if_pos rfl, if_pos hl, List.getElem?_eq_getElem hl, e]
  · rw [if_neg z]
end
end LS
/-! ### the law's own stair -/
def sdict (n : Int) (l1 l2 l3 : Addr) : List (Key × V) := [(.inr "many", .int n), (.inr "shown", .ref l1), (.inr "looks", .ref l2), (.inr "views", .ref l3)]
section
variable {n : Int} {l1 l2 l3 o : Addr} {H : Hp}
theorem st_merge : mergeK [] (sdict n l1 l2 l3) = sdict n l1 l2 l3 := by kernel_rfl
theorem sg_many (h : H o = some (.dK (sdict n l1 l2 l3))) : DGet H o (.str "many") (some (.int n)) := by
  have := DGet.k (k := .inr "many") h; rw [show valV (sdict n l1 l2 l3) (.inr "many") = some (.int n) by kernel_rfl] at this; exact this
theorem sg_shown (h : H o = some (.dK (sdict n l1 l2 l3))) : DGet H o (.str "shown") (some (.ref l1)) := by
  have := DGet.k (k := .inr "shown") h; rw [show valV (sdict n l1 l2 l3) (.inr "shown") = some (.ref l1) by kernel_rfl] at this; exact this
theorem sg_looks (h : H o = some (.dK (sdict n l1 l2 l3))) : DGet H o (.str "looks") (some (.ref l2)) := by
  have := DGet.k (k := .inr "looks") h; rw [show valV (sdict n l1 l2 l3) (.inr "looks") = some (.ref l2) by kernel_rfl] at this; exact this
theorem sg_views (h : H o = some (.dK (sdict n l1 l2 l3))) : DGet H o (.str "views") (some (.ref l3)) := by
  have := DGet.k (k := .inr "views") h; rw [show valV (sdict n l1 l2 l3) (.inr "views") = some (.ref l3) by kernel_rfl] at this; exact this
end
structure StIn (H : Hp) (o l1 l2 l3 : Addr) (s : LS) (vv : List V) : Prop where
  dict : H o = some (.dK (sdict (s.n : Nat) l1 l2 l3))
  shown : H l1 = some (.lst (s.lev.map lvV))
  looks : H l2 = some (.lst (s.lk.map V.bl))
  views : H l3 = some (.lst vv)
  vwP : Paired (ViewAt H) vv s.vw
  nd : [o, l1, l2, l3].Nodup
def StAt (H : Hp) (o : Addr) (L : List Addr) (s : LS) : Prop := ∃ l1 l2 l3 vv, L = [o, l1, l2, l3] ∧ StIn H o l1 l2 l3 s vv
section
variable {H H' : Hp} {o : Addr} {L S : List Addr} {s : LS}
theorem StAt.but (h : StAt H o L s) (g : But S H H') (n : ∀ x ∈ S, x ∉ L) (tk : TK H H') : StAt H' o L s := by
  obtain ⟨l1, l2, l3, vv, rfl, h⟩ := h
  have w : ∀ x ∈ [o, l1, l2, l3], x ∉ S := fun x hx m => n x m hx
  exact ⟨l1, l2, l3, vv, rfl, g _ _ (w o (by simp)) h.dict, g _ _ (w l1 (by simp)) h.shown, g _ _ (w l2 (by simp)) h.looks, g _ _ (w l3 (by simp)) h.views, pr_imp (fun _ _ => ViewAt.mono tk) h.vwP, h.nd⟩
theorem StAt.same (h : StAt H o L s) (g : Same H H') : StAt H' o L s := h.but (S := []) (.of g) (fun _ m => by cases m) (.of g)
theorem StAt.kind (h : StAt H o L s) : ∀ x ∈ L, (∃ xs, H x = some (.lst xs)) ∨ ∃ kvs, H x = some (.dK kvs) := by
  obtain ⟨l1, l2, l3, vv, rfl, h⟩ := h
  intro x hx
  simp only [List.mem_cons, List.not_mem_nil, or_false] at hx
  rcases hx with rfl | rfl | rfl | rfl
  · exact .inr ⟨_, h.dict⟩
  · exact .inl ⟨_, h.shown⟩
  · exact .inl ⟨_, h.looks⟩
  · exact .inl ⟨_, h.views⟩
theorem StAt.tk (h : StAt H o L s) (g : But L H H') : TK H H' := TK.but g fun a ha z => by
  rcases h.kind a ha with ⟨xs, e⟩ | ⟨xs, e⟩ <;> rw [e] at z <;> exact z
end
/-! ### promises -/
def spLot : Sp := fun vs H Q _ => ∃ (a : Addr) (l : List Nat), vs = [.ref a] ∧ TT H a (natV l) ∧ l.Pairwise (· < ·) ∧ l.length ≤ 5 ∧ ∀ H', Same H H' → Q (.bl true) H'
def spLies : Sp := fun vs H Q _ => ∃ (a b : Addr) (l m : List Nat), vs = [.ref a, .ref b] ∧ TT H a (natV l) ∧ TT H b (natV m) ∧ l.length ≤ 5 ∧ Sub l m ∧ ∀ H', Same H H' → Q (.bl true) H'
def spFit : Sp := fun vs H Q _ => ∃ (t u a b : Addr) (p q : Nat) (l m : List Nat), vs = [.ref t, .ref u] ∧ H t = some (.tup [.int (p : Nat), .ref a]) ∧ H u = some (.tup [.int (q : Nat), .ref b]) ∧ TT H a (natV l) ∧ TT H b (natV m) ∧ l.length ≤ 5 ∧ m.length ≤ 5 ∧
  (q ∈ l → Sub m l) ∧ (q ∉ l → Sub l m) ∧ ∀ H', Same H H' → Q (.bl true) H'
def spIsView : Sp := fun vs H Q _ => ∃ (n p : Nat) (a : Addr) (l : List Nat), vs = [.int n, .int p, .ref a] ∧ TT H a (natV l) ∧ l.Pairwise (· < ·) ∧ l.length ≤ 5 ∧ p ∈ l ∧ (∀ x ∈ l, x < n) ∧ ∀ H', Same H H' → Q (.bl true) H'
def LS.any (s : LS) : Bool := s.vw.any (·.isSome)
def spAtOnce : Sp := fun vs H Q _ => ∃ (b : Addr) (vv : List V) (s : LS), vs = [.int (s.n : Nat), .ref b] ∧ TF H b vv ∧ Paired (ViewAt H) vv s.vw ∧ s.WF ∧ ∀ H', Same H H' → Q (.bl s.any) H'
def spWeaving : Sp := fun vs H Q _ => ∃ (a : Addr) (ws : List Nat) (n : Nat), vs = [.ref a, .int n] ∧ TT H a (natV ws) ∧ (∀ p ∈ ws, p < n) ∧ ws.length ≤ 1000 ∧ ∀ H', Same H H' → Q (.bl true) H'
def spWeave (K : PySem.W.Frag) (C : Addr) : Sp := fun vs H Q _ => ∃ (d a : Addr) (ws : List Nat) (s : LS), vs = [.ref d, .ref a] ∧ LvAt K C H d s ∧ s.WF ∧ TT H a (natV ws) ∧ (∀ p ∈ ws, p < s.n) ∧ ws.length ≤ 1000 ∧ s.run.length < 10000 ∧
  ∀ t ys ds H', But [d] H H' → LvAt K C H' d (s.woven ws) → H' t = some (.tup ys) → Paired (SD K H') ys ds → (s.woven ws).run = s.run ++ ds → Q (.ref t) H'
def spLLen (K : PySem.W.Frag) (C : Addr) : Sp := fun vs H Q _ => ∃ (d : Addr) (s : LS), vs = [.ref d] ∧ LvAt K C H d s ∧ Q (.int (s.run.length : Nat)) H
def spSNext : Sp := fun vs H Q _ => ∃ (o : Addr) (L : List Addr) (p : Nat) (s : LS), vs = [.ref o, .int p] ∧ StAt H o L s ∧ s.WF ∧ p < s.n ∧ ∀ y H', Same H H' → DueAt H' y (s.next p) → Q y H'
def spSStep (K : PySem.W.Frag) : Sp := fun vs H Q _ => ∃ (o : Addr) (L : List Addr) (p : Nat) (s : LS), vs = [.ref o, .int p] ∧ StAt H o L s ∧ s.WF ∧ p < s.n ∧ s.next p ≠ none ∧
  ∀ t dd H', But L H H' → StAt H' o L (s.step p) → (s.step p).run = s.run ++ [dd] → SD K H' (.ref t) dd → Q (.ref t) H'
def spSFresh : Sp := fun vs H Q _ => ∃ n : Nat, vs = [.int n] ∧ 1 ≤ n ∧ n ≤ 5 ∧ ∀ o L H', Same H H' → (∀ x ∈ L, H x = none) → StAt H' o L (LS.new n) → Q (.ref o) H'
def spSWoven (K : PySem.W.Frag) : Sp := fun vs H Q _ => ∃ (o a : Addr) (L : List Addr) (ws : List Nat) (s : LS), vs = [.ref o, .ref a] ∧ StAt H o L s ∧ s.WF ∧ TT H a (natV ws) ∧ (∀ p ∈ ws, p < s.n) ∧ ws.length ≤ 1000 ∧
  ∀ t ys ds H', But L H H' → StAt H' o L (s.woven ws) → H' t = some (.tup ys) → Paired (SD K H') ys ds → (s.woven ws).run = s.run ++ ds → Q (.ref t) H'
def spWvg : Sp := fun vs H Q _ => ∃ (pt : Addr) (n k m : Nat), vs = [.ref pt, .int n, .int k] ∧ 1 ≤ n ∧ n ≤ 5 ∧ k ≤ 30 ∧ PotAt H pt m ∧ m < 800000 ∧ ∀ t ws H', But [pt] H H' → PotAt H' pt (m + 100) → H' t = some (.tup (natV ws)) → (∀ p ∈ ws, p < n) → ws.length ≤ 100 → Q (.ref t) H'
def spLInt : Sp := fun vs H Q _ => ∃ x a b : Int, vs = [.int x, .int a, .int b] ∧ a ≤ x ∧ x ≤ b ∧ Q (.bl true) H
def spLotOf : Sp := fun vs H Q _ => ∃ (a : Addr) (l : List Nat) (n : Nat), vs = [.ref a, .int n] ∧ TT H a (natV l) ∧ l.Pairwise (· < ·) ∧ l.length ≤ 5 ∧ (∀ x ∈ l, x < n) ∧ ∀ H', Same H H' → Q (.bl true) H'
end Fp
/-! values of any kind, of which only tuples and integers are looked into; rows of truths -/
namespace Fp
open PySem PySem.Spec PyProof.Rows L2
inductive Dt where
  | non
  | bl (b : Bool)
  | int (i : Int)
  | oth
  | tup (ds : List Dt)
mutual
inductive DV (H : Hp) : V → Dt → Prop where
  | non : DV H .non .non
  | bl (b : Bool) : DV H (.bl b) (.bl b)
  | int (i : Int) : DV H (.int i) (.int i)
  | str (z : Str) : DV H (.str z) .oth
  | lst {a : Addr} {xs : List V} : H a = some (.lst xs) → DV H (.ref a) .oth
  | dct {a : Addr} {kvs : List (Key × V)} : H a = some (.dK kvs) → DV H (.ref a) .oth
  | tup {a : Addr} {xs : List V} {ds : List Dt} : H a = some (.tup xs) → DVs H xs ds → ds.length ≤ 1000 → DV H (.ref a) (.tup ds)
inductive DVs (H : Hp) : List V → List Dt → Prop where
  | nil : DVs H [] []
  | cons {v vs d ds} : DV H v d → DVs H vs ds → DVs H (v :: vs) (d :: ds)
end
/-- tuples stay, lists and dicts stay such -/
structure DKp (H H' : Hp) : Prop where
  t : ∀ {a xs}, H a = some (.tup xs) → H' a = some (.tup xs)
  l : ∀ {a xs}, H a = some (.lst xs) → ∃ ys, H' a = some (.lst ys)
  d : ∀ {a} {xs : List (Key × V)}, H a = some (.dK xs) → ∃ ys : List (Key × V), H' a = some (.dK ys)
theorem DKp.refl (H : Hp) : DKp H H := ⟨fun h => h, fun h => ⟨_, h⟩, fun h => ⟨_, h⟩⟩
theorem DKp.trans {H H1 H2 : Hp} (a : DKp H H1) (b : DKp H1 H2) : DKp H H2 := ⟨fun h => b.t (a.t h), fun h => by
  obtain ⟨_, h⟩ := a.l h
  exact b.l h, fun h => by
  obtain ⟨_, h⟩ := a.d h
  exact b.d h⟩
theorem DKp.of {H H' : Hp} (g : Same H H') : DKp H H' := ⟨fun h => g _ _ h, fun h => ⟨_, g _ _ h⟩, fun h => ⟨_, g _ _ h⟩⟩
theorem DKp.but {S : List Addr} {H H' : Hp} (g : But S H H') (h : ∀ a ∈ S, (∃ xs, H a = some (.lst xs)) ∧ ∃ ys, H' a = some (.lst ys)) : DKp H H' := by
  refine ⟨fun {a xs} e => ?_, fun {a xs} e => ?_, fun {a xs} e => ?_⟩
  · by_cases m : a ∈ S
    · obtain ⟨⟨_, z⟩, _⟩ := h a m
      rw [z] at e; cases e
    · exact g _ _ m e
  · by_cases m : a ∈ S
    · exact (h a m).2
    · exact ⟨_, g _ _ m e⟩
  · by_cases m : a ∈ S
    · obtain ⟨⟨_, z⟩, _⟩ := h a m
      rw [z] at e; cases e
    · exact ⟨_, g _ _ m e⟩
theorem DKp.pot {p : Addr} {n m : Nat} {H H' : Hp} (g : But [p] H H') (h : PotAt H p n) (h' : PotAt H' p m) : DKp H H' := DKp.but g fun a ha => by
  rw [List.mem_singleton.mp ha]
  exact ⟨h.there, h'.there⟩
theorem DKp.put {H : Hp} {a : Addr} {xs ys : List V} (h : H a = some (.lst xs)) : DKp H (upd H a (.lst ys)) := DKp.but (S := [a]) ((But.refl _ _).put (by simp)) fun b hb => by
  rw [List.mem_singleton.mp hb]
  exact ⟨⟨_, h⟩, _, upd_same⟩
mutual
theorem DV.kd {H H' : Hp} (g : DKp H H') : ∀ {v : V} {d : Dt}, DV H v d → DV H' v d
  | _, _, .non => .non
  | _, _, .bl b => .bl b
  | _, _, .int i => .int i
  | _, _, .str z => .str z
  | _, _, .lst h => by
    obtain ⟨_, h⟩ := g.l h
    exact .lst h
  | _, _, .dct h => by
    obtain ⟨_, h⟩ := g.d h
    exact .dct h
  | _, _, .tup h t l => .tup (g.t h) (DVs.kd g t) l
theorem DVs.kd {H H' : Hp} (g : DKp H H') : ∀ {vs : List V} {ds : List Dt}, DVs H vs ds → DVs H' vs ds
  | _, _, .nil => .nil
  | _, _, .cons h t => .cons (DV.kd g h) (DVs.kd g t)
end
theorem DV.same {H H' : Hp} (g : Same H H') {v : V} {d : Dt} (h : DV H v d) : DV H' v d := h.kd (.of g)
theorem DVs.same {H H' : Hp} (g : Same H H') {v : List V} {d : List Dt} (h : DVs H v d) : DVs H' v d := h.kd (.of g)
theorem DVs.len {H : Hp} : ∀ {vs : List V} {ds : List Dt}, DVs H vs ds → vs.length = ds.length
  | _, _, .nil => rfl
  | _, _, .cons _ t => congrArg (· + 1) (DVs.len t)
theorem DVs.at_ {H : Hp} {v : V} : ∀ {i : Nat} {vs : List V} {ds : List Dt}, DVs H vs ds → vs[i]? = some v → ∃ d, ds[i]? = some d ∧ DV H v d
  | 0, _, _, .cons h t, e => by cases e; exact ⟨_, rfl, h⟩
  | i + 1, _, _, .cons h t, e => DVs.at_ (i := i) t e
  | _, _, _, .nil, e => by simp at e
theorem DVs.get {H : Hp} {d : Dt} : ∀ {i : Nat} {vs : List V} {ds : List Dt}, DVs H vs ds → ds[i]? = some d → ∃ v, vs[i]? = some v ∧ DV H v d
  | 0, _, _, .cons h t, e => by cases e; exact ⟨_, rfl, h⟩
  | i + 1, _, _, .cons h t, e => DVs.get (i := i) t e
  | _, _, _, .nil, e => by simp at e
theorem DVs.app {H : Hp} : ∀ {vs ws : List V} {ds es : List Dt}, DVs H vs ds → DVs H ws es → DVs H (vs ++ ws) (ds ++ es)
  | _, _, _, _, .nil, t => t
  | _, _, _, _, .cons h r, t => .cons h (DVs.app r t)
theorem DVs.take {H : Hp} : ∀ {n : Nat} {vs : List V} {ds : List Dt}, DVs H vs ds → DVs H (vs.take n) (ds.take n)
  | 0, _, _, _ => by simp; exact .nil
  | n + 1, _, _, .nil => by simp; exact .nil
  | n + 1, _, _, .cons h t => .cons h (DVs.take t)
theorem DVs.drop {H : Hp} : ∀ {n : Nat} {vs : List V} {ds : List Dt}, DVs H vs ds → DVs H (vs.drop n) (ds.drop n)
  | 0, _, _, h => h
  | n + 1, _, _, .nil => by simp; exact .nil
  | n + 1, _ :: _, _ :: _, .cons h t => by
    rw [List.drop_succ_cons, List.drop_succ_cons]
    exact DVs.drop (n := n) t
theorem DVs.rev {H : Hp} : ∀ {vs : List V} {ds : List Dt}, DVs H vs ds → DVs H vs.reverse ds.reverse
  | _, _, .nil => .nil
  | _, _, .cons h t => by
    rw [List.reverse_cons, List.reverse_cons]
    exact DVs.app (DVs.rev t) (.cons h .nil)
theorem DVs.set {H : Hp} {v : V} {d : Dt} (h : DV H v d) : ∀ {n : Nat} {vs : List V} {ds : List Dt}, DVs H vs ds → DVs H (vs.set n v) (ds.set n d)
  | _, _, _, .nil => by simp; exact .nil
  | 0, _, _, .cons _ t => .cons h t
  | n + 1, _, _, .cons g t => .cons g (DVs.set h t)
/-! ### kinds -/
def Dt.isInt : Dt → Bool
  | .int _ => true
  | _ => false
def Dt.isBl : Dt → Bool
  | .bl _ => true
  | _ => false
def Dt.isTup : Dt → Bool
  | .tup _ => true
  | _ => false
def Dt.isNon : Dt → Bool
  | .non => true
  | _ => false
def Dt.toInt : Dt → Int
  | .int i => i
  | _ => 0
def Dt.wnn : Dt → Bool
  | .int i => decide (0 ≤ i)
  | _ => false
theorem DV.ty {K : PySem.W.Frag} {H : Hp} {v : V} {d : Dt} (h : DV H v d) : ∃ t, TyX K H v t ∧ PySem.W.kitOne K t (.type "int") = some (d.isInt || d.isBl) ∧ PySem.W.kitOne K t (.type "bool") = some d.isBl ∧ PySem.W.kitOne K t (.type "tuple") = some d.isTup := by
  cases h with
  | non => exact ⟨.type "NoneType", .base .non, by first | rfl | decide +kernel | kernel_rfl, by first | rfl | decide +kernel | kernel_rfl, by first | rfl | decide +kernel | kernel_rfl⟩
  | int i => exact ⟨.type "int", .base (.int i), by first | rfl | decide +kernel | kernel_rfl, by first | rfl | decide +kernel | kernel_rfl, by first | rfl | decide +kernel | kernel_rfl⟩
  | bl b => exact ⟨.type "bool", .base (.bl b), by first | rfl | decide +kernel | kernel_rfl, by first | rfl | decide +kernel | kernel_rfl, by first | rfl | decide +kernel | kernel_rfl⟩
  | str z => exact ⟨.type "str", .base (.str z), by first | rfl | decide +kernel | kernel_rfl, by first | rfl | decide +kernel | kernel_rfl, by first | rfl | decide +kernel | kernel_rfl⟩
  | tup h _ _ => exact ⟨.type "tuple", .base (.tup h), by first | rfl | decide +kernel | kernel_rfl, by first | rfl | decide +kernel | kernel_rfl, by first | rfl | decide +kernel | kernel_rfl⟩
  | lst h => exact ⟨.type "list", .base (.lst h), by first | rfl | decide +kernel | kernel_rfl, by first | rfl | decide +kernel | kernel_rfl, by first | rfl | decide +kernel | kernel_rfl⟩
  | dct h => exact ⟨.type "dict", .base (.dK h), by first | rfl | decide +kernel | kernel_rfl, by first | rfl | decide +kernel | kernel_rfl, by first | rfl | decide +kernel | kernel_rfl⟩
theorem DV.non_iff {H : Hp} {v : V} {d : Dt} (h : DV H v d) : decide (v = .non) = d.isNon := by
  cases h <;> simp [Dt.isNon]
theorem not_t {b : Bool} (h : (!b) = true) : b = false := by cases b <;> first | rfl | cases h
theorem not_f {b : Bool} (h : ¬ (!b) = true) : b = true := by cases b <;> first | rfl | exact absurd rfl h
/-! ### rows of truths -/
theorem all_getD {α : Type} {p : α → Bool} {x : α} : ∀ {l : List α}, ((List.range l.length).all fun i => p (l.getD i x)) = l.all p := by
  intro l
  rw [Bool.eq_iff_iff, List.all_eq_true, List.all_eq_true]
  constructor
  · intro h y hy
    obtain ⟨i, hi⟩ := List.mem_iff_getElem?.mp hy
    have hl := (List.getElem?_eq_some_iff.mp hi).1
    have := h i (List.mem_range.mpr hl)
    rw [List.getD_eq_getElem?_getD, hi] at this
    exact this
  · intro h i hi
    have hl := List.mem_range.mp hi
    have : l.getD i x = l[i] := by rw [List.getD_eq_getElem?_getD, List.getElem?_eq_getElem hl] <;> rfl
    rw [this]
    exact h _ (List.getElem_mem hl)
theorem all_id_map {α : Type} (f : α → Bool) (l : List α) : (l.map f).all id = l.all f := by rw [List.all_map]; rfl
section
variable {J : It} {n : Nat} {G : Hp → Prop} {Y : Nat → Hp → V → Hp → Prop}
/-- a comprehension of truths, each known -/
theorem lc_bools (w : Walk J n G Y) (f : Nat → Bool) {g : TG} {tt : L2.TT} {te : TE} {vs : List Nat} {σ : L2.St} {H1 : Hp} {D : Addr} {Qd : Hp → Prop} (hD : H1 D = none) (hn : n < 10000000) (hG : ∀ H, Same H1 H → G H)
    (hs : ∀ i x H H', i < n → Same H1 H → Y i H x H' → ∀ (Q4 : VK) (N : Hp → Prop), (∀ H4, Same H H4 → Q4 (.bl (f i)) H4) → g x (wipe σ vs) H' fun σ2 H2 => wipe σ2 vs = wipe σ vs ∧ tt σ2 H2 fun b H3 => if b = true then te σ2 H3 Q4 else N H3)
    (hd : ∀ H, Same H1 H → H D = some (.lst (((List.range n).map f).map V.bl)) → Qd H) :
    ∃ W : Nat → Nat → Hp → Prop, (∃ m, W 0 m (upd H1 D (.lst []))) ∧ ∀ i m H, W i m H →
      (J.stop i H ∧ Qd H) ∨ (J.go i H ∧ ∃ Nx : Hp → Prop, (∀ H', Nx H' → ∃ m', m' < m ∧ W (i + 1) m' H') ∧ ∀ x H', J.yld i H x H' → g x (wipe σ vs) H' fun σ2 H2 => wipe σ2 vs = wipe σ vs ∧ tt σ2 H2 fun b H3 =>
        if b = true then te σ2 H3 fun y H4 => ∃ acc, H4 D = some (.lst acc) ∧ acc.length < sizeLine ∧ Nx (upd H4 D (.lst (acc ++ [y]))) else Nx H3) := by
  refine lc_it w (fun i H => Same H1 H ∧ H D = some (.lst (((List.range i).map f).map V.bl))) ⟨same_new hD _, upd_same⟩ (fun i H _ z => hG H z.1) (fun i x H H' hi z y => ?_) fun H z => hd H z.1 z.2
  refine hs i x H H' hi z.1 y _ _ fun H4 g4 => ?_
  refine ⟨_, g4 _ _ z.2, szt (by rw [List.length_map, List.length_map, List.length_range]; omega), fun b o q => ?_, ?_⟩
  · rw [upd_ne (ne_of_none q hD)]; exact g4 _ _ (z.1 _ _ q)
  · rw [upd_same, List.range_succ, List.map_append, List.map_append] <;> rfl
end
section
variable {J : It} {n : Nat} {G : Hp → Prop} {Y : Nat → Hp → V → Hp → Prop}
/-- a comprehension of values, each known -/
theorem lc_vals (w : Walk J n G Y) (f : Nat → V) {g : TG} {tt : L2.TT} {te : TE} {vs : List Nat} {σ : L2.St} {H1 : Hp} {D : Addr} {Qd : Hp → Prop} (hD : H1 D = none) (hn : n < 10000000) (hG : ∀ H, Same H1 H → G H)
    (hs : ∀ i x H H', i < n → Same H1 H → Y i H x H' → ∀ (Q4 : VK) (N : Hp → Prop), (∀ H4, Same H H4 → Q4 (f i) H4) → g x (wipe σ vs) H' fun σ2 H2 => wipe σ2 vs = wipe σ vs ∧ tt σ2 H2 fun b H3 => if b = true then te σ2 H3 Q4 else N H3)
    (hd : ∀ H, Same H1 H → H D = some (.lst ((List.range n).map f)) → Qd H) :
    ∃ W : Nat → Nat → Hp → Prop, (∃ m, W 0 m (upd H1 D (.lst []))) ∧ ∀ i m H, W i m H →
      (J.stop i H ∧ Qd H) ∨ (J.go i H ∧ ∃ Nx : Hp → Prop, (∀ H', Nx H' → ∃ m', m' < m ∧ W (i + 1) m' H') ∧ ∀ x H', J.yld i H x H' → g x (wipe σ vs) H' fun σ2 H2 => wipe σ2 vs = wipe σ vs ∧ tt σ2 H2 fun b H3 =>
        if b = true then te σ2 H3 fun y H4 => ∃ acc, H4 D = some (.lst acc) ∧ acc.length < sizeLine ∧ Nx (upd H4 D (.lst (acc ++ [y]))) else Nx H3) := by
  refine lc_it w (fun i H => Same H1 H ∧ H D = some (.lst ((List.range i).map f))) ⟨same_new hD _, upd_same⟩ (fun i H _ z => hG H z.1) (fun i x H H' hi z y => ?_) fun H z => hd H z.1 z.2
  refine hs i x H H' hi z.1 y _ _ fun H4 g4 => ?_
  refine ⟨_, g4 _ _ z.2, szt (by rw [List.length_map, List.length_range]; omega), fun b o q => ?_, ?_⟩
  · rw [upd_ne (ne_of_none q hD)]; exact g4 _ _ (z.1 _ _ q)
  · rw [upd_same, List.range_succ, List.map_append] <;> rfl
end
/-- all pairs of one list and another: truths, each known -/
def rowsB (f : Nat → Nat → Bool) (n m : Nat) : List Bool := (List.range n).flatMap fun i => (List.range m).map (f i)
theorem rowsB_all (f : Nat → Nat → Bool) (n m : Nat) : (rowsB f n m).all id = (List.range n).all fun i => (List.range m).all (f i) := by
  unfold rowsB
  rw [List.all_flatMap]
  congr 1
  funext i
  exact all_id_map _ _
theorem rowsB_succ (f : Nat → Nat → Bool) (n m : Nat) : rowsB f (n + 1) m = rowsB f n m ++ (List.range m).map (f n) := by
  unfold rowsB
  rw [List.range_succ, List.flatMap_append]; simp
theorem rowsB_len (f : Nat → Nat → Bool) : ∀ n m : Nat, (rowsB f n m).length = n * m
  | 0, m => by simp [rowsB]
  | n + 1, m => by rw [rowsB_succ, List.length_append, rowsB_len f n m, List.length_map, List.length_range, Nat.succ_mul]
theorem lc2_bools {K : PySem.W.Frag} {a b D : Addr} {xs ys : List V} {s0 i0 i1 : Nat} {te : TE} {vs vs1 : List Nat} {σ : L2.St} {H1 : Hp} {Qd : Hp → Prop} (f : Nat → Nat → Bool) (hD : H1 D = none) (ha : H1 a = some (.lst xs)) (hb : H1 b = some (.lst ys)) (hn : xs.length * ys.length < 1000000)
    (hv : ∀ x, ((wipe σ vs).set i0 (some x))[s0]? = some (some (.ref b))) (hw : ∀ x, wipe ((wipe σ vs).set i0 (some x)) vs = wipe σ vs) (hw1 : ∀ x y, wipe ((wipe ((wipe σ vs).set i0 (some x)) vs1).set i1 (some y)) vs1 = wipe ((wipe σ vs).set i0 (some x)) vs1)
    (hs : ∀ i j x y H, xs[i]? = some x → ys[j]? = some y → Same H1 H → ∀ Q4 : VK, (∀ H4, Same H H4 → Q4 (.bl (f i j)) H4) → te ((wipe ((wipe σ vs).set i0 (some x)) vs1).set i1 (some y)) H Q4)
    (hd : ∀ H, Same H1 H → H D = some (.lst ((rowsB f xs.length ys.length).map V.bl)) → Qd H) :
    ∃ W : Nat → Nat → Hp → Prop, (∃ m, W 0 m (upd H1 D (.lst []))) ∧ ∀ i m H, W i m H →
      ((Itl K a).stop i H ∧ Qd H) ∨ ((Itl K a).go i H ∧ ∃ Nx : Hp → Prop, (∀ H', Nx H' → ∃ m', m' < m ∧ W (i + 1) m' H') ∧ ∀ x H', (Itl K a).yld i H x H' → gName i0 x (wipe σ vs) H' fun σ2 H2 => wipe σ2 vs = wipe σ vs ∧ tYes σ2 H2 fun b H3 =>
        if b = true then iList K (tVar s0) σ2 H3 fun J1 H4 => ∃ W1 : Nat → Nat → Hp → Prop, (∃ m, W1 0 m H4) ∧ ∀ j k H, W1 j k H →
          (J1.stop j H ∧ Nx H) ∨ (J1.go j H ∧ ∃ Nx1 : Hp → Prop, (∀ H', Nx1 H' → ∃ k', k' < k ∧ W1 (j + 1) k' H') ∧ ∀ x H', J1.yld j H x H' → gName i1 x (wipe σ2 vs1) H' fun σ3 H5 => wipe σ3 vs1 = wipe σ2 vs1 ∧ tYes σ3 H5 fun b H6 =>
            if b = true then te σ3 H6 fun y H7 => ∃ acc, H7 D = some (.lst acc) ∧ acc.length < sizeLine ∧ Nx1 (upd H7 D (.lst (acc ++ [y]))) else Nx1 H6)
        else Nx H3) := by
  have w1 := walk_list (K := K) (a := a) (xs := xs)
  have w2 := walk_list (K := K) (a := b) (xs := ys)
  refine ⟨fun i m H' => m = xs.length - i ∧ i ≤ xs.length ∧ Same H1 H' ∧ H' D = some (.lst ((rowsB f i ys.length).map V.bl)), ⟨_, rfl, Nat.zero_le _, same_new hD _, upd_same⟩, ?_⟩
  rintro i m H3 ⟨rfl, hi, g3, h3⟩
  by_cases hlt : i < xs.length
  rotate_left
  · have e : i = xs.length := by omega
    subst e
    exact .inl ⟨w1.stops H3 (.of (g3 _ _ ha)), hd _ g3 h3⟩
  refine .inr ⟨w1.goes i H3 hlt (.of (g3 _ _ ha)), fun H' => i + 1 ≤ xs.length ∧ Same H1 H' ∧ H' D = some (.lst ((rowsB f (i + 1) ys.length).map V.bl)), fun H' z => ⟨xs.length - (i + 1), by omega, rfl, z.1, z.2⟩, fun x H' hy => ?_⟩
  obtain ⟨rfl, hx⟩ := w1.yields i H3 x H' hlt (.of (g3 _ _ ha)) hy
  refine ⟨hw x, ?_⟩
  unfold tYes
  refine iteT ⟨_, hv x, b, rfl, ⟨_, .of (g3 _ _ hb)⟩, ?_⟩
  refine ⟨fun j m H' => m = ys.length - j ∧ j ≤ ys.length ∧ Same H1 H' ∧ H' D = some (.lst ((rowsB f i ys.length ++ (List.range j).map (f i)).map V.bl)), ⟨_, rfl, Nat.zero_le _, g3, by rw [h3]; simp⟩, ?_⟩
  rintro j m H4 ⟨rfl, hj, g4, h4⟩
  by_cases hjt : j < ys.length
  rotate_left
  · have e : j = ys.length := by omega
    subst e
    exact .inl ⟨w2.stops H4 (.of (g4 _ _ hb)), hlt, g4, by rw [h4, rowsB_succ]⟩
  refine .inr ⟨w2.goes j H4 hjt (.of (g4 _ _ hb)), fun H' => j + 1 ≤ ys.length ∧ Same H1 H' ∧ H' D = some (.lst ((rowsB f i ys.length ++ (List.range (j + 1)).map (f i)).map V.bl)), fun H' z => ⟨ys.length - (j + 1), by omega, rfl, z.1, z.2⟩, fun y H' hy => ?_⟩
  obtain ⟨rfl, hyy⟩ := w2.yields j H4 y H' hjt (.of (g4 _ _ hb)) hy
  refine ⟨hw1 x y, ?_⟩
  refine iteT ?_
  refine hs i j x y _ hx hyy g4 _ fun H5 g5 => ?_
  refine ⟨_, g5 _ _ h4, szt ?_, hjt, fun c o q => ?_, ?_⟩
  · rw [List.length_map, List.length_append, rowsB_len, List.length_map, List.length_range]
    have : i * ys.length ≤ xs.length * ys.length := Nat.mul_le_mul_right _ hi
    have : ys.length ≤ xs.length * ys.length := Nat.le_mul_of_pos_left _ (by omega)
    omega
  · rw [upd_ne (ne_of_none q hD)]; exact g5 _ _ (g4 _ _ q)
  · rw [upd_same, List.range_succ]
    simp
/-! ### slices and sums of tuples, whichever object tells them -/
section
variable {K : PySem.W.Frag} {a b : Addr} {xs ys : List V} {H : Hp} {Q : VK}
theorem slA_any {lo hi : Option Int} (h : H a = some (.tup xs)) (k : ∀ b H', Same H H' → H' b = some (.tup (cutV xs lo hi)) → Q (.ref b) H') : rSlA K (.ref a) lo hi H Q := by
  refine ⟨a, xs, rfl, .of h, fun z => k a H (Same.refl _) ?_, fun z p hp => k p _ (same_new hp _) upd_same⟩
  have e : cutV xs lo hi = xs := by
    unfold cutV
    rw [z.1, z.2, List.drop_zero]
    exact List.take_of_length_le (by omega)
  rw [e]; exact h
theorem noP_in {σ : L2.St} {k : Option Int → Hp → Prop} (h : k none H) : tNoPart σ H k := h
theorem catA_any (ha : H a = some (.tup xs)) (hb : H b = some (.tup ys)) (hl : xs.length + ys.length ≤ 10000000) (k : ∀ c H', Same H H' → H' c = some (.tup (xs ++ ys)) → Q (.ref c) H') : rCatA K (.ref a) (.ref b) H Q := by
  refine ⟨a, b, xs, ys, rfl, rfl, .of ha, .of hb, szl hl, fun z => k b H (Same.refl _) ?_, fun _ z => k a H (Same.refl _) ?_, fun _ _ p hp => k p _ (same_new hp _) upd_same⟩
  · rw [z]; exact hb
  · rw [z, List.append_nil]; exact ha
theorem cutA_from {n : Nat} : cutV xs (some ((n : Nat) : Int)) none = xs.drop n := by
  have h1 : HT.sIx xs.length 0 (some ((n : Nat) : Int)) = min n xs.length := HT.sIx_nat _ _ n
  have h2 : HT.sIx xs.length xs.length none = xs.length := rfl
  unfold cutV
  rw [h1, h2]
  by_cases c : n ≤ xs.length
  · rw [Nat.min_eq_left c]; exact List.take_of_length_le (by rw [List.length_drop]; omega)
  · rw [Nat.min_eq_right (by omega), List.drop_of_length_le (by omega : xs.length ≤ n), List.drop_length, List.take_nil]
theorem cutA_to {n : Nat} : cutV xs none (some ((n : Nat) : Int)) = xs.take n := by
  have h1 : HT.sIx xs.length xs.length (some ((n : Nat) : Int)) = min n xs.length := HT.sIx_nat _ _ n
  have h2 : HT.sIx xs.length 0 none = 0 := rfl
  unfold cutV
  rw [h1, h2, List.drop_zero, Nat.sub_zero]
  by_cases c : n ≤ xs.length
  · rw [Nat.min_eq_left c]
  · rw [Nat.min_eq_right (by omega), List.take_length, List.take_of_length_le (by omega)]
end
/-! ### None in a tuple -/
def rInT (K : PySem.W.Frag) (neg : Bool) : R2 := fun x y H Q => ∃ d ds, Dp K H x d ∧ Dp K H y (.tuple ds) ∧ SeqAt.shaped d = true ∧ SeqAt.shaped (.tuple ds) = true ∧ Q (.bl (if neg then !(ds.any fun z => PyData.eqv z d) else ds.any fun z => PyData.eqv z d)) H
section
variable {X : Cx}
theorem op_inT {K : PySem.W.Frag} (hu : X.A.units + 65 < cLine) (e : X.K = K := by rfl) : OpR X (compareOp .In) (rInT K false) := by
  subst e
  intro pins s σ H x y v u Q I rx ry h
  obtain ⟨d, ds, hd, he, sd, se, q⟩ := h
  obtain ⟨as, r1⟩ := Dp.reads I d x v hd rx
  obtain ⟨bs, r2⟩ := Dp.reads I (.tuple ds) y u he ry
  exact SeqAt.in_tuple_reads r2 r1 (SeqAt.canLay_of_shaped se) (SeqAt.canLay_of_shaped sd) (room_in_shaped sd hu) ⟨.bl _, H, I, rfl, q⟩
theorem op_notInT {K : PySem.W.Frag} (hu : X.A.units + 65 < cLine) (e : X.K = K := by rfl) : OpR X (compareOp .NotIn) (rInT K true) := by
  subst e
  intro pins s σ H x y v u Q I rx ry h
  obtain ⟨d, ds, hd, he, sd, se, q⟩ := h
  obtain ⟨as, r1⟩ := Dp.reads I d x v hd rx
  obtain ⟨bs, r2⟩ := Dp.reads I (.tuple ds) y u he ry
  exact SeqAt.notIn_tuple_reads r2 r1 (SeqAt.canLay_of_shaped se) (SeqAt.canLay_of_shaped sd) (room_in_shaped sd hu) ⟨.bl _, H, I, rfl, q⟩
end
end Fp
/-! rows of views, as data: what the program asks, what the law asks, and that both are one -/
namespace Fp
open PySem PySem.Spec PyProof.Rows L2
def adjLt (l : List Int) : Bool := (List.range (l.length - 1)).all fun i => decide (l.getD i 0 < l.getD (i + 1) 0)
theorem getD_lt {l : List Int} {i : Nat} (h : i < l.length) : l.getD i 0 = l[i] := by rw [List.getD_eq_getElem?_getD, List.getElem?_eq_getElem h] <;> rfl
theorem adjLt_iff : ∀ {l : List Int}, adjLt l = true ↔ l.Pairwise (· < ·)
  | [] => by simp [adjLt]
  | [a] => by simp [adjLt]
  | a :: b :: r => by
    have ih := adjLt_iff (l := b :: r)
    have e : adjLt (a :: b :: r) = (decide (a < b) && adjLt (b :: r)) := by
      unfold adjLt
      rw [show (a :: b :: r).length - 1 = r.length + 1 by simp, List.range_succ_eq_map, List.all_cons, List.all_map]
      simp [Function.comp_def]
    rw [e, Bool.and_eq_true, ih, decide_eq_true_iff]
    constructor
    · rintro ⟨h1, h2⟩
      refine List.pairwise_cons.mpr ⟨fun x hx => ?_, h2⟩
      rcases List.mem_cons.mp hx with rfl | hx
      · exact h1
      · exact Int.lt_trans h1 ((List.pairwise_cons.mp h2).1 x hx)
    · intro h
      exact ⟨(List.pairwise_cons.mp h).1 b (by simp), (List.pairwise_cons.mp h).2⟩
def lotOf : Dt → List Int
  | .tup ds => ds.map Dt.toInt
  | _ => []
def lotB : Dt → Bool
  | .tup ds => ds.all Dt.wnn && adjLt (ds.map Dt.toInt)
  | _ => false
def viewB (n h : Int) (d : Dt) : Bool := lotB d && (decide (h ∈ lotOf d) && decide ((lotOf d).getLastD 0 < n))
def fitB (p q : Int × List Int) : Bool := if q.1 ∈ p.2 then q.2.all (fun x => decide (x ∈ p.2)) else p.2.all (fun x => decide (x ∈ q.2))
/-- where a row has views -/
def thr (ds : List Dt) : List Nat := (List.range ds.length).filter fun i => !(ds.getD i .non).isNon
def vwAt (ds : List Dt) (i : Nat) : List Int := lotOf (ds.getD i .non)
def prs (ds : List Dt) : List (Int × List Int) := (thr ds).map fun i : Nat => (((i : Nat) : Int), vwAt ds i)
def vwsB (n : Int) (ds : List Dt) : Bool := (List.range ds.length).all fun i => (ds.getD i .non).isNon || viewB n i (ds.getD i .non)
def atB (n : Nat) : Dt → Bool
  | .tup ds => decide (ds.length = n) && (vwsB n ds && (decide (0 < (prs ds).length) && (prs ds).all fun p => (prs ds).all fun q => fitB p q))
  | _ => false
def hasNon : Dt → Bool
  | .tup ds => ds.any Dt.isNon
  | _ => false
def wholeB (n : Nat) (d : Dt) : Bool := atB n d && !hasNon d
/-- the law's own look -/
def inB (n : Int) (d : Dt) : Bool := d.isInt && decide (0 ≤ d.toInt ∧ d.toInt ≤ n)
def lotOfB (n : Int) : Dt → Bool
  | .tup ds => ds.all (inB (n - 1)) && adjLt (ds.map Dt.toInt)
  | _ => false
def withinB (l m : List Int) : Bool := l.all fun x => decide (x ∈ m)
def okPair (ds : List Dt) (i j : Nat) : Bool :=
  (withinB (vwAt ds i) (vwAt ds j) || withinB (vwAt ds j) (vwAt ds i)) && !(decide (((i : Nat) : Int) ∈ vwAt ds j) && !withinB (vwAt ds i) (vwAt ds j))
def lawVw (n : Int) (ds : List Dt) (i : Nat) : Bool := lotOfB n (ds.getD i .non) && decide ((i : Int) ∈ vwAt ds i)
def lawRowB (n : Nat) : Dt → Bool
  | .tup ds => (decide (ds.length = n) && !(ds.all Dt.isNon)) && ((thr ds).all (lawVw n ds) && (thr ds).all fun i => (thr ds).all fun j => okPair ds i j)
  | _ => false
theorem mem_thr {ds : List Dt} {i : Nat} : i ∈ thr ds ↔ i < ds.length ∧ (ds.getD i .non).isNon = false := by
  unfold thr
  rw [List.mem_filter, List.mem_range]
  simp
theorem last_lt {l : List Int} (hp : l.Pairwise (· < ·)) (x : Int) (hx : x ∈ l) : x ≤ l.getLastD 0 := by
  rcases List.eq_nil_or_concat l with rfl | ⟨l0, z, e⟩
  · cases hx
  · rw [List.concat_eq_append] at e
    subst e
    rw [List.getLastD_eq_getLast?, List.getLast?_append]
    simp only [List.getLast?_singleton, Option.some_or, Option.getD_some]
    rcases List.mem_append.mp hx with h | h
    · exact Int.le_of_lt ((List.pairwise_append.mp hp).2.2 x h z (by simp))
    · rw [List.mem_singleton.mp h]; exact Int.le_refl _
theorem last_mem {l : List Int} (h : l ≠ []) : l.getLastD 0 ∈ l := by
  rcases List.eq_nil_or_concat l with rfl | ⟨l0, z, e⟩
  · exact absurd rfl h
  · rw [List.concat_eq_append] at e
    subst e
    rw [List.getLastD_eq_getLast?, List.getLast?_append]
    simp
theorem wnn_iff {x : Dt} : x.wnn = true ↔ x.isInt = true ∧ 0 ≤ x.toInt := by
  cases x <;> simp [Dt.wnn, Dt.isInt, Dt.toInt]
theorem inB_iff {n : Int} {x : Dt} : inB n x = true ↔ x.isInt = true ∧ 0 ≤ x.toInt ∧ x.toInt ≤ n := by
  unfold inB
  rw [Bool.and_eq_true, decide_eq_true_iff]
theorem lotB_tup {es : List Dt} : lotB (.tup es) = true ↔ (∀ x ∈ es, x.isInt = true ∧ 0 ≤ x.toInt) ∧ (es.map Dt.toInt).Pairwise (· < ·) := by
  show (es.all Dt.wnn && adjLt (es.map Dt.toInt)) = true ↔ _
  rw [Bool.and_eq_true, List.all_eq_true, adjLt_iff]
  exact and_congr (forall_congr' fun x => forall_congr' fun _ => wnn_iff) Iff.rfl
theorem lotOfB_tup {n : Int} {es : List Dt} : lotOfB n (.tup es) = true ↔ (∀ x ∈ es, x.isInt = true ∧ 0 ≤ x.toInt ∧ x.toInt ≤ n - 1) ∧ (es.map Dt.toInt).Pairwise (· < ·) := by
  show (es.all (inB (n - 1)) && adjLt (es.map Dt.toInt)) = true ↔ _
  rw [Bool.and_eq_true, List.all_eq_true, adjLt_iff]
  exact and_congr (forall_congr' fun x => forall_congr' fun _ => inB_iff) Iff.rfl
theorem viewB_iff {n h : Int} {d : Dt} : viewB n h d = true ↔ lotB d = true ∧ h ∈ lotOf d ∧ (lotOf d).getLastD 0 < n := by
  unfold viewB
  rw [Bool.and_eq_true, Bool.and_eq_true, decide_eq_true_iff, decide_eq_true_iff]
theorem lawVw_iff {n : Int} {ds : List Dt} {i : Nat} : lawVw n ds i = true ↔ lotOfB n (ds.getD i .non) = true ∧ ((i : Nat) : Int) ∈ lotOf (ds.getD i .non) := by
  unfold lawVw vwAt
  rw [Bool.and_eq_true, decide_eq_true_iff]
theorem view_one {n h : Int} {d : Dt} : viewB n h d = true ↔ lotOfB n d = true ∧ h ∈ lotOf d := by
  rw [viewB_iff]
  cases d with
  | tup es =>
    rw [lotB_tup, lotOfB_tup]
    show _ ∧ h ∈ es.map Dt.toInt ∧ (es.map Dt.toInt).getLastD 0 < n ↔ _ ∧ h ∈ es.map Dt.toInt
    constructor
    · rintro ⟨⟨h1, h2⟩, h3, h4⟩
      refine ⟨⟨fun x hx => ?_, h2⟩, h3⟩
      have l := last_lt h2 x.toInt (List.mem_map.mpr ⟨_, hx, rfl⟩)
      obtain ⟨a, b⟩ := h1 x hx
      exact ⟨a, b, by omega⟩
    · rintro ⟨⟨h1, h2⟩, h3⟩
      refine ⟨⟨fun x hx => ⟨(h1 x hx).1, (h1 x hx).2.1⟩, h2⟩, h3, ?_⟩
      have hm := last_mem (l := es.map Dt.toInt) (fun z => by rw [z] at h3; cases h3)
      obtain ⟨x, hx, e⟩ := List.mem_map.mp hm
      have hw := (h1 x hx).2.2
      rw [← e]
      omega
  | non => exact ⟨fun z => (by cases z.1), fun z => (by cases z.1)⟩
  | bl _ => exact ⟨fun z => (by cases z.1), fun z => (by cases z.1)⟩
  | int _ => exact ⟨fun z => (by cases z.1), fun z => (by cases z.1)⟩
  | oth => exact ⟨fun z => (by cases z.1), fun z => (by cases z.1)⟩
theorem view_law {n : Int} {ds : List Dt} {i : Nat} : viewB n i (ds.getD i .non) = lawVw n ds i := by
  rw [Bool.eq_iff_iff, lawVw_iff, view_one]
theorem vws_thr {n : Int} {ds : List Dt} : vwsB n ds = (thr ds).all (lawVw n ds) := by
  unfold vwsB
  rw [Bool.eq_iff_iff, List.all_eq_true, List.all_eq_true]
  constructor
  · intro h i hi
    obtain ⟨h1, h2⟩ := mem_thr.mp hi
    have := h i (List.mem_range.mpr h1)
    rw [h2, Bool.false_or, view_law] at this
    exact this
  · intro h i hi
    cases e : (ds.getD i .non).isNon with
    | true => rfl
    | false =>
      rw [Bool.false_or, view_law]
      exact h i (mem_thr.mpr ⟨List.mem_range.mp hi, e⟩)
theorem within_iff {l m : List Int} : withinB l m = true ↔ ∀ x ∈ l, x ∈ m := by
  unfold withinB
  simp
theorem fit_iff {a b : Int} {l m : List Int} : fitB (a, l) (b, m) = true ↔ (b ∈ l → ∀ x ∈ m, x ∈ l) ∧ (b ∉ l → ∀ x ∈ l, x ∈ m) := by
  unfold fitB
  dsimp only
  by_cases h : b ∈ l
  · rw [if_pos h]; simp [h]
  · rw [if_neg h]; simp [h]
theorem pair_iff {ds : List Dt} {i j : Nat} : okPair ds i j = true ↔ ((∀ x ∈ vwAt ds i, x ∈ vwAt ds j) ∨ ∀ x ∈ vwAt ds j, x ∈ vwAt ds i) ∧ ((i : Int) ∈ vwAt ds j → ∀ x ∈ vwAt ds i, x ∈ vwAt ds j) := by
  unfold okPair
  rw [Bool.and_eq_true, Bool.or_eq_true, within_iff, within_iff]
  refine and_congr Iff.rfl ?_
  rw [Bool.not_eq_true', Bool.and_eq_false_iff, decide_eq_false_iff_not, Bool.not_eq_false', within_iff]
  by_cases h : (i : Int) ∈ vwAt ds j <;> simp [h]
/-- both looks are one -/
theorem fits_pairs {n : Int} {ds : List Dt} (hv : (thr ds).all (lawVw n ds) = true) : ((prs ds).all fun p => (prs ds).all fun q => fitB p q) = (thr ds).all fun i => (thr ds).all fun j => okPair ds i j := by
  have own : ∀ i ∈ thr ds, (i : Int) ∈ vwAt ds i := fun i hi => by
    have := List.all_eq_true.mp hv i hi
    unfold lawVw at this
    rw [Bool.and_eq_true, decide_eq_true_eq] at this
    exact this.2
  unfold prs
  rw [List.all_map, Bool.eq_iff_iff]
  simp only [List.all_eq_true, Function.comp_apply, List.all_map]
  constructor
  · intro h i hi j hj
    have a := fit_iff.mp (h i hi j hj)
    have b := fit_iff.mp (h j hj i hi)
    refine pair_iff.mpr ⟨?_, b.1⟩
    by_cases c : (j : Int) ∈ vwAt ds i
    · exact .inr (a.1 c)
    · exact .inl (a.2 c)
  · intro h i hi j hj
    have a := pair_iff.mp (h i hi j hj)
    have b := pair_iff.mp (h j hj i hi)
    refine fit_iff.mpr ⟨b.2, fun c => ?_⟩
    rcases a.1 with z | z
    · exact z
    · exact absurd (z _ (own j hj)) c
theorem law_row {n : Nat} (hn : 0 < n) : ∀ d, lawRowB n d = atB n d
  | .tup ds => by
    unfold lawRowB atB
    dsimp only
    by_cases hl : ds.length = n
    · rw [decide_eq_true hl, Bool.true_and, Bool.true_and, vws_thr]
      cases hv : (thr ds).all (lawVw n ds) with
      | false => rw [Bool.false_and, Bool.false_and, Bool.and_false]
      | true =>
        rw [Bool.true_and, Bool.true_and, fits_pairs hv]
        congr 1
        rw [Bool.eq_iff_iff, decide_eq_true_eq, Bool.not_eq_true', List.all_eq_false]
        unfold prs
        rw [List.length_map, List.length_pos_iff_exists_mem]
        constructor
        · rintro ⟨d, hd, h⟩
          obtain ⟨i, hi⟩ := List.mem_iff_getElem?.mp hd
          refine ⟨i, mem_thr.mpr ⟨(List.getElem?_eq_some_iff.mp hi).1, ?_⟩⟩
          rw [List.getD_eq_getElem?_getD, hi]
          simpa using h
        · rintro ⟨i, hi⟩
          obtain ⟨h1, h2⟩ := mem_thr.mp hi
          refine ⟨ds[i], List.getElem_mem h1, ?_⟩
          rw [List.getD_eq_getElem?_getD, List.getElem?_eq_getElem h1] at h2
          simp only [Option.getD_some] at h2
          rw [h2]; simp
    · rw [decide_eq_false hl]
      rfl
  | .non => rfl
  | .bl _ => rfl
  | .int _ => rfl
  | .oth => rfl
end Fp
namespace Fp
open PySem PySem.Spec PyProof.Rows L2
def top (i : Nat) : Stmt := PySem.Challenge.pw_fewplaymany_k63_whole_fewer_said_more_br.main.body.getD i (.Pass ⟨0, 0, 0, 0⟩)
structure RTx (mg : Str → Option Value) : Prop where
  isinstance : mg "isinstance" = none
  int : mg "int" = none
  bool : mg "bool" = none
  tuple : mg "tuple" = none
  list : mg "list" = none
  all : mg "all" = none
  any : mg "any" = none
  len : mg "len" = none
  sum : mg "sum" = none
  abs : mg "abs" = none
  max : mg "max" = none
  min : mg "min" = none
  range : mg "range" = none
  repr : mg "repr" = none
  set : mg "set" = none
  sorted : mg "sorted" = none
  zip : mg "zip" = none
  enumerate : mg "enumerate" = none
  str : mg "str" = none
  c_FIGURES : ∃ t, mg "FIGURES" = some (.str "0123456789" t)
  c_MOST_FIGURES : ∃ t, mg "MOST_FIGURES" = some (.int 4000 t)
  c_MOST_LINES : ∃ t, mg "MOST_LINES" = some (.int 20 t)
  c_MOST_BROUGHT : ∃ t, mg "MOST_BROUGHT" = some (.int 4 t)
  c_MOST_LEFT : ∃ t, mg "MOST_LEFT" = some (.int 6 t)
  c_MOST_SPOKEN : ∃ t, mg "MOST_SPOKEN" = some (.int 8 t)
def spWhD : Sp := fun vs H Q _ => ∃ v d, vs = [v] ∧ DV H v d ∧ Q (.bl d.isInt) H
def spLotD : Sp := fun vs H Q _ => ∃ v d, vs = [v] ∧ DV H v d ∧ ∀ H', Same H H' → Q (.bl (lotB d)) H'
def spViewD : Sp := fun vs H Q _ => ∃ (n h : Int) (v : V) (d : Dt), vs = [.int n, .int h, v] ∧ DV H v d ∧ ∀ H', Same H H' → Q (.bl (viewB n h d)) H'
def spLiesD : Sp := fun vs H Q _ => ∃ (a b : Addr) (l m : List Int), vs = [.ref a, .ref b] ∧ H a = some (.tup (l.map V.int)) ∧ H b = some (.tup (m.map V.int)) ∧ l.length ≤ 1000 ∧ ∀ H', Same H H' → Q (.bl (withinB l m)) H'
def spFitD : Sp := fun vs H Q _ => ∃ (t u a b : Addr) (p q : Int) (l m : List Int), vs = [.ref t, .ref u] ∧ H t = some (.tup [.int p, .ref a]) ∧ H u = some (.tup [.int q, .ref b]) ∧ H a = some (.tup (l.map V.int)) ∧ H b = some (.tup (m.map V.int)) ∧ l.length ≤ 1000 ∧ m.length ≤ 1000 ∧ ∀ H', Same H H' → Q (.bl (fitB (p, l) (q, m))) H'
def spChkD : Sp := fun vs H Q _ => ∃ n : Nat, vs = [.int n] ∧ 1 ≤ n ∧ n ≤ 5 ∧ Q .non H
def spAtD : Sp := fun vs H Q _ => ∃ (n : Nat) (v : V) (d : Dt), vs = [.int n, v] ∧ 1 ≤ n ∧ n ≤ 5 ∧ DV H v d ∧ ∀ H', Same H H' → Q (.bl (atB n d)) H'
def spRowD : Sp := fun vs H Q _ => ∃ (n : Nat) (v : V) (d : Dt), vs = [.int n, v] ∧ 1 ≤ n ∧ n ≤ 5 ∧ DV H v d ∧ ∀ H', Same H H' → Q (.bl (wholeB n d)) H'
theorem int_flat : ∀ l : List Int, (l.map V.int).all flatV = true
  | [] => rfl
  | a :: l => by
    show (flatV (V.int a) && (l.map V.int).all flatV) = true
    rw [int_flat l]; rfl
theorem inV_int (p : Int) (l : List Int) : inV (.int p) (l.map V.int) = decide (p ∈ l) := by
  unfold inV
  rw [List.any_map, Bool.eq_iff_iff, List.any_eq_true, decide_eq_true_iff]
  have e : ∀ a b : Int, eqV (V.int a) (V.int b) = true ↔ a = b := fun a b => by
    show (a == b) = true ↔ a = b
    rw [beq_iff_eq]
  constructor
  · rintro ⟨x, hx, h⟩
    have := (e x p).mp h
    rw [← this]; exact hx
  · intro h
    exact ⟨p, h, (e p p).mpr rfl⟩
theorem inI (p : Int) (l : List Int) : (if false = true then !inV (.int p) (l.map V.int) else inV (.int p) (l.map V.int)) = decide (p ∈ l) := by rw [inV_int]; rfl
theorem op_in_seqK {X : Cx} {K : PySem.W.Frag} (e : X.K = K := by rfl) : OpR X (compareOp .In) (rIn K false) := by subst e; exact op_in_seq
/-- a lot's values -/
theorem DVs.ints {H : Hp} : ∀ {xs : List V} {ds : List Dt}, DVs H xs ds → (∀ x ∈ ds, x.isInt = true) → xs = (ds.map Dt.toInt).map V.int
  | _, _, .nil, _ => rfl
  | _, _, .cons h t, k => by
    have e := DVs.ints t fun x hx => k x (List.mem_cons_of_mem _ hx)
    have i := k _ List.mem_cons_self
    cases h with
    | int i => rw [e]; rfl
    | _ => cases i
theorem DV.lot {H : Hp} {v : V} {d : Dt} (h : DV H v d) (l : lotB d = true) : ∃ a, v = .ref a ∧ H a = some (.tup ((lotOf d).map V.int)) ∧ (lotOf d).length ≤ 1000 := by
  cases h with
  | @tup a xs ds ha t hl =>
    have := DVs.ints t fun x hx => ((lotB_tup.mp l).1 x hx).1
    rw [this] at ha
    exact ⟨a, rfl, ha, by show (ds.map Dt.toInt).length ≤ _; rw [List.length_map]; exact hl⟩
  | _ => cases l
section
variable {P : Program} {w : World} {K : PySem.W.Frag} {mg : Str → Option Value} {base : Heap} {f : Addr} {fd : FuncData} {C : Addr}
abbrev s_is_whole : Stmt := top 8
theorem sc_is_whole : FnScope ["value"] ["value"] (defScope s_is_whole) := ⟨rfl, rfl, rfl, by decide +kernel, rfl, by decide +kernel, by decide +kernel⟩
theorem ok_is_whole (F : Fun K "is_whole" "is_whole" s_is_whole f fd) (T : RTx mg) : FnOk P w K mg base CX0 1 f fd ["value"] spWhD := by
  refine F.ok sc_is_whole (fun vs H Q E h => ?_) (fun cdv A outer s H vs Q E hr h => ?_)
  · obtain ⟨v, d, rfl, _⟩ := h
    rfl
  obtain ⟨v, d, rfl, hd, q⟩ := h
  refine ⟨_, (pss_one (ps_ret (pe_and (pe_callB call_isi rfl T.isinstance (by decide +kernel) (pa_cons (pv 0) (pa_cons (pe_bltn (v := .ty "int") rfl T.int boot_int rfl) pa_nil))) (pe_one (pe_not (pe_callB call_isi rfl T.isinstance (by decide +kernel) (pa_cons (pv 0) (pa_cons (pe_bltn (v := .ty "bool") rfl T.bool boot_bool rfl) pa_nil)))))))), ?_⟩
  obtain ⟨t, ty, k1, k2, _⟩ := hd.ty (K := K)
  refine ⟨_, rfl, _, _, _, _, _, rfl, .ty "int", ty, k1, _, rfl, ite2 (fun c => ?_) (fun c => ?_)⟩
  · refine ⟨_, rfl, _, _, _, _, _, rfl, .ty "bool", ty, k2, _, rfl, ?_⟩
    have e : d.isInt = !d.isBl := by cases d <;> first | rfl | cases c
    rw [e] at q
    exact q
  · have e : d.isInt = false := by cases d <;> first | rfl | exact absurd rfl c
    rw [e] at q
    exact q
abbrev s_is_lot : Stmt := top 9
theorem sc_is_lot : FnScope ["value", "one", "other", "thing"] ["value"] (defScope s_is_lot) := ⟨rfl, rfl, rfl, by decide +kernel, rfl, by decide +kernel, by decide +kernel⟩
theorem ok_is_lot (F : Fun K "is_lot" "is_lot" s_is_lot f fd) (T : RTx mg) (G_is_whole : Fd P w K mg base CX0 "is_whole" 1 ["value"] spWhD) : FnOk P w K mg base CX0 2 f fd ["value"] spLotD := by
  refine F.ok sc_is_lot (fun vs H Q E h => ?_) (fun cdv A outer s H vs Q E hr h => ?_)
  · obtain ⟨v, d, rfl, _⟩ := h
    rfl
  obtain ⟨v, d, rfl, hd, k⟩ := h
  refine ⟨_, (pss_cons (ps_if (pt_not (pt_val (pe_callB call_isi rfl T.isinstance (by decide +kernel) (pa_cons (pv 0) (pa_cons (pe_bltn (v := .ty "tuple") rfl T.tuple boot_tuple rfl) pa_nil))))) (pss_one (ps_ret pe_bl)) pss_nil)
  (pss_cons (ps_if (pt_not (pt_val (pe_callB (cr_all rfl) rfl T.all (by decide +kernel) (pa_cons (pe_lc (own := [("thing", 3)]) (g := (gName 3)) (tt := tYes) rfl sc_is_lot.nd (pi_tup (pv 0)) (blkOk_by (own := [("thing", 3)]) (N := ["value", "one", "other", "thing"]) (sc := defScope s_is_lot) (by decide +kernel)) (fun _ _ _ _ _ => (pg_name (i := 3) sc_is_lot.nd rfl (Or.inl rfl))) (fun _ _ _ _ _ => pts_nil) (fun _ _ _ _ _ => (pe_and (pe_fd G_is_whole (hr.mono (by first | decide | omega)) rfl (pa_cons (pv 3) pa_nil)) (pe_one (pe_cmpR op_ge (pv 3) pe_int (nomark _)))))) pa_nil)))) (pss_one (ps_ret pe_bl)) pss_nil)
  (pss_one (ps_ret (pe_callB (cr_all rfl) rfl T.all (by decide +kernel) (pa_cons (pe_lc (own := [("one", 1), ("other", 2)]) (g := (gTup K 2 (gCons (gName 1) (gCons (gName 2) gNil)))) (tt := tYes) rfl sc_is_lot.nd (RZ.pi_zipA rfl T.zip (pa_cons (pv 0) (pa_cons (pe_slice sl_tupA (pv 0) (po_some pe_int) po_none) pa_nil))) (blkOk_by (own := [("one", 1), ("other", 2)]) (N := ["value", "one", "other", "thing"]) (sc := defScope s_is_lot) (by decide +kernel)) (fun _ _ _ _ _ => (pg_tup rfl (pgs_cons (pg_name (i := 1) sc_is_lot.nd rfl (Or.inl rfl)) (pgs_cons (pg_name (i := 2) sc_is_lot.nd rfl (Or.inl rfl)) pgs_nil)))) (fun _ _ _ _ _ => pts_nil) (fun _ _ _ _ _ => (pe_cmpR op_lt (pv 1) (pv 2) (nomark _)))) pa_nil)))))), ?_⟩
  obtain ⟨t, ty, _, _, k3⟩ := hd.ty (K := K)
  refine ⟨_, rfl, _, _, _, _, _, rfl, .ty "tuple", ty, k3, _, rfl, ite2 (fun c => ?_) (fun c => ?_)⟩
  · have e : lotB d = false := by cases d <;> first | rfl | cases c
    rw [e] at k
    exact k _ (Same.refl _)
  cases hd with
  | @tup a xs ds ha hds hl =>
    have hxl := hds.len
    refine ⟨_, rfl, a, rfl, ⟨_, .of ha⟩, fun D hD => ?_⟩
    refine lc_bools walk_tup (fun i => (ds.getD i .non).wnn) hD (by omega) (fun H' g => .of (g _ _ ha)) (fun i x H1 H2 hi g y Q4 N kk => ?_) fun H1 g1 h1 => ?_
    · obtain ⟨rfl, hx⟩ := y
      obtain ⟨dx, hdx, vx⟩ := DVs.at_ hds hx
      have eg : ds.getD i .non = dx := by rw [List.getD_eq_getElem?_getD, hdx] <;> rfl
      rw [eg] at kk
      have vx1 := vx.same g
      refine ⟨rfl, ?_⟩
      unfold tYes
      refine iteT ?_
      refine ⟨_, rfl, _, _, rfl, vx1, _, rfl, ite2 (fun c => ?_) (fun c => ?_)⟩
      · cases vx1 with
        | int z => exact ⟨_, rfl, _, _, rfl, rfl, kk _ (Same.refl _)⟩
        | _ => cases c
      · have e : dx.wnn = false := by cases dx <;> first | rfl | exact absurd rfl c
        rw [e] at kk
        exact kk _ (Same.refl _)
    refine ⟨D, _, rfl, .of h1, _, rfl, ?_⟩
    rw [all_id_map, hxl, all_getD]
    refine ite2 (fun c2 => ?_) (fun c2 => ?_)
    · have e : lotB (.tup ds) = false := by
        show (ds.all Dt.wnn && adjLt (ds.map Dt.toInt)) = false
        rw [show ds.all Dt.wnn = false by simpa using c2]; rfl
      rw [e] at k
      exact k _ g1
    have hw : ds.all Dt.wnn = true := by simpa using c2
    have ei : xs = (ds.map Dt.toInt).map V.int := DVs.ints hds fun x hx => (wnn_iff.mp (List.all_eq_true.mp hw x hx)).1
    have el : lotB (.tup ds) = adjLt (ds.map Dt.toInt) := by
      show (ds.all Dt.wnn && adjLt (ds.map Dt.toInt)) = _
      rw [hw]; rfl
    generalize hg : ds.map Dt.toInt = l at ei el
    have hll : l.length ≤ 1000 := by rw [← hg, List.length_map]; exact hl
    subst ei
    rw [el] at k
    have ha1 := g1 _ _ ha
    refine ⟨_, rfl, _, rfl, 1, rfl, ?_⟩
    refine noP_in ?_
    refine slA_any ha1 fun b H2 g2 hb => ?_
    rw [show (1 : Int) = ((1 : Nat) : Int) from rfl, cutA_from, ← List.map_drop] at hb
    refine ⟨a, b, l.map V.int, (l.drop 1).map V.int, rfl, .inr ⟨.of (g2 _ _ ha1), .of hb, fun D2 hD2 => ?_⟩⟩
    have wz := walk_zipT (K := K) (a := a) (b := b) (xs := l.map V.int) (ys := (l.drop 1).map V.int) (n := l.length - 1) (by rw [List.length_map, List.length_map, List.length_drop]; omega)
    refine lc_bools wz (fun i => decide (l.getD i 0 < l.getD (i + 1) 0)) hD2 (by omega) (fun H' g => ⟨.of (g _ _ (g2 _ _ ha1)), .of (g _ _ hb)⟩) (fun i x H3 H4 hi g y Q4 N kk => ?_) fun H3 g3 h3 => ?_
    · obtain ⟨T', x1, x2, rfl, nT, rfl, e1, e2⟩ := y
      have e1 : (l.map V.int)[i]? = some x1 := e1
      have e2 : ((l.drop 1).map V.int)[i]? = some x2 := e2
      rw [List.getElem?_map, List.getElem?_eq_getElem (by omega)] at e1
      rw [List.getElem?_map, List.getElem?_drop, Nat.add_comm, List.getElem?_eq_getElem (by omega)] at e2
      cases e1
      cases e2
      rw [getD_lt (by omega), getD_lt (by omega)] at kk
      have g4 := same_new nT (.tup [V.int l[i], V.int l[i + 1]])
      exact ⟨T', _, rfl, .of upd_same, rfl, _, _, rfl, _, _, rfl, rfl, rfl, _, rfl, _, rfl, _, _, rfl, rfl, kk _ g4⟩
    refine ⟨D2, _, rfl, .of h3, ?_⟩
    rw [all_id_map]
    exact k _ ((g1.trans g2).trans g3)
  | _ => exact absurd rfl c
abbrev s_lies_in : Stmt := top 14
theorem sc_lies_in : FnScope ["lot", "other", "word"] ["lot", "other"] (defScope s_lies_in) := ⟨rfl, rfl, rfl, by decide +kernel, rfl, by decide +kernel, by decide +kernel⟩
theorem ok_lies_in (F : Fun K "lies_in" "lies_in" s_lies_in f fd) (T : RTx mg) : FnOk P w K mg base CX0 1 f fd ["lot", "other"] spLiesD := by
  refine F.ok sc_lies_in (fun vs H Q E h => ?_) (fun cdv A outer s H vs Q E hr h => ?_)
  · obtain ⟨a, b, l, m, rfl, _⟩ := h
    rfl
  obtain ⟨a, b, l, m, rfl, ha, hb, hl, k⟩ := h
  refine ⟨_, (pss_one (ps_ret (pe_callB (cr_all rfl) rfl T.all (by decide +kernel) (pa_cons (pe_lc (own := [("word", 2)]) (g := (gName 2)) (tt := tYes) rfl sc_lies_in.nd (pi_tup (pv 0)) (blkOk_by (own := [("word", 2)]) (N := ["lot", "other", "word"]) (sc := defScope s_lies_in) (by decide +kernel)) (fun _ _ _ _ _ => (pg_name (i := 2) sc_lies_in.nd rfl (Or.inl rfl))) (fun _ _ _ _ _ => pts_nil) (fun _ _ _ _ _ => (pe_cmpR op_in_seqK (pv 2) (pv 1) rfl))) pa_nil)))), ?_⟩
  refine ⟨_, rfl, a, rfl, ⟨_, .of ha⟩, fun D hD => ?_⟩
  refine lc_bools walk_tup (fun i => decide (l.getD i 0 ∈ m)) hD (by rw [List.length_map]; omega) (fun H' g => .of (g _ _ ha)) (fun i x H1 H2 hi g y Q4 N kk => ?_) fun H1 g1 h1 => ?_
  · obtain ⟨rfl, hx⟩ := y
    rw [List.length_map] at hi
    rw [List.getElem?_map, List.getElem?_eq_getElem hi] at hx
    cases hx
    rw [getD_lt hi] at kk
    refine ⟨rfl, _, rfl, _, rfl, b, _, rfl, .inr (.of (g _ _ hb)), rfl, int_flat m, ?_⟩
    rw [inI]
    exact kk _ (Same.refl _)
  refine ⟨D, _, rfl, .of h1, ?_⟩
  rw [all_id_map, List.length_map, all_getD (p := fun x => decide (x ∈ m)) (x := (0 : Int))]
  exact k _ g1
end
end Fp
/-! values without truths and texts: compared -/
namespace Fp
open PySem PySem.Spec PyProof.Rows L2
/-- None, integers, tuples of such, at most so deep -/
def pl : Nat → Dt → Bool
  | _, .non => true
  | _, .int _ => true
  | k + 1, .tup ds => ds.all (pl k)
  | _, _ => false
def toP : Nat → Dt → PyData
  | _, .non => .none
  | _, .int i => .int i
  | k + 1, .tup ds => .tuple (ds.map (toP k))
  | _, _ => .none
theorem pl_tup {k : Nat} {ds : List Dt} : pl (k + 1) (.tup ds) = true ↔ ∀ d ∈ ds, pl k d = true := by
  show ds.all (pl k) = true ↔ _
  rw [List.all_eq_true]
theorem pl_up : ∀ {k : Nat} {d : Dt}, pl k d = true → pl (k + 1) d = true
  | _, .non, _ => by unfold pl; rfl
  | _, .int _, _ => by unfold pl; rfl
  | 0, .tup ds, h => by cases h
  | k + 1, .tup ds, h => pl_tup.mpr fun d hd => pl_up (pl_tup.mp h d hd)
  | 0, .bl _, h => by cases h
  | k + 1, .bl _, h => by cases h
  | 0, .oth, h => by cases h
  | k + 1, .oth, h => by cases h
theorem toP_depth : ∀ {k : Nat} {d : Dt}, (toP k d).depth ≤ k
  | 0, .non => by simp [toP, PyData.depth]
  | 0, .int _ => by simp [toP, PyData.depth]
  | 0, .tup _ => by simp [toP, PyData.depth]
  | 0, .bl _ => by simp [toP, PyData.depth]
  | 0, .oth => by simp [toP, PyData.depth]
  | k + 1, .non => by simp [toP, PyData.depth]
  | k + 1, .int _ => by simp [toP, PyData.depth]
  | k + 1, .bl _ => by simp [toP, PyData.depth]
  | k + 1, .oth => by simp [toP, PyData.depth]
  | k + 1, .tup ds => by
    show PyData.depth (.tuple (ds.map (toP k))) ≤ k + 1
    simp only [PyData.depth]
    have : ∀ l : List Dt, PyData.depthAll (l.map (toP k)) ≤ k := fun l => by
      induction l with
      | nil => simp [PyData.depthAll]
      | cons a r ih =>
        rw [List.map_cons]
        simp only [PyData.depthAll]
        have := toP_depth (k := k) (d := a)
        omega
    have := this ds
    omega
theorem toP_lay : ∀ {k : Nat} {d : Dt}, (toP k d).canLay0 = true
  | 0, .non => by simp [toP, PyData.canLay0]
  | 0, .int _ => by simp [toP, PyData.canLay0]
  | 0, .tup _ => by simp [toP, PyData.canLay0]
  | 0, .bl _ => by simp [toP, PyData.canLay0]
  | 0, .oth => by simp [toP, PyData.canLay0]
  | k + 1, .non => by simp [toP, PyData.canLay0]
  | k + 1, .int _ => by simp [toP, PyData.canLay0]
  | k + 1, .bl _ => by simp [toP, PyData.canLay0]
  | k + 1, .oth => by simp [toP, PyData.canLay0]
  | k + 1, .tup ds => by
    show PyData.canLay0 (.tuple (ds.map (toP k))) = true
    simp only [PyData.canLay0]
    induction ds with
    | nil => simp [PyData.canLayAll0]
    | cons a r ih =>
      rw [List.map_cons]
      simp only [PyData.canLayAll0, Bool.and_eq_true]
      exact ⟨toP_lay, ih⟩
theorem toP_shaped {k : Nat} {d : Dt} (hk : k ≤ 64) : SeqAt.shaped (toP k d) = true := by
  unfold SeqAt.shaped
  rw [toP_lay, Bool.true_and]
  exact decide_eq_true (Nat.le_trans toP_depth hk)
theorem dps_map {K : PySem.W.Frag} {H : Hp} {f : Dt → PyData} : ∀ {xs : List V} {ds : List Dt}, DVs H xs ds → (∀ d ∈ ds, ∀ v, DV H v d → Dp K H v (f d)) → DpAll K H xs (ds.map f)
  | _, _, .nil, _ => .nil
  | _, _, .cons h t, g => .cons (g _ List.mem_cons_self _ h) (dps_map t fun d hd => g d (List.mem_cons_of_mem _ hd))
theorem DV.dp {K : PySem.W.Frag} {H : Hp} : ∀ {k : Nat} {v : V} {d : Dt}, DV H v d → pl k d = true → Dp K H v (toP k d) := by
  intro k
  induction k with
  | zero =>
    intro v d h p
    cases h with
    | non => exact .non
    | int i => exact .int i
    | _ => cases p
  | succ k ih =>
    intro v d h p
    cases h with
    | non => exact .non
    | int i => exact .int i
    | @tup a xs ds ha hds hl => exact .tup (.of ha) (dps_map hds fun d hd v hv => ih hv (pl_tup.mp p d hd))
    | _ => cases p
theorem eqvAll_map {f : Dt → PyData} : ∀ {ds es : List Dt}, (∀ d ∈ ds, ∀ e ∈ es, (PyData.eqv (f d) (f e) = true ↔ d = e)) → (PyData.eqvAll (ds.map f) (es.map f) = true ↔ ds = es)
  | [], [], _ => by simp [PyData.eqvAll]
  | [], _ :: _, _ => by simp [PyData.eqvAll]
  | _ :: _, [], _ => by simp [PyData.eqvAll]
  | a :: r, b :: s, g => by
    have ih := eqvAll_map (ds := r) (es := s) fun d hd e he => g d (List.mem_cons_of_mem _ hd) e (List.mem_cons_of_mem _ he)
    rw [List.map_cons, List.map_cons]
    simp only [PyData.eqvAll, Bool.and_eq_true, List.cons.injEq]
    rw [ih, g a (by simp) b (by simp)]
theorem eqv_iff : ∀ {k : Nat} {d e : Dt}, pl k d = true → pl k e = true → (PyData.eqv (toP k d) (toP k e) = true ↔ d = e) := by
  intro k
  induction k with
  | zero =>
    intro d e hd he
    cases d <;> cases e <;> first | (simp [toP, PyData.eqv]; done) | (cases hd; done) | (cases he; done)
  | succ k ih =>
    intro d e hd he
    cases d with
    | tup ds =>
      cases e with
      | tup es =>
        show PyData.eqv (.tuple (ds.map (toP k))) (.tuple (es.map (toP k))) = true ↔ _
        simp only [PyData.eqv, Dt.tup.injEq]
        exact eqvAll_map fun d h e h' => ih (pl_tup.mp hd d h) (pl_tup.mp he e h')
      | _ => first | (simp [toP, PyData.eqv]; done) | (cases he; done)
    | _ => cases e <;> first | (simp [toP, PyData.eqv]; done) | (cases hd; done) | (cases he; done)
/-- whether two such values are one -/
def rNeP (K : PySem.W.Frag) : R2 := fun x y H Q => ∃ d e, DV H x d ∧ DV H y e ∧ pl 3 d = true ∧ pl 3 e = true ∧ ∀ b : Bool, (b = true ↔ d ≠ e) → Q (.bl b) H
def rEqP (K : PySem.W.Frag) : R2 := fun x y H Q => ∃ d e, DV H x d ∧ DV H y e ∧ pl 3 d = true ∧ pl 3 e = true ∧ ∀ b : Bool, (b = true ↔ d = e) → Q (.bl b) H
theorem op_neP {X : Cx} {K : PySem.W.Frag} (hu : X.A.units + 64 < cLine) (e : X.K = K := by rfl) : OpR X (compareOp .NotEq) (rNeP K) := by
  subst e
  intro pins s σ H x y v u Q I rx ry h
  obtain ⟨d, e, hd, he, pd, pe, q⟩ := h
  refine op_neD hu pins s σ H x y v u Q I rx ry ⟨_, _, hd.dp pd, he.dp pe, toP_shaped (by decide), toP_shaped (by decide), q _ ?_⟩
  rw [Bool.not_eq_true', ← Bool.not_eq_true, eqv_iff pd pe]
theorem op_eqP {X : Cx} {K : PySem.W.Frag} (hu : X.A.units + 64 < cLine) (e : X.K = K := by rfl) : OpR X (compareOp .Eq) (rEqP K) := by
  subst e
  intro pins s σ H x y v u Q I rx ry h
  obtain ⟨d, e, hd, he, pd, pe, q⟩ := h
  exact op_eqD hu pins s σ H x y v u Q I rx ry ⟨_, _, hd.dp pd, he.dp pe, toP_shaped (by decide), toP_shaped (by decide), q _ (eqv_iff pd pe)⟩
/-- None in a tuple -/
def rNoneInT (K : PySem.W.Frag) (neg : Bool) : R2 := fun x y H Q => ∃ ds, x = .non ∧ DV H y (.tup ds) ∧ pl 3 (.tup ds) = true ∧ Q (.bl (if neg then !(ds.any Dt.isNon) else ds.any Dt.isNon)) H
theorem non_any {k : Nat} {ds : List Dt} : (ds.map (toP k)).any (fun z => PyData.eqv z .none) = ds.any Dt.isNon ∨ ¬ ∀ d ∈ ds, pl k d = true := by
  by_cases h : ∀ d ∈ ds, pl k d = true
  · left
    rw [List.any_map, Bool.eq_iff_iff, List.any_eq_true, List.any_eq_true]
    have e : ∀ d ∈ ds, (((fun z => PyData.eqv z .none) ∘ toP k) d = true ↔ d.isNon = true) := fun d hd => by
      show PyData.eqv (toP k d) .none = true ↔ _
      have hp := h d hd
      cases d <;> cases k <;> first | (simp [toP, PyData.eqv, Dt.isNon]; done) | (cases hp; done)
    constructor
    · rintro ⟨d, hd, q⟩
      exact ⟨d, hd, (e d hd).mp q⟩
    · rintro ⟨d, hd, q⟩
      exact ⟨d, hd, (e d hd).mpr q⟩
  · exact .inr h
theorem op_noneIn' {X : Cx} {K : PySem.W.Frag} (hu : X.A.units + 65 < cLine) (e : X.K = K := by rfl) : OpR X (compareOp .In) (rNoneInT K false) := by
  intro pins s σ H x y v u Q I rx ry h
  obtain ⟨ds, rfl, hd, pd, q⟩ := h
  refine op_inT hu e pins s σ H _ y v u Q I rx ry ⟨_, ds.map (toP 2), .non, hd.dp pd, rfl, toP_shaped (k := 3) (d := .tup ds) (by decide), ?_⟩
  rcases non_any (k := 2) (ds := ds) with z | z
  · rw [z]; exact q
  · exact absurd (pl_tup.mp pd) z
theorem op_noneNotIn' {X : Cx} {K : PySem.W.Frag} (hu : X.A.units + 65 < cLine) (e : X.K = K := by rfl) : OpR X (compareOp .NotIn) (rNoneInT K true) := by
  intro pins s σ H x y v u Q I rx ry h
  obtain ⟨ds, rfl, hd, pd, q⟩ := h
  refine op_notInT hu e pins s σ H _ y v u Q I rx ry ⟨_, ds.map (toP 2), .non, hd.dp pd, rfl, toP_shaped (k := 3) (d := .tup ds) (by decide), ?_⟩
  rcases non_any (k := 2) (ds := ds) with z | z
  · rw [z]; exact q
  · exact absurd (pl_tup.mp pd) z
/-- t == (), t any tuple -/
def rEqE (K : PySem.W.Frag) : R2 := fun x y H Q => ∃ a b xs, x = .ref a ∧ y = .ref b ∧ H a = some (.tup xs) ∧ H b = some (.tup []) ∧ Q (.bl xs.isEmpty) H
theorem op_eqE {X : Cx} {K : PySem.W.Frag} (hu : X.A.units + 64 < cLine) (e : X.K = K := by rfl) : OpR X (compareOp .Eq) (rEqE K) := by
  subst e
  intro pins s σ H x y v u Q I rx ry h
  obtain ⟨a, b, xs, rfl, rfl, ha, hb, q⟩ := h
  cases rx
  cases ry
  obtain ⟨its, r, ht, _⟩ := I.tuple (xs := xs) (.of ha)
  obtain ⟨its2, r2, ht2, _⟩ := I.tuple (xs := []) (.of hb)
  cases r2
  refine SeqAt.eq_tupleAt (e := fun _ => true) ht ht2 (by omega) (fun j _ h2 => absurd h2 (by simp)) ⟨.bl xs.isEmpty, H, I, ?_, q⟩
  have hl := r.length
  cases xs with
  | nil => cases r; rfl
  | cons x t =>
    cases r
    show Value.bool _ = Value.bool false
    simp
/-! ### good rows -/
theorem lot_data {d : Dt} (h : lotB d = true) : d = .tup ((lotOf d).map Dt.int) ∧ pl 1 d = true := by
  cases d with
  | tup es =>
    have hw := (lotB_tup.mp h).1
    have e : es = (es.map Dt.toInt).map Dt.int := by
      rw [List.map_map]
      refine (List.map_id es).symm.trans (List.map_congr_left fun x hx => ?_)
      have := (hw x hx).1
      cases x with
      | int i => rfl
      | _ => cases this
    refine ⟨congrArg Dt.tup e, pl_tup.mpr fun x hx => ?_⟩
    have := (hw x hx).1
    cases x with
    | int i => rfl
    | _ => cases this
  | _ => cases h
theorem at_tup {n : Nat} {d : Dt} (h : atB n d = true) : ∃ ds, d = .tup ds ∧ ds.length = n ∧ vwsB n ds = true := by
  cases d with
  | tup ds =>
    unfold atB at h
    dsimp only at h
    rw [Bool.and_eq_true, Bool.and_eq_true, decide_eq_true_eq] at h
    exact ⟨ds, rfl, h.1, h.2.1⟩
  | _ => cases h
theorem at_pl {n : Nat} {d : Dt} (h : atB n d = true) : pl 2 d = true := by
  obtain ⟨ds, rfl, hl, hv⟩ := at_tup h
  refine pl_tup.mpr fun x hx => ?_
  obtain ⟨i, hi⟩ := List.mem_iff_getElem?.mp hx
  have hil := (List.getElem?_eq_some_iff.mp hi).1
  have := List.all_eq_true.mp hv i (List.mem_range.mpr hil)
  rw [List.getD_eq_getElem?_getD, hi] at this
  simp only [Option.getD_some] at this
  rcases Bool.or_eq_true_iff.mp this with z | z
  · cases x with
    | non => rfl
    | _ => cases z
  · exact (lot_data (viewB_iff.mp z).1).2
end Fp
/-! chains of rows: the mathematics -/
namespace Fp
open PySem PySem.Spec PyProof.Rows L2
theorem srt_eq : ∀ {l m : List Int}, l.Pairwise (· < ·) → m.Pairwise (· < ·) → (∀ x, x ∈ l ↔ x ∈ m) → l = m
  | [], [], _, _, _ => rfl
  | [], b :: m, _, _, h => absurd ((h b).mpr (by simp)) (by simp)
  | a :: l, [], _, _, h => absurd ((h a).mp (by simp)) (by simp)
  | a :: l, b :: m, h1, h2, h => by
    obtain ⟨p1, q1⟩ := List.pairwise_cons.mp h1
    obtain ⟨p2, q2⟩ := List.pairwise_cons.mp h2
    have e : a = b := by
      have ha := (h a).mp (by simp)
      have hb := (h b).mpr (by simp)
      rcases List.mem_cons.mp ha with z | z
      · exact z
      · rcases List.mem_cons.mp hb with y | y
        · exact y.symm
        · have := p2 a z
          have := p1 b y
          omega
    subst e
    rw [srt_eq q1 q2 fun x => ?_]
    constructor
    · intro hx
      have hl := p1 x hx
      rcases List.mem_cons.mp ((h x).mp (List.mem_cons_of_mem _ hx)) with z | z
      · omega
      · exact z
    · intro hx
      have hl := p2 x hx
      rcases List.mem_cons.mp ((h x).mpr (List.mem_cons_of_mem _ hx)) with z | z
      · omega
      · exact z
theorem srt_nodup {l : List Int} (h : l.Pairwise (· < ·)) : l.Nodup := h.imp fun h => by omega
theorem nodup_le {α : Type} [DecidableEq α] : ∀ {l m : List α}, l.Nodup → (∀ x ∈ l, x ∈ m) → l.length ≤ m.length
  | [], _, _, _ => Nat.zero_le _
  | a :: l, m, h, s => by
    obtain ⟨h1, h2⟩ := List.nodup_cons.mp h
    have ha := s a (by simp)
    have := nodup_le (m := m.erase a) h2 fun y hy => (List.mem_erase_of_ne (fun (e : y = a) => h1 (by rw [← e]; exact hy))).mpr (s y (List.mem_cons_of_mem _ hy))
    rw [List.length_erase_of_mem ha] at this
    have := List.length_pos_of_mem ha
    rw [List.length_cons]
    omega
/-- a subset that is no smaller is the whole -/
theorem sub_eq {l m : List Int} (hl : l.Nodup) (h : ∀ x ∈ l, x ∈ m) (hm : m.length ≤ l.length) : ∀ x ∈ m, x ∈ l := by
  intro x hx
  refine Classical.byContradiction fun n => ?_
  have := nodup_le (m := m.erase x) hl fun y hy => (List.mem_erase_of_ne (fun (e : y = x) => n (by rw [← e]; exact hy))).mpr (h y hy)
  rw [List.length_erase_of_mem hx] at this
  have : 0 < m.length := List.length_pos_of_mem hx
  omega
abbrev Row' := List (List Int)
structure RowOk (n : Nat) (r : Row') : Prop where
  len : r.length = n
  up : ∀ (i : Nat) (l : List Int), r[i]? = some l → List.Pairwise (· < ·) l
  rng : ∀ (i : Nat) (l : List Int), r[i]? = some l → ∀ x ∈ l, 0 ≤ x ∧ x < n
  self : ∀ (i : Nat) (l : List Int), r[i]? = some l → (i : Int) ∈ l
  cmp : ∀ (i j : Nat) (l m : List Int), r[i]? = some l → r[j]? = some m → (∀ x ∈ l, x ∈ m) ∨ ∀ x ∈ m, x ∈ l
  fit : ∀ (i j : Nat) (l m : List Int), r[i]? = some l → r[j]? = some m → (i : Int) ∈ m → ∀ x ∈ l, x ∈ m
def lotD (l : List Int) : Dt := .tup (l.map Dt.int)
def rowD (r : Row') : Dt := .tup (r.map lotD)
theorem lotOf_lotD (l : List Int) : lotOf (lotD l) = l := by
  show (l.map Dt.int).map Dt.toInt = l
  rw [List.map_map]
  exact List.map_id'' (fun _ => rfl) l
theorem lotD_inj {l m : List Int} (h : lotD l = lotD m) : l = m := by rw [← lotOf_lotD l, h, lotOf_lotD]
theorem vwAt_row {r : Row'} {i : Nat} {l : List Int} (h : r[i]? = some l) : vwAt (r.map lotD) i = l ∧ ((r.map lotD).getD i .non) = lotD l := by
  have e : ((r.map lotD).getD i .non) = lotD l := by rw [List.getD_eq_getElem?_getD, List.getElem?_map, h]; rfl
  exact ⟨by unfold vwAt; rw [e, lotOf_lotD], e⟩
theorem thr_row (r : Row') (i : Nat) : i ∈ thr (r.map lotD) ↔ i < r.length := by
  rw [mem_thr, List.length_map]
  refine ⟨fun h => h.1, fun h => ⟨h, ?_⟩⟩
  rw [(vwAt_row (List.getElem?_eq_getElem h)).2]; rfl
theorem lotOfB_lotD {n : Int} {l : List Int} : lotOfB n (lotD l) = true ↔ (∀ x ∈ l, 0 ≤ x ∧ x < n) ∧ l.Pairwise (· < ·) := by
  unfold lotD
  rw [lotOfB_tup, List.map_map, show (Dt.toInt ∘ Dt.int) = id from rfl, List.map_id]
  refine and_congr ?_ Iff.rfl
  constructor
  · intro h x hx
    have := h (.int x) (List.mem_map.mpr ⟨x, hx, rfl⟩)
    obtain ⟨_, a, b⟩ := this
    have a : 0 ≤ x := a
    have b : x ≤ n - 1 := b
    omega
  · intro h d hd
    obtain ⟨x, hx, rfl⟩ := List.mem_map.mp hd
    have := h x hx
    exact ⟨rfl, this.1, by show x ≤ n - 1; omega⟩
/-- a whole good row is one of views -/
theorem rowok_iff {n : Nat} (hn : 0 < n) {r : Row'} : wholeB n (rowD r) = true ↔ RowOk n r := by
  have hnon : hasNon (rowD r) = false := by
    show (r.map lotD).any Dt.isNon = false
    rw [List.any_eq_false]
    intro d hd
    obtain ⟨l, _, rfl⟩ := List.mem_map.mp hd
    simp [lotD, Dt.isNon]
  unfold wholeB
  rw [hnon, Bool.not_false, Bool.and_true, ← law_row hn]
  unfold rowD lawRowB
  dsimp only
  rw [Bool.and_eq_true, Bool.and_eq_true, Bool.and_eq_true, decide_eq_true_eq, List.all_eq_true, List.all_eq_true, List.length_map]
  constructor
  · rintro ⟨⟨h1, _⟩, h2, h3⟩
    have vw : ∀ i l, r[i]? = some l → lawVw n (r.map lotD) i = true := fun i l h => h2 i ((thr_row r i).mpr (List.getElem?_eq_some_iff.mp h).1)
    have pr : ∀ i j l m, r[i]? = some l → r[j]? = some m → okPair (r.map lotD) i j = true := fun i j l m h h' => by
      have := h3 i ((thr_row r i).mpr (List.getElem?_eq_some_iff.mp h).1)
      rw [List.all_eq_true] at this
      exact this j ((thr_row r j).mpr (List.getElem?_eq_some_iff.mp h').1)
    refine ⟨h1, fun i l h => ?_, fun i l h => ?_, fun i l h => ?_, fun i j l m h h' => ?_, fun i j l m h h' => ?_⟩
    · have := (lawVw_iff.mp (vw i l h)).1
      rw [(vwAt_row h).2, lotOfB_lotD] at this
      exact this.2
    · have := (lawVw_iff.mp (vw i l h)).1
      rw [(vwAt_row h).2, lotOfB_lotD] at this
      exact this.1
    · have := (lawVw_iff.mp (vw i l h)).2
      rw [(vwAt_row h).2, lotOf_lotD] at this
      exact this
    · have := (pair_iff.mp (pr i j l m h h')).1
      rw [(vwAt_row h).1, (vwAt_row h').1] at this
      exact this
    · have := (pair_iff.mp (pr i j l m h h')).2
      rw [(vwAt_row h).1, (vwAt_row h').1] at this
      exact this
  · intro R
    refine ⟨⟨R.len, ?_⟩, fun i hi => ?_, fun i hi => ?_⟩
    · rw [Bool.not_eq_true', List.all_eq_false]
      have h0 : 0 < r.length := by rw [R.len]; exact hn
      exact ⟨lotD r[0], List.mem_map.mpr ⟨_, List.getElem_mem h0, rfl⟩, by simp [lotD, Dt.isNon]⟩
    · have h := List.getElem?_eq_getElem ((thr_row r i).mp hi)
      refine lawVw_iff.mpr ?_
      rw [(vwAt_row h).2, lotOfB_lotD, lotOf_lotD]
      exact ⟨⟨R.rng i _ h, R.up i _ h⟩, R.self i _ h⟩
    · rw [List.all_eq_true]
      intro j hj
      have h := List.getElem?_eq_getElem ((thr_row r i).mp hi)
      have h' := List.getElem?_eq_getElem ((thr_row r j).mp hj)
      refine pair_iff.mpr ?_
      rw [(vwAt_row h).1, (vwAt_row h').1]
      exact ⟨R.cmp i j _ _ h h', R.fit i j _ _ h h'⟩
theorem whole_row {n : Nat} (hn : 0 < n) {d : Dt} (h : wholeB n d = true) : ∃ r, d = rowD r ∧ RowOk n r := by
  have h' := h
  unfold wholeB at h
  rw [Bool.and_eq_true, Bool.not_eq_true'] at h
  obtain ⟨ds, rfl, hl, hv⟩ := at_tup h.1
  have hnn : ∀ d ∈ ds, d.isNon = false := fun d hd => by
    have := List.any_eq_false.mp (show ds.any Dt.isNon = false from h.2) d hd
    simpa using this
  have e : ds = (ds.map lotOf).map lotD := by
    rw [List.map_map]
    refine (List.map_id ds).symm.trans (List.map_congr_left fun x hx => ?_)
    obtain ⟨i, hi⟩ := List.mem_iff_getElem?.mp hx
    have hil := (List.getElem?_eq_some_iff.mp hi).1
    have := List.all_eq_true.mp hv i (List.mem_range.mpr hil)
    rw [List.getD_eq_getElem?_getD, hi] at this
    simp only [Option.getD_some] at this
    rw [hnn x hx, Bool.false_or] at this
    exact (lot_data (viewB_iff.mp this).1).1
  have e2 : Dt.tup ds = rowD (ds.map lotOf) := congrArg Dt.tup e
  rw [e2] at h' ⊢
  exact ⟨_, rfl, (rowok_iff hn).mp h'⟩
end Fp
/-! the way from a row to the row of all, and chains -/
namespace Fp
open PySem PySem.Spec PyProof.Rows L2
/-- unlike at just one place -/
def Unl (r s : Row') : Prop := r.length = s.length ∧ ∃ a : Nat, a < r.length ∧ r[a]? ≠ s[a]? ∧ ∀ b, b ≠ a → r[b]? = s[b]?
theorem Unl.symm {r s : Row'} (h : Unl r s) : Unl s r := by
  obtain ⟨e, a, h1, h2, h3⟩ := h
  exact ⟨e.symm, a, by omega, Ne.symm h2, fun b hb => (h3 b hb).symm⟩
theorem near_set {r : Row'} {a : Nat} {l : List Int} (h : r.set a l ≠ r) : Unl r (r.set a l) := by
  have ha : a < r.length := Classical.byContradiction fun c => h (List.set_eq_of_length_le (by omega))
  refine ⟨by rw [List.length_set], a, ha, fun e => h ?_, fun b hb => by rw [List.getElem?_set_ne (Ne.symm hb)]⟩
  rw [List.getElem?_set_self ha, List.getElem?_eq_getElem ha] at e
  have e := Option.some.inj e
  rw [← e]
  exact List.set_getElem_self ha
/-- neighbours are unlike at just one place -/
def Lnk (ls : List Row') : Prop := ∀ (i : Nat) (x y : Row'), ls[i]? = some x → ls[i + 1]? = some y → Unl x y
theorem Lnk.rev {ls : List Row'} (h : Lnk ls) : Lnk ls.reverse := by
  intro i x y hx hy
  have hi : i + 1 < ls.length := by
    have := (List.getElem?_eq_some_iff.mp hy).1
    rwa [List.length_reverse] at this
  rw [List.getElem?_reverse (by omega)] at hx hy
  have e : ls.length - 1 - i = (ls.length - 1 - (i + 1)) + 1 := by omega
  rw [e] at hx
  exact (h _ _ _ hy hx).symm
theorem Lnk.cons {a b : Row'} {ls : List Row'} (h : Unl a b) (g : Lnk (b :: ls)) : Lnk (a :: b :: ls) := by
  intro i x y hx hy
  cases i with
  | zero => cases hx; cases hy; exact h
  | succ i => exact g i x y hx hy
theorem Lnk.tail {a : Row'} {ls : List Row'} (g : Lnk (a :: ls)) : Lnk ls := fun i x y hx hy => g (i + 1) x y hx hy
theorem lnk_nil : Lnk [] := fun i x y hx _ => by simp at hx
theorem lnk_one (a : Row') : Lnk [a] := fun i x y hx hy => by simp at hy
theorem Lnk.app : ∀ {ls ms : List Row'} {z : Row'}, Lnk (ls ++ [z]) → Lnk (z :: ms) → Lnk (ls ++ [z] ++ ms)
  | [], ms, z, _, g => g
  | [a], ms, z, h, g => Lnk.cons (h 0 a z rfl rfl) g
  | a :: b :: r, ms, z, h, g => Lnk.cons (h 0 a b rfl rfl) (Lnk.app (ls := b :: r) h.tail g)
/-- doubles out -/
def ddL : Row' → List Row' → List Row'
  | _, [] => []
  | p, x :: xs => if x = p then ddL x xs else x :: ddL x xs
theorem dd_snoc : ∀ (p : Row') (xs : List Row') (x : Row'), ddL p (xs ++ [x]) = ddL p xs ++ if x = (p :: xs).getLast (by simp) then [] else [x]
  | p, [], x => by
    by_cases h : x = p <;> simp [ddL, h]
  | p, y :: ys, x => by
    have ih := dd_snoc y ys x
    show (if y = p then ddL y (ys ++ [x]) else y :: ddL y (ys ++ [x])) = (if y = p then ddL y ys else y :: ddL y ys) ++ _
    rw [List.getLast_cons (by simp)]
    split
    · exact ih
    · rw [ih]; rfl
theorem dd_mem : ∀ {p : Row'} {xs : List Row'} {x : Row'}, x ∈ ddL p xs → x ∈ xs
  | _, [], _, h => h
  | p, y :: ys, x, h => by
    unfold ddL at h
    split at h
    · exact List.mem_cons_of_mem _ (dd_mem h)
    · rcases List.mem_cons.mp h with e | h
      · rw [e]; exact List.mem_cons_self
      · exact List.mem_cons_of_mem _ (dd_mem h)
theorem dd_lnk : ∀ {p : Row'} {xs : List Row'}, (∀ (i : Nat) (x y : Row'), (p :: xs)[i]? = some x → (p :: xs)[i + 1]? = some y → y ≠ x → Unl x y) → Lnk (p :: ddL p xs) ∧ (p :: ddL p xs).getLast? = (p :: xs).getLast?
  | p, [], _ => ⟨lnk_one p, rfl⟩
  | p, y :: ys, h => by
    have ih := dd_lnk (p := y) (xs := ys) fun i x z hx hz => h (i + 1) x z hx hz
    unfold ddL
    by_cases e : y = p
    · rw [if_pos e]
      subst e
      refine ⟨ih.1, ih.2.trans ?_⟩
      rw [List.getLast?_cons_cons]
    · rw [if_neg e]
      refine ⟨Lnk.cons (h 0 p y rfl rfl e) ih.1, ?_⟩
      rw [List.getLast?_cons_cons, List.getLast?_cons_cons]
      exact ih.2
/-- hands, by the sizes of their views -/
structure OrdOk (n : Nat) (r : Row') (o : List Nat) : Prop where
  len : o.length = n
  nd : o.Nodup
  lt : ∀ x ∈ o, x < n
  siz : ∀ (i j a b : Nat), i ≤ j → o[i]? = some a → o[j]? = some b → (r.getD a []).length ≤ (r.getD b []).length
/-- the lots of the first hands -/
structure PreOk (o : List Nat) (pre : Nat → List Int) : Prop where
  up : ∀ k, List.Pairwise (· < ·) (pre k)
  mem : ∀ k (x : Int), x ∈ pre k ↔ ∃ a ∈ o.take k, x = ((a : Nat) : Int)
theorem nodup_at {o : List Nat} (h : o.Nodup) {i j a : Nat} (hi : o[i]? = some a) (hj : o[j]? = some a) : i = j := by
  obtain ⟨h1, e1⟩ := List.getElem?_eq_some_iff.mp hi
  obtain ⟨h2, e2⟩ := List.getElem?_eq_some_iff.mp hj
  have := List.pairwise_iff_getElem.mp h
  rcases Nat.lt_trichotomy i j with z | z | z
  · exact absurd (e1.trans e2.symm) (this i j h1 h2 z)
  · exact z
  · exact absurd (e2.trans e1.symm) (this j i h2 h1 z)
theorem mem_take_iff {o : List Nat} {k a : Nat} : a ∈ o.take k ↔ ∃ i, i < k ∧ o[i]? = some a := by
  rw [List.mem_iff_getElem?]
  constructor
  · rintro ⟨i, hi⟩
    rw [List.getElem?_take] at hi
    split at hi
    · exact ⟨i, ‹_›, hi⟩
    · cases hi
  · rintro ⟨i, h1, h2⟩
    exact ⟨i, by rw [List.getElem?_take, if_pos h1]; exact h2⟩
section
variable {n : Nat} {r : Row'} {o : List Nat} {pre : Nat → List Int}
theorem OrdOk.all (O : OrdOk n r o) {a : Nat} (ha : a < n) : ∃ i : Nat, o[i]? = some a ∧ i < n := by
  have : a ∈ o := Classical.byContradiction fun c => by
    have := nodup_le (l := a :: o) (m := List.range n) (List.nodup_cons.mpr ⟨c, O.nd⟩) fun x hx => by
      rcases List.mem_cons.mp hx with e | e
      · rw [e]; exact List.mem_range.mpr ha
      · exact List.mem_range.mpr (O.lt x e)
    rw [List.length_cons, O.len, List.length_range] at this
    omega
  obtain ⟨i, hi⟩ := List.mem_iff_getElem?.mp this
  exact ⟨i, hi, by rw [← O.len]; exact (List.getElem?_eq_some_iff.mp hi).1⟩
theorem OrdOk.get (O : OrdOk n r o) {i : Nat} (hi : i < n) : ∃ a, o[i]? = some a ∧ a < n := by
  have h : i < o.length := by rw [O.len]; exact hi
  exact ⟨o[i], List.getElem?_eq_getElem h, O.lt _ (List.getElem_mem h)⟩
def upR (r : Row') (o : List Nat) (pre : Nat → List Int) : Nat → Row'
  | 0 => r
  | k + 1 => (upR r o pre k).set (o.getD k 0) (pre (k + 1))
def dnR (r : Row') (o : List Nat) (pre : Nat → List Int) (n : Nat) : Nat → Row'
  | 0 => upR r o pre n
  | k + 1 => (dnR r o pre n k).set (o.getD (n - 1 - k) 0) (pre n)
theorem up_len : ∀ k, (upR r o pre k).length = r.length
  | 0 => rfl
  | k + 1 => by unfold upR; rw [List.length_set, up_len k]
theorem dn_len : ∀ k, (dnR r o pre n k).length = r.length
  | 0 => up_len n
  | k + 1 => by unfold dnR; rw [List.length_set, dn_len k]
theorem up_at (O : OrdOk n r o) (hr : r.length = n) : ∀ k, k ≤ n → ∀ i a : Nat, o[i]? = some a → (upR r o pre k)[a]? = if i < k then some (pre (i + 1)) else r[a]?
  | 0, _, i, a, _ => by rw [if_neg (by omega)]; rfl
  | k + 1, hk, i, a, h => by
    have ih := up_at O hr k (by omega) i a h
    obtain ⟨b, hb, hbn⟩ := O.get (i := k) (by omega)
    have eb : o.getD k 0 = b := by rw [List.getD_eq_getElem?_getD, hb]; rfl
    unfold upR
    rw [eb]
    by_cases e : i = k
    · subst e
      rw [h] at hb
      cases hb
      rw [List.getElem?_set_self (by rw [up_len, hr]; exact hbn), if_pos (by omega)]
    · have ne : b ≠ a := fun z => e (nodup_at O.nd h (z ▸ hb))
      rw [List.getElem?_set_ne ne, ih]
      by_cases c : i < k
      · rw [if_pos c, if_pos (by omega)]
      · rw [if_neg c, if_neg (by omega)]
theorem dn_at (O : OrdOk n r o) (hr : r.length = n) : ∀ k, k ≤ n → ∀ i a : Nat, o[i]? = some a → i < n → (dnR r o pre n k)[a]? = some (if i < n - k then pre (i + 1) else pre n)
  | 0, _, i, a, h, hi => by
    unfold dnR
    rw [up_at O hr n (Nat.le_refl n) i a h, if_pos hi, if_pos (by omega)]
  | k + 1, hk, i, a, h, hi => by
    have ih := dn_at O hr k (by omega) i a h hi
    obtain ⟨b, hb, hbn⟩ := O.get (i := n - 1 - k) (by omega)
    have eb : o.getD (n - 1 - k) 0 = b := by rw [List.getD_eq_getElem?_getD, hb]; rfl
    unfold dnR
    rw [eb]
    by_cases e : i = n - 1 - k
    · subst e
      rw [h] at hb
      cases hb
      rw [List.getElem?_set_self (by rw [dn_len, hr]; exact hbn), if_neg (by omega)]
    · have ne : b ≠ a := fun z => e (nodup_at O.nd h (z ▸ hb))
      rw [List.getElem?_set_ne ne, ih]
      by_cases c : i < n - k
      · rw [if_pos c, if_pos (by omega)]
      · rw [if_neg c, if_neg (by omega)]
theorem pre_mono (P : PreOk o pre) {i j : Nat} (h : i ≤ j) : ∀ x ∈ pre i, x ∈ pre j := fun x hx => by
  obtain ⟨a, ha, e⟩ := (P.mem i x).mp hx
  obtain ⟨l, hl, hla⟩ := mem_take_iff.mp ha
  exact (P.mem j x).mpr ⟨a, mem_take_iff.mpr ⟨l, by omega, hla⟩, e⟩
theorem pre_rng (O : OrdOk n r o) (P : PreOk o pre) (k : Nat) : ∀ x ∈ pre k, 0 ≤ x ∧ x < n := fun x hx => by
  obtain ⟨a, ha, e⟩ := (P.mem k x).mp hx
  have := O.lt a (List.mem_of_mem_take ha)
  omega
theorem pre_in (O : OrdOk n r o) (P : PreOk o pre) {i k a : Nat} (h : o[i]? = some a) : ((a : Nat) : Int) ∈ pre k ↔ i < k := by
  rw [P.mem]
  constructor
  · rintro ⟨b, hb, e⟩
    obtain ⟨j, hj, hjb⟩ := mem_take_iff.mp hb
    have e : a = b := by omega
    subst e
    have := nodup_at O.nd h hjb
    omega
  · intro hk
    exact ⟨a, mem_take_iff.mpr ⟨i, hk, h⟩, rfl⟩
theorem RowOk.lenAt (R : RowOk n r) {a : Nat} {l : List Int} (h : r[a]? = some l) : (r.getD a []).length = l.length := by rw [List.getD_eq_getElem?_getD, h]; rfl
/-- the views of hands that come earlier lie in those of later ones -/
theorem earlier (R : RowOk n r) (O : OrdOk n r o) {i j a b : Nat} {l m : List Int} (hij : i ≤ j) (ha : o[i]? = some a) (hb : o[j]? = some b) (hl : r[a]? = some l) (hm : r[b]? = some m) : ∀ x ∈ l, x ∈ m := by
  rcases R.cmp a b l m hl hm with z | z
  · exact z
  · have := O.siz i j a b hij ha hb
    rw [R.lenAt hl, R.lenAt hm] at this
    exact sub_eq (srt_nodup (R.up b m hm)) z (by omega)
theorem pre_sub (R : RowOk n r) (O : OrdOk n r o) (P : PreOk o pre) {k j b : Nat} {m : List Int} (hkj : k ≤ j + 1) (hb : o[j]? = some b) (hm : r[b]? = some m) : ∀ x ∈ pre k, x ∈ m := fun x hx => by
  obtain ⟨a, ha, e⟩ := (P.mem k x).mp hx
  obtain ⟨i, hi, hia⟩ := mem_take_iff.mp ha
  have hla : r[a]? = some (r[a]'(by rw [R.len]; exact O.lt a (List.mem_of_mem_take ha))) := List.getElem?_eq_getElem _
  subst e
  exact earlier R O (by omega) hia hb hla hm _ (R.self a _ hla)
theorem up_ok (R : RowOk n r) (O : OrdOk n r o) (P : PreOk o pre) {k : Nat} (hk : k ≤ n) : RowOk n (upR r o pre k) := by
  have hl : (upR r o pre k).length = n := (up_len k).trans R.len
  have view : ∀ (a : Nat) (l : List Int), (upR r o pre k)[a]? = some l → ∃ i, o[i]? = some a ∧ i < n ∧ ((i < k ∧ l = pre (i + 1)) ∨ (k ≤ i ∧ r[a]? = some l)) := fun a l h => by
    have ha : a < n := by rw [← hl]; exact (List.getElem?_eq_some_iff.mp h).1
    obtain ⟨i, hi, hin⟩ := O.all ha
    refine ⟨i, hi, hin, ?_⟩
    rw [up_at O R.len k hk i a hi] at h
    by_cases c : i < k
    · rw [if_pos c] at h; exact .inl ⟨c, (Option.some.inj h).symm⟩
    · rw [if_neg c] at h; exact .inr ⟨by omega, h⟩
  refine ⟨hl, fun a l h => ?_, fun a l h => ?_, fun a l h => ?_, fun a b l m h h' => ?_, fun a b l m h h' hin => ?_⟩
  · obtain ⟨i, _, _, ⟨_, rfl⟩ | ⟨_, q⟩⟩ := view a l h
    · exact P.up _
    · exact R.up a l q
  · obtain ⟨i, _, _, ⟨_, rfl⟩ | ⟨_, q⟩⟩ := view a l h
    · exact pre_rng O P _
    · exact R.rng a l q
  · obtain ⟨i, hi, _, ⟨_, rfl⟩ | ⟨_, q⟩⟩ := view a l h
    · exact (pre_in O P hi).mpr (by omega)
    · exact R.self a l q
  · obtain ⟨i, hi, _, ⟨c1, rfl⟩ | ⟨c1, q1⟩⟩ := view a l h
    · obtain ⟨j, hj, _, ⟨c2, rfl⟩ | ⟨c2, q2⟩⟩ := view b m h'
      · rcases Nat.le_total (i + 1) (j + 1) with z | z
        · exact .inl (pre_mono P z)
        · exact .inr (pre_mono P z)
      · exact .inl (pre_sub R O P (by omega) hj q2)
    · obtain ⟨j, hj, _, ⟨c2, rfl⟩ | ⟨c2, q2⟩⟩ := view b m h'
      · exact .inr (pre_sub R O P (by omega) hi q1)
      · exact R.cmp a b l m q1 q2
  · obtain ⟨i, hi, _, ⟨c1, rfl⟩ | ⟨c1, q1⟩⟩ := view a l h
    · obtain ⟨j, hj, _, ⟨c2, rfl⟩ | ⟨c2, q2⟩⟩ := view b m h'
      · have := (pre_in O P hi).mp hin
        exact pre_mono P (by omega)
      · exact pre_sub R O P (by omega) hj q2
    · obtain ⟨j, hj, _, ⟨c2, rfl⟩ | ⟨c2, q2⟩⟩ := view b m h'
      · have := (pre_in O P hi).mp hin
        omega
      · exact R.fit a b l m q1 q2 hin
theorem dn_ok (R : RowOk n r) (O : OrdOk n r o) (P : PreOk o pre) {k : Nat} (hk : k ≤ n) : RowOk n (dnR r o pre n k) := by
  have hl : (dnR r o pre n k).length = n := (dn_len k).trans R.len
  have view : ∀ (a : Nat) (l : List Int), (dnR r o pre n k)[a]? = some l → ∃ i, o[i]? = some a ∧ i < n ∧ ((i < n - k ∧ l = pre (i + 1)) ∨ (n - k ≤ i ∧ l = pre n)) := fun a l h => by
    have ha : a < n := by rw [← hl]; exact (List.getElem?_eq_some_iff.mp h).1
    obtain ⟨i, hi, hin⟩ := O.all ha
    refine ⟨i, hi, hin, ?_⟩
    rw [dn_at O R.len k hk i a hi hin] at h
    by_cases c : i < n - k
    · rw [if_pos c] at h; exact .inl ⟨c, (Option.some.inj h).symm⟩
    · rw [if_neg c] at h; exact .inr ⟨by omega, (Option.some.inj h).symm⟩
  refine ⟨hl, fun a l h => ?_, fun a l h => ?_, fun a l h => ?_, fun a b l m h h' => ?_, fun a b l m h h' hin => ?_⟩
  · obtain ⟨i, _, _, ⟨_, rfl⟩ | ⟨_, rfl⟩⟩ := view a l h <;> exact P.up _
  · obtain ⟨i, _, _, ⟨_, rfl⟩ | ⟨_, rfl⟩⟩ := view a l h <;> exact pre_rng O P _
  · obtain ⟨i, hi, hin, ⟨_, rfl⟩ | ⟨_, rfl⟩⟩ := view a l h
    · exact (pre_in O P hi).mpr (by omega)
    · exact (pre_in O P hi).mpr hin
  · have cmp : ∀ u v, (∀ x ∈ pre u, x ∈ pre v) ∨ ∀ x ∈ pre v, x ∈ pre u := fun u v => (Nat.le_total u v).imp (pre_mono P) (pre_mono P)
    obtain ⟨i, hi, _, ⟨_, rfl⟩ | ⟨_, rfl⟩⟩ := view a l h <;> obtain ⟨j, hj, _, ⟨_, rfl⟩ | ⟨_, rfl⟩⟩ := view b m h' <;> exact cmp _ _
  · obtain ⟨i, hi, hi2, ⟨c1, rfl⟩ | ⟨c1, rfl⟩⟩ := view a l h <;> obtain ⟨j, hj, hj2, ⟨c2, rfl⟩ | ⟨c2, rfl⟩⟩ := view b m h'
    · have := (pre_in O P hi).mp hin
      exact pre_mono P (by omega)
    · exact pre_mono P (by omega)
    · have := (pre_in O P hi).mp hin
      omega
    · exact pre_mono P (Nat.le_refl _)
/-- the row of all -/
def fullL (n : Nat) : List Int := (List.range n).map fun (i : Nat) => (i : Int)
theorem fullL_up (n : Nat) : (fullL n).Pairwise (· < ·) := by
  unfold fullL
  rw [List.pairwise_map]
  exact List.pairwise_lt_range.imp fun h => by omega
theorem pre_all (O : OrdOk n r o) (P : PreOk o pre) : pre n = fullL n := by
  refine srt_eq (P.up n) (fullL_up n) fun x => ?_
  rw [P.mem]
  unfold fullL
  rw [List.mem_map, List.take_of_length_le (by rw [O.len]; exact Nat.le_refl _)]
  constructor
  · rintro ⟨a, ha, e⟩
    exact ⟨a, List.mem_range.mpr (O.lt a ha), e.symm⟩
  · rintro ⟨a, ha, e⟩
    obtain ⟨i, hi, _⟩ := O.all (List.mem_range.mp ha)
    exact ⟨a, List.mem_of_getElem? hi, e.symm⟩
theorem dn_all (R : RowOk n r) (O : OrdOk n r o) (P : PreOk o pre) : dnR r o pre n n = List.replicate n (fullL n) := by
  refine List.ext_getElem? fun a => ?_
  by_cases ha : a < n
  · obtain ⟨i, hi, hin⟩ := O.all ha
    rw [dn_at O R.len n (Nat.le_refl n) i a hi hin, if_neg (by omega), List.getElem?_replicate, if_pos ha, pre_all O P]
  · rw [List.getElem?_eq_none (by rw [dn_len, R.len]; omega), List.getElem?_eq_none (by rw [List.length_replicate]; omega)]
/-- all rows on the way -/
def wayR (r : Row') (o : List Nat) (pre : Nat → List Int) (n : Nat) : List Row' := ((List.range n).map fun k => upR r o pre (k + 1)) ++ (List.range n).map fun k => dnR r o pre n (k + 1)
theorem way_len : (wayR r o pre n).length = n + n := by simp [wayR]
theorem way_at {i : Nat} : (r :: wayR r o pre n)[i]? = if i ≤ n then some (upR r o pre i) else if i ≤ n + n then some (dnR r o pre n (i - n)) else none := by
  cases i with
  | zero => rw [if_pos (Nat.zero_le _)]; rfl
  | succ i =>
    rw [List.getElem?_cons_succ]
    unfold wayR
    by_cases h : i < n
    · rw [if_pos (by omega), List.getElem?_append_left (by simp; exact h), List.getElem?_map, List.getElem?_range h]; rfl
    · rw [if_neg (by omega), List.getElem?_append_right (by simp; omega), List.length_map, List.length_range, List.getElem?_map]
      by_cases h2 : i - n < n
      · rw [if_pos (by omega), List.getElem?_range h2, show i + 1 - n = i - n + 1 by omega]; rfl
      · rw [if_neg (by omega), List.getElem?_eq_none (by rw [List.length_range]; omega)]; rfl
def wayOf (r : Row') (o : List Nat) (pre : Nat → List Int) (n : Nat) : List Row' := r :: ddL r (wayR r o pre n)
structure WayOk (n : Nat) (r : Row') (ls : List Row') : Prop where
  ok : ∀ x ∈ ls, RowOk n x
  lnk : Lnk ls
  head : ls.head? = some r
  last : ls.getLast? = some (List.replicate n (fullL n))
  len : ls.length ≤ n + n + 1
theorem way_ok (hn : 0 < n) (R : RowOk n r) (O : OrdOk n r o) (P : PreOk o pre) : WayOk n r (wayOf r o pre n) := by
  have all : ∀ (i : Nat) x, (r :: wayR r o pre n)[i]? = some x → RowOk n x := fun i x h => by
    rw [way_at] at h
    by_cases c : i ≤ n
    · rw [if_pos c] at h
      rw [← Option.some.inj h]
      exact up_ok R O P c
    · rw [if_neg c] at h
      by_cases c2 : i ≤ n + n
      · rw [if_pos c2] at h
        rw [← Option.some.inj h]
        exact dn_ok R O P (by omega)
      · rw [if_neg c2] at h; cases h
  have near : ∀ (i : Nat) (x y : Row'), (r :: wayR r o pre n)[i]? = some x → (r :: wayR r o pre n)[i + 1]? = some y → y ≠ x → Unl x y := fun i x y hx hy ne => by
    rw [way_at] at hx hy
    by_cases c : i + 1 ≤ n
    · rw [if_pos (by omega)] at hx
      rw [if_pos c] at hy
      rw [← Option.some.inj hx, ← Option.some.inj hy] at ne ⊢
      exact near_set ne
    · rw [if_neg c] at hy
      by_cases c2 : i + 1 ≤ n + n
      · rw [if_pos c2] at hy
        have e : x = dnR r o pre n (i - n) := by
          by_cases c3 : i ≤ n
          · rw [if_pos c3] at hx
            have : i = n := by omega
            subst this
            rw [Nat.sub_self]
            exact (Option.some.inj hx).symm
          · rw [if_neg c3, if_pos (by omega)] at hx
            exact (Option.some.inj hx).symm
        have e2 : i + 1 - n = i - n + 1 := by omega
        rw [e2] at hy
        rw [e, ← Option.some.inj hy] at ne ⊢
        exact near_set ne
      · rw [if_neg c2] at hy; cases hy
  obtain ⟨h1, h2⟩ := dd_lnk near
  refine ⟨fun x hx => ?_, h1, rfl, h2.trans ?_, ?_⟩
  · have : x ∈ r :: wayR r o pre n := by
      rcases List.mem_cons.mp hx with e | e
      · rw [e]; exact List.mem_cons_self
      · exact List.mem_cons_of_mem _ (dd_mem e)
    obtain ⟨i, hi⟩ := List.mem_iff_getElem?.mp this
    exact all i x hi
  · rw [List.getLast?_eq_getElem?, way_at, List.length_cons, way_len, if_neg (by omega), if_pos (by omega), ← dn_all R O P]
    congr 2
    omega
  · have dl : ∀ (p : Row') (xs : List Row'), (ddL p xs).length ≤ xs.length := fun p xs => by
      induction xs generalizing p with
      | nil => exact Nat.le_refl _
      | cons a t ih =>
        unfold ddL
        have := ih a
        split
        · rw [List.length_cons]; omega
        · rw [List.length_cons, List.length_cons]; omega
    have := dl r (wayR r o pre n)
    rw [way_len] at this
    show (ddL r (wayR r o pre n)).length + 1 ≤ _
    omega
end
/-- a chain of rows -/
structure ChOk (n : Nat) (a b : Row') (ls : List Row') : Prop where
  ok : ∀ x ∈ ls, RowOk n x
  lnk : Lnk ls
  head : ls.head? = some a
  last : ls.getLast? = some b
theorem ways_ch {n : Nat} {a b : Row'} {ls ms : List Row'} (h : WayOk n a ls) (g : WayOk n b ms) : ChOk n a b (ls ++ ms.dropLast.reverse) := by
  rcases List.eq_nil_or_concat ls with rfl | ⟨l0, z, e1⟩
  · have := h.head; cases this
  rcases List.eq_nil_or_concat ms with rfl | ⟨m0, y, e2⟩
  · have := g.head; cases this
  rw [List.concat_eq_append] at e1 e2
  subst e1 e2
  have ez : z = List.replicate n (fullL n) := by have := h.last; simpa using this
  have ey : y = List.replicate n (fullL n) := by have := g.last; simpa using this
  have eyz : y = z := ey.trans ez.symm
  subst eyz
  have ed : (m0 ++ [y]).dropLast = m0 := by simp
  rw [ed]
  have hr := g.lnk.rev
  rw [List.reverse_append] at hr
  refine ⟨fun x hx => ?_, Lnk.app h.lnk hr, ?_, ?_⟩
  · rcases List.mem_append.mp hx with q | q
    · exact h.ok x q
    · exact g.ok x (List.mem_append_left _ (List.mem_reverse.mp q))
  · rw [List.head?_append, h.head]; rfl
  · rw [List.getLast?_append, List.getLast?_reverse]
    cases m0 with
    | nil =>
      have := g.head
      simp at this
      subst this
      simp
    | cons c t =>
      have := g.head
      simp at this
      subst this
      simp
end Fp
/-! t[::-1] of a tuple; xs[-2::-1] of a list -/
namespace Fp
open PySem PySem.Spec PyProof.Rows L2
section
variable {prog : Program} {w : World} {A : Around} {E : Value → Shared → Prop} {s : Shared}
theorem applied_rev {sl : Addr} {vs : Value} {n : Nat} {Q : Int × Int × Nat → Shared → Prop} (hs : s.heap.IsSliceOf sl .none .none vs) (ps : IsPart vs (some (-1))) (h : Q ((n : Int) - 1, -1, n) s) :
    wpAny (model prog w) A (Builtin.Slice.sliceApplied (.ref sl) (pure (n : Int))) Q E s := by
  obtain ⟨os, hos, hcs, hds⟩ := id hs
  unfold Builtin.Slice.sliceApplied Builtin.Slice.sliceFields
  refine wpAny_bind (wpAny_bind (wpAny_field hos hds (x := .none) rfl (wpAny_bind (wpAny_field hos hds (x := .none) rfl (wpAny_bind (wpAny_field hos hds (x := vs) rfl (wpAny_pure ?_)))))))
  refine wpAny_bind (HT.slicePart_ ps ?_)
  show wpAny _ _ (if ((-1 : Int) == 0) = true then _ else _) _ _ s
  rw [if_neg (by decide)]
  refine wpAny_bind (slicePart_none (wpAny_bind (slicePart_none (wpAny_bind (wpAny_pure ?_)))))
  have e : Builtin.Slice.sliceAdjust none none (-1) (n : Int) = ((n : Int) - 1, -1) := by
    unfold Builtin.Slice.sliceAdjust
    simp only [show ((-1 : Int) < 0) by decide, if_true]
  have p : Builtin.Slice.slicePlaces ((n : Int) - 1) (-1) (-1) = n := by
    unfold Builtin.Slice.slicePlaces
    simp only [show ¬ ((-1 : Int) > 0) by decide, if_false]
    by_cases c : (n : Int) - 1 > -1
    · rw [if_pos c, show (-(-1) : Int) = 1 by decide, Int.ediv_one]; omega
    · rw [if_neg c]; omega
  show wpAny _ _ (match Builtin.Slice.sliceAdjust none none (-1) (n : Int) with | (lo, hi) => pure (lo, (-1 : Int), Builtin.Slice.slicePlaces lo hi (-1))) _ _ s
  rw [e]
  show wpAny _ _ (pure ((n : Int) - 1, (-1 : Int), Builtin.Slice.slicePlaces ((n : Int) - 1) (-1) (-1))) _ _ s
  rw [p]
  exact wpAny_pure h
theorem pick_rev (xs : Array Value) : ((List.range xs.size).filterMap fun (m : Nat) => xs[(((xs.size : Nat) : Int) - 1 + (m : Int) * (-1)).toNat]?).toArray = xs.toList.reverse.toArray := by
  have e : ((List.range xs.size).filterMap fun (m : Nat) => xs[(((xs.size : Nat) : Int) - 1 + (m : Int) * (-1)).toNat]?) = ((List.range xs.size).map (fun k => xs.size - 1 - k)).filterMap (xs[·]?) := by
    rw [List.filterMap_map]
    refine congrArg (fun f => List.filterMap f (List.range xs.size)) (funext fun m => ?_)
    show xs[(((xs.size : Nat) : Int) - 1 + (m : Int) * (-1)).toNat]? = xs[xs.size - 1 - m]?
    congr 1
    omega
  rw [e, PySem.W.krv_range, List.filterMap_reverse, PySem.W.krv_all]
theorem item_rev {t sl : Addr} {items : Array Value} {vs : Value} {Q : Value → Shared → Prop} (ht : IsTup s.heap t items) (hs : s.heap.IsSliceOf sl .none .none vs) (ps : IsPart vs (some (-1)))
    (h : Q (.ref s.heap.objs.size) { s with heap := s.heap.push { cls := .type "tuple", data := .seq items.toList.reverse.toArray } }) (hsz : items.size ≤ sizeLine) : wpAny (model prog w) A (getItem (.ref t) (.ref sl)) Q E s := by
  have hok : sizeOk (.seq items.toList.reverse.toArray) := by
    show items.toList.reverse.toArray.size ≤ sizeLine
    rw [List.size_toArray, List.length_reverse, Array.length_toList]
    exact hsz
  obtain ⟨os, hos, hcs, hds⟩ := id hs
  have hTs : s.TypeIs (.ref sl) "slice" := ⟨os, hos, hcs⟩
  unfold getItem
  try with_reducible refine wpAny_holding ?_
  first | refine wpAny_bind (wpAny_pure ?_) | skip
  refine wpAny_bind (wpAny_sequenceKey ht.typeIs (by decide) ?_)
  refine wpAny_bind (wpAny_callSpecial?_slot (name := Str.ofString "__getitem__") ht.typeIs PyProof.Rows.slot_tuple_getitem
    (wpAny_call_entry PyProof.Rows.slot_tuple_getitem ht.typeIs entry_tuple_getitem ?_ (args_tuple_getitem _ _)))
  show wpAny _ _ (Builtin.Tuple.tupleItemsOf (.ref t) >>= _) _ _ s
  refine wpAny_bind (tupleItemsOf_ ht (wpAny_bind (wpAny_typeOf hTs ?_)))
  rw [if_pos (by decide)]
  refine wpAny_bind (applied_rev hs ps ?_)
  have hno : ¬ ((((items.size : Nat) : Int) - 1 == 0 && (-1 : Int) == 1 && items.size == items.size) = true) := fun q => by
    rw [Bool.and_eq_true, Bool.and_eq_true] at q
    exact absurd q.1.2 (by decide)
  show wpAny _ _ (if (((items.size : Nat) : Int) - 1 == 0 && (-1 : Int) == 1 && items.size == items.size) = true then _ else _) _ _ s
  rw [if_neg hno, pick_rev]
  first
    | exact wpAny_bind (m := Builtin.Tuple.tupleExact _) (wpAny_newObj_type (wpAny_pure ⟨_, rfl, wpAny_pure h⟩) hok)
    | exact wpAny_bind (m := Builtin.Tuple.tupleExact _) (wpAny_newObj_type (wpAny_bind (wpAny_pure (wpAny_pure ⟨_, rfl, wpAny_pure h⟩))) hok)
    | exact wpAny_bind (wpAny_bind (m := Builtin.Tuple.tupleExact _) (wpAny_newObj_type (wpAny_pure (wpAny_pure ⟨_, rfl, wpAny_pure h⟩)) hok))
    | exact wpAny_bind (wpAny_bind (m := Builtin.Tuple.tupleExact _) (wpAny_newObj_type (wpAny_pure ⟨_, rfl, wpAny_pure h⟩) hok))
end
theorem fm_congr {α β : Type} {f g : α → Option β} : ∀ {l : List α}, (∀ x ∈ l, f x = g x) → l.filterMap f = l.filterMap g
  | [], _ => rfl
  | a :: l, h => by
    rw [List.filterMap_cons, List.filterMap_cons, h a (by simp), fm_congr fun x hx => h x (List.mem_cons_of_mem _ hx)]
theorem pick_back (items : Array Value) (hn : 1 ≤ items.size) : slicePick items (some (-2)) none (some (-1)) = items.toList.dropLast.reverse.toArray := by
  have e : sliceBounds (some (-2)) none (some (-1)) items.size = (((items.size - 1 : Nat) : Int) - 1, -1, -1) := by
    unfold sliceBounds
    simp only [Option.getD_some, show ¬ ((-1 : Int) > 0) by decide, if_false, show ((-2 : Int) < 0) by decide, if_true]
    refine Prod.ext ?_ rfl
    show max (-1) (min (-2 + ((items.size : Nat) : Int)) (((items.size : Nat) : Int) - 1)) = ((items.size - 1 : Nat) : Int) - 1
    omega
  unfold slicePick
  rw [e]
  show ((sliceRange (((items.size - 1 : Nat) : Int) - 1) (-1) (-1)).filterMap (items[·]?)).toArray = _
  rw [PySem.W.krv_sliceRange, PySem.W.krv_range, List.filterMap_reverse]
  congr 2
  have h := PySem.W.krv_all (items.toList.dropLast.toArray)
  rw [show items.toList.dropLast.toArray.size = items.size - 1 by simp] at h
  rw [show items.toList.dropLast = items.toList.dropLast.toArray.toList by simp, ← h]
  refine fm_congr fun x hx => ?_
  have hx := List.mem_range.mp hx
  show items[x]? = items.toList.dropLast.toArray[x]?
  have e1 : items.toList.dropLast.toArray[x]? = items.toList.dropLast[x]? := by simp
  rw [e1, List.getElem?_dropLast, if_pos (by rw [Array.length_toList]; exact hx), Array.getElem?_toList]
def tRevT (K : PySem.W.Frag) (te : TE) : TE := fun σ H Q => te σ H fun x H1 => ∃ a xs, x = .ref a ∧ SqT K H1 a xs ∧ ∀ p, H1 p = none → Q (.ref p) (upd H1 p (.tup xs.reverse))
def tBack (K : PySem.W.Frag) (te : TE) : TE := fun σ H Q => te σ H fun x H1 => ∃ a xs, x = .ref a ∧ SqL K H1 a xs ∧ xs ≠ [] ∧ ∀ p, H1 p = none → Q (.ref p) (upd H1 p (.lst xs.dropLast.reverse))
theorem Vals.dropLast' : ∀ {xs : List V} {us : List Value}, Vals xs us → Vals xs.dropLast us.dropLast
  | _, _, .nil => .nil
  | [_], [_], .cons _ .nil => .nil
  | _ :: _ :: _, _ :: _ :: _, .cons h (.cons g t) => .cons h (Vals.dropLast' (.cons g t))
section
variable {X : Cx}
theorem pe_revT {e : Expr} {te : TE} {k : Nat} {p1 p2 p3 pos : Pos} (he : PE X e te) : PE X (.Subscript e (.Slice none none (some (.UnaryOp .USub (.Constant (.int 1) k p1) p2)) p3) pos) (tRevT X.K te) := by
  refine ⟨fun pins s σ H Q I h => ?_⟩
  refine Subscript_ (thn (he.run pins s σ H _ I h) fun v s1 ⟨x, H1, I1, r1, q1⟩ => ?_)
  obtain ⟨a, xs, ex, hx, q⟩ := q1
  subst ex
  cases r1
  have hst : PO X (some (.UnaryOp .USub (.Constant (.int 1) k p1) p2)) (tPart (tUn (rU fun i => .int (-i)) (tC (.int 1)))) := po_some (pe_un un_neg pe_int)
  refine wpAny_Slice (thn (po_none.run pins s1 σ H1 (fun o H2 => o = none ∧ H2 = H1) I1 ⟨rfl, rfl⟩) fun vl s2 ⟨l, H2, I2, pL, el, e2⟩ => ?_)
  subst el e2
  refine thn (po_none.run pins s2 σ H2 (fun o H3 => o = none ∧ H3 = H2) I2 ⟨rfl, rfl⟩) fun vu s3 ⟨u, H3, I3, pu, eu, e3⟩ => ?_
  subst eu e3
  refine thn (hst.run pins s3 σ H3 (fun o H4 => o = some (-1) ∧ H4 = H3) I3 ⟨1, rfl, -1, rfl, rfl, rfl⟩) fun vs s4 ⟨o, H4, I4, ps, eo, e4⟩ => ?_
  subst eo e4
  cases pL
  cases pu
  have I5 : Inv X pins σ H4 { s4 with heap := s4.heap.push { cls := .type "slice", data := .fields #[.none, .none, vs] } } := I4.kept (t' := s4.toks) fun b ob q => Heap.get?_push_of_some _ q
  obtain ⟨its, r, ht, hz⟩ := I5.tuple hx
  have hlen := r.length
  show wpAny (model X.prog X.w) X.A (subscriptTail e (.Slice none none (some (.UnaryOp .USub (.Constant (.int 1) k p1) p2)) p3) (.ref a) (.ref s4.heap.objs.size)) (EP X pins σ Q) X.xe { s4 with heap := s4.heap.push { cls := .type "slice", data := .fields #[.none, .none, vs] } }
  refine tail_any (ops := [.ref a, .ref s4.heap.objs.size]) ht.typeIs (PyProof.Rows.slot_tuple_getitem.lookup) ?_ (by with_unfolding_all rfl)
  refine item_rev ht (Heap.IsSliceOf.new _ .none .none vs) ps ?_ (by rw [List.size_toArray]; omega)
  refine ⟨.ref _, _, I5.laid (t' := s4.toks) (o := .tup xs.reverse) (fun b ob q => Heap.get?_push_of_some _ q) (Nat.le_refl _) ?_, rfl, q _ (I5.hok.fresh (Nat.le_refl _))⟩
  exact ⟨by rw [List.length_reverse]; exact hz, _, r.reverse, IsTup.new _ _⟩
theorem pe_back2 {e : Expr} {te : TE} {k k2 : Nat} {p1 p2 p3 p4 p5 pos : Pos} (he : PE X e te) : PE X (.Subscript e (.Slice (some (.UnaryOp .USub (.Constant (.int 2) k2 p4) p5)) none (some (.UnaryOp .USub (.Constant (.int 1) k p1) p2)) p3) pos) (tBack X.K te) := by
  refine ⟨fun pins s σ H Q I h => ?_⟩
  refine Subscript_ (thn (he.run pins s σ H _ I h) fun v s1 ⟨x, H1, I1, r1, q1⟩ => ?_)
  obtain ⟨a, xs, ex, hx, hne, q⟩ := q1
  subst ex
  cases r1
  have hst : PO X (some (.UnaryOp .USub (.Constant (.int 1) k p1) p2)) (tPart (tUn (rU fun i => .int (-i)) (tC (.int 1)))) := po_some (pe_un un_neg pe_int)
  have hst2 : PO X (some (.UnaryOp .USub (.Constant (.int 2) k2 p4) p5)) (tPart (tUn (rU fun i => .int (-i)) (tC (.int 2)))) := po_some (pe_un un_neg pe_int)
  refine wpAny_Slice (thn (hst2.run pins s1 σ H1 (fun o H2 => o = some (-2) ∧ H2 = H1) I1 ⟨2, rfl, -2, rfl, rfl, rfl⟩) fun vl s2 ⟨l, H2, I2, pL, el, e2⟩ => ?_)
  subst el e2
  refine thn (po_none.run pins s2 σ H2 (fun o H3 => o = none ∧ H3 = H2) I2 ⟨rfl, rfl⟩) fun vu s3 ⟨u, H3, I3, pu, eu, e3⟩ => ?_
  subst eu e3
  refine thn (hst.run pins s3 σ H3 (fun o H4 => o = some (-1) ∧ H4 = H3) I3 ⟨1, rfl, -1, rfl, rfl, rfl⟩) fun vs s4 ⟨o, H4, I4, ps, eo, e4⟩ => ?_
  subst eo e4
  have I5 : Inv X pins σ H4 { s4 with heap := s4.heap.push { cls := .type "slice", data := .fields #[vl, vu, vs] } } := I4.kept (t' := s4.toks) fun b ob q => Heap.get?_push_of_some _ q
  obtain ⟨its, r, ht, hz⟩ := I5.list hx
  have hlen := r.length
  have h1 : 1 ≤ its.toArray.size := by
    have := List.length_pos_iff.mpr hne
    rw [List.size_toArray]; omega
  show wpAny (model X.prog X.w) X.A (subscriptTail e (.Slice (some (.UnaryOp .USub (.Constant (.int 2) k2 p4) p5)) none (some (.UnaryOp .USub (.Constant (.int 1) k p1) p2)) p3) (.ref a) (.ref s4.heap.objs.size)) (EP X pins σ Q) X.xe { s4 with heap := s4.heap.push { cls := .type "slice", data := .fields #[vl, vu, vs] } }
  refine tail_any (ops := [.ref a, .ref s4.heap.objs.size]) ht.isList.typeIs (PySem.slot_list_getitem.lookup) ?_ (by with_unfolding_all rfl)
  refine wpAny_getItem_list_slice ht.isList (Heap.IsSliceOf.new _ vl vu vs) pL pu ps (by decide) ?_ (by rw [List.size_toArray]; omega)
  rw [pick_back _ h1]
  refine ⟨.ref _, _, I5.laid (t' := s4.toks) (o := .lst xs.dropLast.reverse) (fun b ob q => Heap.get?_push_of_some _ q) (Nat.le_refl _) ?_, rfl, q _ (I5.hok.fresh (Nat.le_refl _))⟩
  exact ⟨by rw [List.length_reverse, List.length_dropLast]; omega, _, 0, (Vals.dropLast' r).reverse, Heap.get?_push_size _ rfl⟩
end
end Fp
namespace Fp
open PySem PySem.Spec PyProof.Rows L2
/-- how many places of two rows are unlike -/
def neI (ds es : List Dt) (i : Nat) : Bool := !PyData.eqv (toP 2 (ds.getD i .non)) (toP 2 (es.getD i .non))
def unl (ds es : List Dt) : Nat := ((List.range ds.length).filter (neI ds es)).length
def spExcD : Sp := fun vs H Q _ => ∃ (v y : V) (p : Nat) (ds : List Dt) (e : Dt), vs = [v, .int p, y] ∧ DV H v (.tup ds) ∧ DV H y e ∧ p < ds.length ∧ ∀ c H', Same H H' → DV H' (.ref c) (.tup (ds.set p e)) → Q (.ref c) H'
def spLotOfD (K : PySem.W.Frag) : Sp := fun vs H Q _ => ∃ (a : Addr) (ns : List Int), vs = [.ref a] ∧ SqL K H a (ns.map V.int) ∧ ns.length < 60 ∧ ∀ c H' zs, Same H H' → zs.Pairwise (· < ·) → (∀ x : Int, x ∈ zs ↔ x ∈ ns) → DV H' (.ref c) (lotD zs) → Q (.ref c) H'
def spUnlD : Sp := fun vs H Q _ => ∃ (v y : V) (ds es : List Dt), vs = [v, y] ∧ DV H v (.tup ds) ∧ DV H y (.tup es) ∧ ds.length = es.length ∧ pl 3 (.tup ds) = true ∧ pl 3 (.tup es) = true ∧ ∀ H', Same H H' → Q (.int (unl ds es : Nat)) H'
theorem dvs_ints (H : Hp) : ∀ zs : List Int, DVs H (zs.map V.int) (zs.map Dt.int)
  | [] => .nil
  | z :: r => .cons (.int z) (dvs_ints H r)
theorem u64 {k : Nat} {A : Around} (r : Room k A) : A.units + 64 < cLine := by have := u65 r; omega
section
variable {P : Program} {w : World} {K : PySem.W.Frag} {mg : Str → Option Value} {base : Heap} {f : Addr} {fd : FuncData} {C : Addr}
abbrev s_lot_of : Stmt := top 13
theorem sc_lot_of : FnScope ["words"] ["words"] (defScope s_lot_of) := ⟨rfl, rfl, rfl, by decide +kernel, rfl, by decide +kernel, by decide +kernel⟩
theorem ok_lot_of (F : Fun K "lot_of" "lot_of" s_lot_of f fd) (T : RTx mg) : FnOk P w K mg base CX0 1 f fd ["words"] (spLotOfD K) := by
  refine F.ok sc_lot_of (fun vs H Q E h => ?_) (fun cdv A outer s H vs Q E hr h => ?_)
  · obtain ⟨a, ns, rfl, _⟩ := h
    rfl
  obtain ⟨a, ns, rfl, ha, hl, k⟩ := h
  refine ⟨_, (pss_one (ps_ret (pe_callTy call_tuple_of rfl T.tuple (by decide +kernel) (pa_cons (pe_callB (cr_sortedSet rfl) rfl T.sorted (by decide +kernel) (pa_cons (pe_callTy (cr_setI rfl) rfl T.set (by decide +kernel) (pa_cons (pv 0) pa_nil)) pa_nil)) pa_nil)))), ?_⟩
  refine ⟨_, rfl, a, ns, rfl, ha, by omega, fun s1 c hc n1 => ?_⟩
  have g1 := same_new n1 (SetO w s1 (fun j => decide (j ∈ ns)) c)
  refine ⟨s1, _, c, rfl, upd_same, by omega, fun zs p hz hm hzl np => ?_⟩
  have g2 := same_new np (.lst (zs.map V.int))
  refine ⟨p, _, rfl, .inl ⟨.of upd_same, fun l nl => ?_⟩⟩
  have g3 := same_new nl (.tup (zs.map V.int))
  refine k l _ zs ((g1.trans g2).trans g3) hz (fun x => (hm x).trans decide_eq_true_iff) (.tup upd_same ?_ (by rw [List.length_map]; omega))
  exact dvs_ints _ zs
end
end Fp
/-! The mirror of the reading of programs' texts -/
namespace Fp
open PySem PySem.Spec PyProof.Rows L2
def LET : Str := "abcdefghijklmnopqrstuvwxyz"
def FIG : Str := "0123456789"
def isLet (c : Nat) : Bool := decide (c ∈ sg LET)
def isFig (c : Nat) : Bool := decide (c ∈ sg FIG)
def isName (w : Str) : Bool := decide (1 ≤ w.length ∧ w.length ≤ 8) && ((match sg w with | c :: _ => isLet c | [] => false) && (sg w).all fun c => isLet c || isFig c)
def optI : Option Int → V
  | none => .non
  | some i => .int i
def isNeg (w : Str) : Bool := match sg w with | 45 :: _ => true | _ => false
def figsL (w : Str) : List Nat := if isNeg w then (sg w).tail else sg w
def intIn (w : Str) : Option Int :=
  if figsL w = [] ∨ 4000 < (figsL w).length then none
  else if (figsL w).all isFig = false then none
  else if (figsL w).head? = some 48 ∧ sg w ≠ [48] then none
  else some (if isNeg w then -((NumText.digitsVal (figsL w) : Nat) : Int) else ((NumText.digitsVal (figsL w) : Nat) : Int))
def numIn (w : Str) (lo hi : Int) : Option Int := match intIn w with
  | some n => if lo ≤ n ∧ n ≤ hi then some n else none
  | none => none
def GIVEN : List Str := ["mine", "me", "many"]
def LINES : List Str := ["hands", "keep", "write", "look", "wait", "if", "else", "again", "end", "ask", "say"]
def BTERM : List (Str × Str) := [("row", "K"), ("part", "EE"), ("least", "E"), ("greatest", "E"), ("lot", "E"), ("count", "E"), ("plus", "EE"), ("half", "E")]
def BTEST : List (Str × Str) := [("same", "EE"), ("less", "EE"), ("has", "EE"), ("not", "C"), ("and", "CC"), ("or", "CC")]
def isFree (w : Str) : Bool := isName w && !(((decide (w = "none") || GIVEN.any fun y => decide (y = w)) || LINES.any fun y => decide (y = w)) || ((BTERM.lookup w).isSome || (BTEST.lookup w).isSome))
/-- a token: its word, what it has -/
abbrev TokD := Str × V
def plainTok (w : Str) : Option (TokD × Str) :=
  if w = "none" ∨ (numIn w (-99) 99).isSome = true then some (("value", optI (numIn w (-99) 99)), "")
  else if (GIVEN.any fun y => decide (y = w)) = true ∨ isFree w = true then some (("name", .str w), "")
  else none
def tokIn (w sort : Str) : Option (Option TokD × Str) :=
  if sort = "K" then match numIn w 0 6 with
    | none => none
    | some n => some (some ("row", .int n), Txt.mul "E" n)
  else match (if sort = "C" then BTEST.lookup w else BTERM.lookup w) with
    | some b => some (if w = "row" then none else some (w, .int b.length), b)
    | none => if sort = "C" then none else (plainTok w).map fun p => (some p.1, p.2)
def signsL (z : Str) : List Str := (sg z).map fun c => ⟨#[c]⟩
def termLoop : List Str → List Str → List TokD → Option (List Str × List TokD)
  | [], wanted, toks => some (wanted, toks)
  | w :: ws, wanted, toks => match wanted.getLast? with
    | none => none
    | some s => match tokIn w s with
      | none => none
      | some (t, b) => termLoop ws (wanted.dropLast ++ signsL b) (toks ++ t.toList)
def termIn (ws : List Str) (sort : Str) : Option (List TokD) := match termLoop ws [sort] [] with
  | some ([], toks) => some toks
  | _ => none
/-! ### the mirror's facts -/
theorem isFig_iff (c : Nat) : isFig c = true ↔ 48 ≤ c ∧ c ≤ 57 := by
  unfold isFig
  have e : sg FIG = [48, 49, 50, 51, 52, 53, 54, 55, 56, 57] := by decide +kernel
  rw [e, decide_eq_true_iff]
  simp
  omega
theorem intIn_text {w : Str} {n : Int} (h : intIn w = some n) (hl : w.length ≤ 640) : PySem.intText? w = some n := by
  unfold intIn at h
  split at h
  · cases h
  rename_i h1
  split at h
  · cases h
  rename_i h2
  split at h
  · cases h
  rename_i h3
  have hd : NumText.AllDigits (figsL w) := fun c hc => by
    have := List.all_eq_true.mp (by simpa using h2) c hc
    exact (isFig_iff c).mp this
  have hne : figsL w ≠ [] := fun z => h1 (.inl z)
  by_cases hneg : isNeg w = true
  · have e1 : ∃ r, sg w = 45 :: r := by
      unfold isNeg at hneg
      split at hneg
      · exact ⟨_, by assumption⟩
      · cases hneg
    obtain ⟨r, hr⟩ := e1
    have e2 : figsL w = r := by unfold figsL; rw [if_pos hneg, hr]; rfl
    rw [e2] at hd hne h
    rw [if_pos hneg] at h
    rw [PySem.intText_neg hr hd hne (by omega)]
    exact h
  · have e2 : figsL w = sg w := by unfold figsL; rw [if_neg hneg]
    rw [e2] at hd hne h
    rw [if_neg hneg] at h
    rw [PySem.intText_digits hd hne (by omega)]
    exact h
end Fp
/-! sorted(xs), xs a list of tuples of integers of any lengths, none of them empty -/
namespace SrtO
open PySem PyProof.Rows Srt
section
variable {prog : Program} {w : World} {A : Around} {E : Value → Shared → Prop} {s : Shared}
theorem lots_lex {b fin : Bool} {Q : Bool → Shared → Prop} {xs ys : List Value} {ns ms : List Int} (i : Nat) (hx : IntsAre xs ns) (hy : IntsAre ys ms) (hf : fin = decide (xs.length < ys.length)) (h : Q (HT.lexLt ns ms) s) :
    PySem.W.KatLex prog w A b fin Q (xs.zip ys) i s := by
  induction hx generalizing ys ms i with
  | nil =>
    cases hy with
    | nil =>
      rw [show fin = false from hf.trans (decide_eq_false (by simp))]
      exact PySem.W.kat_nil h
    | cons q u hy =>
      rw [show fin = true from hf.trans (decide_eq_true (by simp))]
      exact PySem.W.kat_nil h
  | @cons p t xs ns hx ih =>
    cases hy with
    | nil =>
      rw [show fin = false from hf.trans (decide_eq_false (by simp))]
      exact PySem.W.kat_nil h
    | @cons q u ys ms hy =>
      show PySem.W.KatLex prog w A b fin Q ((Value.int p t, Value.int q u) :: xs.zip ys) i s
      rw [HT.lexLt_cons] at h
      refine PySem.W.kat_cons (wpAny_eqBool_int ?_)
      by_cases e : p = q
      · subst e
        rw [beq_self_eq_true]
        rw [if_pos rfl] at h
        refine PySem.W.kat_yes ?_
        exact ih (i + 1) hy (by simpa using hf) h
      · rw [show (p == q) = false from beq_eq_false_iff_ne.mpr e]
        rw [if_neg e] at h
        exact PySem.W.kat_no (TS.oneLt_ints _ h)
/-- v is a tuple of these integers -/
def IsLot (h : Heap) (v : Value) (ns : List Int) : Prop := ∃ (a : Addr) (o : Obj) (its : List Value) (n : Nat), v = .ref a ∧ h.get? a = some o ∧ o.cls = .type "tuple" ∧ o.data = .seq its.toArray n ∧ IntsAre its ns
theorem IsLot.keeps {h h' : Heap} {v : Value} {ns : List Int} (x : IsLot h v ns) (k : ∀ b o, h.get? b = some o → o.cls = .type "tuple" → h'.get? b = some o) : IsLot h' v ns := by
  obtain ⟨a, o, its, n, e, ho, hc, hd, hi⟩ := x
  exact ⟨a, o, its, n, e, k _ _ ho hc, hc, hd, hi⟩
theorem lot_cmp {vs : List Value} {k : Value → List Int} (hp : ∀ v ∈ vs, IsLot s.heap v (k v)) : Cmp prog w A s (tuples' true) (fun p => p.1 ∈ vs) (lt2 fun v u => HT.lexLt (k v) (k u)) := by
  intro p q hm hm'
  obtain ⟨a, o, its, n, e, ho, hc, hd, hi⟩ := hp _ hm
  obtain ⟨a', o', its', n', e', ho', hc', hd', hi'⟩ := hp _ hm'
  show wpAny (model prog w) A (keyLt' (tuples' true) p.1 q.1) (fun r s' => s' = s ∧ r = HT.lexLt (k p.1) (k q.1)) (fun _ _ => False) s
  rw [e] at hi ⊢
  rw [e'] at hi' ⊢
  refine PySem.W.kat_lt ho hd ho' hd' ?_
  exact lots_lex 0 hi hi' (by simp) ⟨rfl, rfl⟩
theorem lots_firsts : ∀ {vs : List Value} {k : Value → List Int}, (∀ v ∈ vs, IsLot s.heap v (k v) ∧ k v ≠ []) → ∃ fs, PySem.W.KatTups s.heap vs fs ∧ fs.length = vs.length ∧ ∀ f ∈ fs, ∃ x t, f = Value.int x t
  | [], _, _ => ⟨[], .nil, rfl, fun f hf => by cases hf⟩
  | v :: vs, k, h => by
    obtain ⟨fs, h1, h2, h3⟩ := lots_firsts fun u hu => h u (List.mem_cons_of_mem _ hu)
    obtain ⟨⟨a, o, its, n, e, ho, hc, hd, hi⟩, hne⟩ := h v List.mem_cons_self
    generalize k v = ns at hi hne
    cases hi with
    | nil => exact absurd rfl hne
    | @cons p t xs ns hx =>
      rw [e]
      refine ⟨.int p t :: fs, PySem.W.KatTups.cons ho hc hd (by simp) h1, by rw [List.length_cons, List.length_cons, h2], fun f hf => ?_⟩
      rcases List.mem_cons.mp hf with z | z
      · exact ⟨p, t, z⟩
      · exact h3 f z
theorem lots_sortableO {a : Addr} {vs : List Value} {k : Value → List Int} (h0 : 0 < vs.length) (hp : ∀ v ∈ vs, IsLot s.heap v (k v) ∧ k v ≠ []) (ha : ∀ o, s.heap.get? a = some o → o.cls ≠ .type "tuple") : SortableO prog w A s a vs fun v u => HT.lexLt (k v) (k u) := by
  intro h' keep
  have hp' : ∀ v ∈ vs, IsLot h' v (k v) ∧ k v ≠ [] := fun v hm => ⟨(hp v hm).1.keeps fun b o e c => keep b o (fun z => by subst z; exact ha o e c) e, (hp v hm).2⟩
  obtain ⟨fs, h1, h2, h3⟩ := lots_firsts (s := { s with heap := h' }) hp'
  refine ⟨tuples' true, fun Q E hq => ?_, lot_cmp (s := { s with heap := h' }) fun v hm => (hp' v hm).1⟩
  refine PySem.W.kat_kind (T := .type "int") h1 (by omega) (fun f hm => ?_) (by rfl) ?_
  · obtain ⟨x, t, rfl⟩ := h3 f hm
    exact PySem.W.Looks.now
  · have e : (Value.type "int" != Value.type "tuple") = true := by first | decide +kernel | rfl | decide
    rw [e]
    exact hq
/-- sorted(l) of such tuples: sorted by their integers, stable -/
theorem sorted_lotsO {l : Addr} {vs : List Value} {k : Value → List Int} {Q : Value → Shared → Prop} (hl : s.heap.IsList l vs.toArray) (hz : vs.length ≤ sizeLine) (hp : ∀ v ∈ vs, IsLot s.heap v (k v) ∧ k v ≠ [])
    (h : ∀ (h' : Heap) (d : Addr) (out : List Value), Srtd (fun v u => HT.lexLt (k v) (k u)) out → Stb (fun v u => HT.lexLt (k v) (k u)) out vs → (∀ b o, s.heap.get? b = some o → h'.get? b = some o) → s.heap.objs.size ≤ d → (∃ n, h'.get? d = some (seqObj "list" out.toArray n)) → Q (.ref d) { s with heap := h' }) :
    wpAny (model prog w) A (call (.builtin "sorted") [.ref l]) Q E s := by
  refine sorted_ord (NtL.swo_lexL k) hl hz (fun h2 h₁ a ha kk => ?_) fun out hs hb => ?_
  · refine lots_sortableO (s := { s with heap := h₁ }) (by omega) (fun v hm => ⟨(hp v hm).1.keeps fun b o e _ => (kk b o e).2, (hp v hm).2⟩) fun o e => ?_
    have e' : some o = some (seqObj "list" vs.toArray 0) := e.symm.trans ha
    cases e'
    intro c
    exact absurd (Value.type.inj c) (by decide)
  · exact h _ _ out hs hb (fun b o e => sortedAll_old e) (Nat.le_succ _) (sortedAll_at s.heap vs out.toArray)
end
end SrtO
namespace L2
open PySem PySem.Spec PyProof.Rows
/-- x before y: by their integers -/
abbrev ltL (k : V → List Int) (x y : V) : Bool := HT.lexLt (k x) (k y)
/-- sorted(xs), xs a list of tuples of integers, none empty (k says which): a new list, sorted, equal ones in their order -/
def rSortedLO (K : PySem.W.Frag) : List V → Hp → VK → Prop := fun vs H Q => ∃ (a : Addr) (xs : List V) (k : V → List Int), vs = [V.ref a] ∧ SqL K H a xs ∧ (∀ x ∈ xs, ∃ t, x = V.ref t ∧ H t = some (.tup ((k x).map V.int)) ∧ k x ≠ []) ∧
  ∀ ys p, SrtO.Srtd (ltL k) ys → SrtO.Stb (ltL k) ys xs → H p = none → Q (.ref p) (upd H p (.lst ys))
section
variable {X : Cx}
theorem cr_sortedLO : CallR X (.builtin "sorted") (rSortedLO X.K) := by
  intro pins s σ H vs us Q I r h
  obtain ⟨a, xs, k, rfl, hs, hx, q⟩ := h
  obtain ⟨its, rv, hl, hz⟩ := I.list hs
  obtain ⟨u, rfl, ru⟩ := vals1 r
  obtain rfl : u = Value.ref a := ru
  obtain ⟨e1, e2⟩ := refs_back rv fun x m => by
    obtain ⟨t, e, _⟩ := hx x m
    exact ⟨t, e⟩
  refine SrtO.sorted_lotsO (k := fun u => k (backV u)) hl.isList (by rw [← rv.length]; exact hz) (fun v hv => ?_) fun h' d out h1 h2 kp hd hn => ?_
  · obtain ⟨t, rfl⟩ := e2 v hv
    have hm : V.ref t ∈ xs := by rw [e1]; exact List.mem_map.mpr ⟨_, hv, rfl⟩
    obtain ⟨t', e, ht, hne⟩ := hx _ hm
    cases e
    obtain ⟨_, its2, r2, o, ho, hc, n, hd⟩ := I.hok _ _ ht
    exact ⟨⟨t, o, its2, n, rfl, ho, hc, hd, Fp.ints_vals r2⟩, hne⟩
  · have h3 : ∀ u ∈ out, ∃ a, u = Value.ref a := fun u hu => e2 u (h2.perm.mem_iff.mp hu)
    obtain ⟨n, hn⟩ := hn
    have hb : SrtO.Stb (ltL k) (out.map backV) xs := by
      rw [e1]
      exact SrtO.Stb.map (NtL.swo_lexL k) backV h2
    refine ⟨.ref d, upd H d (.lst (out.map backV)), I.laid (t' := s.toks) kp hd ⟨?_, out, n, vals_back h3, hn⟩, rfl, q _ d (SrtO.srtd_map h1) hb (I.hok.fresh hd)⟩
    rw [hb.len]
    exact hz
end
end L2
/-! sorted(set of tuples of integers of any lengths); sorted(xs, key=len), with reverse=True too -/
namespace L2
open PySem PySem.Spec PyProof.Rows
theorem perm_mapF {α β : Type} {f : α → β} {vs ws : List β} (h : vs.Perm ws) : ∀ {L : List α}, ws = L.map f → ∃ M : List α, M.Perm L ∧ vs = M.map f := by
  induction h with
  | nil => intro L e; exact ⟨L, List.Perm.refl _, e⟩
  | cons x h ih =>
    intro L e
    cases L with
    | nil => cases e
    | cons y L =>
      rw [List.map_cons] at e
      injection e with e1 e2
      obtain ⟨M, hp, em⟩ := ih e2
      exact ⟨y :: M, hp.cons y, by rw [List.map_cons, ← e1, ← em]⟩
  | swap x y l =>
    intro L e
    match L, e with
    | [], e => cases e
    | [z], e => cases e
    | z :: u :: L, e =>
      rw [List.map_cons, List.map_cons] at e
      injection e with e1 e2
      injection e2 with e2 e3
      exact ⟨u :: z :: L, List.Perm.swap _ _ _, by rw [List.map_cons, List.map_cons, ← e1, ← e2, ← e3]⟩
  | trans h1 h2 ih1 ih2 =>
    intro L e
    obtain ⟨M, pm, em⟩ := ih2 e
    obtain ⟨N, pn, en⟩ := ih1 em
    exact ⟨N, pn.trans pm, en⟩
section
variable {P : Program} {w : World} {A : Around} {E : Value → Shared → Prop} {s : Shared}
/-- sorted(set) of such tuples, none of them empty -/
theorem sorted_setL {u : Addr} {L : List (Addr × List Int)} {rows : Array (Int × Value)} {ep : Nat} {tb : SetTable} {Q : Value → Shared → Prop} (R : SetTR P w s.heap u L rows ep tb) (hh : A.handled = none) (hne : ∀ p ∈ L, p.2 ≠ [])
    (hQ : ∀ z d (out : Array Value) (c : Nat) (M : List (Addr × List Int)), (∀ b o, s.heap.get? b = some o → z.heap.get? b = some o) → z.gens = s.gens → z.os = s.os → s.heap.objs.size ≤ d →
      z.heap.get? d = some (seqObj "list" out c) → out.toList = M.map (fun q => Value.ref q.1) → M.Perm L → M.Pairwise (fun q r => HT.lexLt r.2 q.2 = false) → Q (.ref d) z) :
    wpAny (model P w) A (call (.builtin "sorted") [.ref u]) Q E s := by
  obtain ⟨o, hob, hex, hdt⟩ := R.ob
  have few := R.few
  have size := R.size
  refine Calls.call_function_entry kind_sorted plain_sorted entry_sorted (args_sorted1 _) ?_
  unfold Builtin.«sorted»
  refine wpAny_bind (m := checkCount "sorted" 1 1 _) (wpAny_pure ?_)
  refine wpAny_bind (collect_set (A := A.in1) hh ⟨o, hob, hex.1, hdt⟩ R.fits (by unfold scanBound; omega) R.tab.ris R.led fun z got kp hz hg ho pm => ?_)
  have er : rows.toList.map (·.2) = L.map fun q => Value.ref q.1 := by
    have e := R.rows
    unfold rowsOf at e
    rw [e, List.map_map]; rfl
  obtain ⟨M, pM, eM⟩ := perm_mapF pm er
  have gl : got.length < 64 := by rw [eM, List.length_map, pM.length_eq]; exact few
  have gz : got.length ≤ sizeLine := by rw [sizeLine_eq]; omega
  refine wpAny_bind (wpAny_newList ?_ gz)
  have hLst : (z.heap.push (seqObj "list" got.toArray 0)).get? z.heap.objs.size = some (seqObj "list" got.toArray 0) := Heap.get?_push_size _ rfl
  have keep : ∀ b o, s.heap.get? b = some o → b ≠ z.heap.objs.size ∧ (z.heap.push (seqObj "list" got.toArray 0)).get? b = some o := fun b o e => by
    have e2 := kp b o e
    exact ⟨Nat.ne_of_lt (Heap.lt_size e2), Heap.get?_push_of_some _ e2⟩
  have ti : ∀ q ∈ L, TS.TupInts (z.heap.push (seqObj "list" got.toArray 0)) (.ref q.1) q.2 := fun q hq => tupInts_of (P := P) (w := w) (isT_keep (R.tup q hq) fun b o e => (keep b o e).2)
  have lot : ∀ v ∈ got, SrtO.IsLot (z.heap.push (seqObj "list" got.toArray 0)) v (TS.intsOf (z.heap.push (seqObj "list" got.toArray 0)) v) ∧ TS.intsOf (z.heap.push (seqObj "list" got.toArray 0)) v ≠ [] := fun v hv => by
    rw [eM] at hv
    obtain ⟨q, hq, rfl⟩ := List.mem_map.mp hv
    have hq := pM.mem_iff.mp hq
    have t := ti q hq
    rw [t.ints]
    obtain ⟨a, xs, e, ⟨o, ho, hc, n, hd⟩, hi⟩ := t
    exact ⟨⟨a, o, xs.toList, n, e, ho, hc, by rw [hd], hi⟩, hne q hq⟩
  refine wpAny_bind (wpAny_holding (wpAny_call_entry slot_list_sort ⟨_, hLst, rfl⟩ entry_list_sort (SrtO.list_sort_ord (s := { z with heap := z.heap.push (seqObj "list" got.toArray 0) }) (NtL.swo_lexL fun v => TS.intsOf (z.heap.push (seqObj "list" got.toArray 0)) v) hLst gz (fun h2 => ?_) fun out h1 hb => ⟨_, rfl, ?_⟩) (args_list_sort _)))
  · refine SrtO.lots_sortableO (s := { z with heap := z.heap.push (seqObj "list" got.toArray 0) }) (by omega) lot fun o e => ?_
    have e' : some o = some (seqObj "list" got.toArray 0) := e.symm.trans hLst
    cases e'
    intro c
    exact absurd (Value.type.inj c) (by decide)
  · obtain ⟨c, hc⟩ := sortedHeap_at (vs := got) (out := out.toArray) hLst
    obtain ⟨N, pN, eN⟩ := perm_mapF hb.perm eM
    refine wpAny_pure ⟨_, rfl, hQ _ z.heap.objs.size out.toArray c N (fun b o e => ?_) hg ho hz hc (by simpa using eN) (pN.trans pM) ?_⟩
    · obtain ⟨n1, e2⟩ := keep b o e
      exact (sortedHeap_old n1 (Heap.lt_size e2)).trans e2
    · have h1' : out.Pairwise (fun a b => HT.lexLt (TS.intsOf (z.heap.push (seqObj "list" got.toArray 0)) b) (TS.intsOf (z.heap.push (seqObj "list" got.toArray 0)) a) = false) := h1
      rw [eN] at h1'
      refine List.Pairwise.imp_of_mem (fun {q r} hq hr hle => ?_) (List.pairwise_map.mp h1')
      rw [(ti q ((pN.trans pM).mem_iff.mp hq)).ints, (ti r ((pN.trans pM).mem_iff.mp hr)).ints] at hle
      exact hle
end
/-- sorted(set of lots) -/
def rSortedSL (K : PySem.W.Frag) (P : Program) (w : World) : List V → Hp → VK → Prop := fun vs H Q => ∃ (a : Addr) (L : List (Addr × List Int)), vs = [V.ref a] ∧ H a = some (SetTO P w a L) ∧ (∀ p ∈ L, SqT K H p.1 (p.2.map V.int)) ∧ (∀ p ∈ L, p.2 ≠ []) ∧
  ∀ (M : List (Addr × List Int)) (p : Addr), M.Perm L → (M.map (·.2)).Nodup → M.length < 64 → M.Pairwise (fun q r => HT.lexLt r.2 q.2 = false) → H p = none → Q (.ref p) (upd H p (.lst (M.map fun q => V.ref q.1)))
section
variable {X : Cx}
theorem cr_sortedSL (hc : X.calm = true) : CallR X (.builtin "sorted") (rSortedSL X.K X.prog X.w) := by
  intro pins s σ H vs us Q I r h
  obtain ⟨a, L, rfl, ha, hk, hne, q⟩ := h
  have R0 : SetT0 X.prog X.w s.heap a L := (I.hok a _ ha).1
  obtain ⟨rows, ep, tb, R⟩ := R0.full fun p hp => I.isT (hk p hp)
  rw [Vals.ref1 r]
  refine sorted_setL R (I.ok.hd hc) hne fun z d out c M kp hg ho hd hout ho2 pm pw => ?_
  have few : M.length < 64 := by rw [pm.length_eq]; exact R.few
  have hl : (M.map fun q => V.ref q.1).length ≤ sizeLine := by rw [List.length_map, sizeLine_eq]; omega
  have nd : H d = none := I.hok.fresh hd
  have rv : Vals (M.map fun q => V.ref q.1) out.toList := by rw [ho2]; exact vals_of_refs M
  have J : Inv X pins σ (upd H d (.lst (M.map fun q => V.ref q.1))) { s with heap := z.heap, gens := z.gens, drawn := z.drawn, toks := z.toks } :=
    I.call (ch := []) (Un.laid kp hd nd) (I.hok.laid kp hd ⟨hl, out.toList, c, rv, hout⟩) (by rw [hg]; exact I.bare) (fun _ n => nomatch n)
  have ez : z = { s with heap := z.heap, gens := z.gens, drawn := z.drawn, toks := z.toks } := by
    cases z
    cases s
    cases ho
    rfl
  rw [ez]
  exact ⟨.ref d, _, J, rfl, q M d pm ((pm.map (·.2)).nodup_iff.mpr R.nd) few pw nd⟩
end
end L2
namespace L2
open PySem PySem.Spec PyProof.Rows PySem.W
def lenLe (b : Bool) (n : V → Int) (x y : V) : Bool := if b = true then decide (n y ≤ n x) else decide (n x ≤ n y)
theorem vals_of_each {out : List Value} {ys : List V} (h : EachIs (fun v x => RelV x v) out ys) : Vals ys out := by
  induction h with
  | nil => exact .nil
  | cons h _ ih => exact .cons h ih
theorem each_of_vals {out : List Value} {ys : List V} (h : Vals ys out) : EachIs (fun v x => RelV x v) out ys := by
  induction h with
  | nil => exact .nil
  | cons h _ ih => exact .cons h ih
theorem ints_alike {α : Type} (n : α → Int) (l : List α) : AllAlike (l.map fun x => PyData.int (n x)) := fun d hd d' hd' => by
  obtain ⟨x, _, rfl⟩ := List.mem_map.mp hd
  obtain ⟨y, _, rfl⟩ := List.mem_map.mp hd'
  rfl
section
variable {X : Cx}
/-- sorted(xs, key=len ..), xs a list of tuples -/
theorem sorted_len_run {kw : List (Str × Value)} {b : Bool} {pins : List (Addr × Obj)} {s : Shared} {σ : L2.St} {H : Hp} {a : Addr} {xs : List V} {n : V → Int} {Q : VK} (I : Inv X pins σ H s) (hs : SqL X.K H a xs)
    (hx : ∀ x ∈ xs, ∃ t ys, x = V.ref t ∧ SqT X.K H t ys ∧ n x = ((ys.length : Nat) : Int)) (hu : X.A.units + 64 < cLine)
    (h1 : argsOk "sorted" ⟨[.ref a], kw⟩) (h2 : ∀ x, argsOk "list.sort" ⟨[.ref x], kw⟩) (h3 : ∀ x, Builtin.«list.sort» ⟨[.ref x], kw⟩ = ksk_tree x (.builtin "len") b)
    (q : ∀ p, H p = none → Q (.ref p) (upd H p (.lst (xs.mergeSort (lenLe b n))))) : wpAny (model X.prog X.w) X.A (call (.builtin "sorted") [.ref a] kw) (EP X pins σ Q) X.xe s := by
  obtain ⟨its, rv, hl, hz⟩ := I.list hs
  have hle : dataLe b (fun x => PyData.int (n x)) = lenLe b n := by
    cases b with
    | true => exact dataGe_int n
    | false => exact dataLe_int n
  refine sorted_key_data (b := b) (fun x : V => PyData.int (n x)) hl.isList (each_of_vals rv) (ints_alike n xs) (.inr fun d hd => ?_) hz (fun x _ => ?_) h1 h2 h3 (fun v x hr hxm h tk kp => ?_) fun out c h' tk kp _ hD hlen eo => ?_
  · obtain ⟨x, _, rfl⟩ := List.mem_map.mp hd
    exact ⟨fun z => (by cases z), fun ys z => (by cases z)⟩
  · have : (PyData.int (n x)).depth ≤ 1 := by simp [PyData.depth]
    omega
  · obtain ⟨t, ys, rfl, hq, hn⟩ := hx x hxm
    obtain rfl : v = Value.ref t := hr
    obtain ⟨us, rv2, pl, hz2⟩ := I.tuple hq
    obtain ⟨o, ho, hc, m, hd⟩ := pl
    have hl2 := rv2.length
    have hsz := sizeLine_eq
    refine len_tuple (items := us.toArray) ⟨o, kp _ _ ho, hc, m, hd⟩ (by rw [List.size_toArray]; omega) ⟨h, _, rfl, fun _ _ e => e, ?_⟩
    have e : n (V.ref t) = ((us.toArray.size : Nat) : Int) := by rw [hn, List.size_toArray, hl2]
    show Reads h _ (PyData.int (n (V.ref t))) []
    rw [e]
    exact .int _ _
  · rw [hle] at eo
    have r2 := vals_of_each eo
    have nd : H (s.heap.objs.size + 1) = none := I.hok.fresh (Nat.le_succ _)
    refine ⟨.ref (s.heap.objs.size + 1), _, I.laid (t' := tk) kp (Nat.le_succ _) (show ObjOk X.prog X.w _ h' _ (.lst (xs.mergeSort (lenLe b n))) from ⟨?_, out, c, r2, hD⟩), rfl, q _ nd⟩
    rw [List.length_mergeSort]; exact hz
end
def tSortedLen (K : PySem.W.Frag) (b : Bool) (t : TA) : TE := fun σ H Q => t σ H fun vs H1 => ∃ (a : Addr) (xs : List V) (n : V → Int), vs = [.ref a] ∧ SqL K H1 a xs ∧ (∀ x ∈ xs, ∃ t ys, x = V.ref t ∧ SqT K H1 t ys ∧ n x = ((ys.length : Nat) : Int)) ∧
  ∀ p, H1 p = none → Q (.ref p) (upd H1 p (.lst (xs.mergeSort (lenLe b n))))
section
variable {X : Cx} {p q r pos k1 k2 : Pos} {e : Expr} {t : TA} {b : Bool} {j : Nat}
theorem pe_sortedLen (hu : X.A.units + 64 < cLine) (hg : Gl X "sorted") (hm : X.mg "sorted" = none) (hg2 : Gl X "len") (hm2 : X.mg "len" = none) (ha : PA X [e] t)
    (he : backTo pos (starEach [e] X.env) = (false, eval e X.env) :: backTo pos (starEach [] X.env) := by rfl) (hpl : (backTo pos (starEach [e] X.env)).any (·.1) = false := by rfl)
    (hall : (backToKw pos (keywordEach [⟨some "key", .Name "len" q, k1⟩] X.env)).all (·.1.isSome) = true := by rfl) (hnone : (backToKw pos (keywordEach [⟨some "key", .Name "len" q, k1⟩] X.env)).any (·.1.isNone) = false := by rfl)
    (hks : (backToKw pos (keywordEach [⟨some "key", .Name "len" q, k1⟩] X.env)).filterMap (·.1) = [Str.ofString "key"] := by rfl) :
    PE X (.Call (.Name "sorted" p) [e] [⟨some "key", .Name "len" q, k1⟩] pos) (tSortedLen X.K false t) := by
  refine ⟨fun pins s σ H Q I h => ?_⟩
  refine wpAny_Call_Name_kw (ld_blt I hg hm (by rfl : bootBuiltins "sorted" = some (.builtin "sorted")) ?_)
  refine PyProof.Rows.callWith_kw (thn (ha.run pos pins s σ H _ I h) fun us s1 ⟨vs, H1, I1, r1, q1⟩ => ?_) he hpl hall hnone
  show wpAny _ _ (evalAll ((do let v ← eval (.Name "len" q) X.env; standAt pos; pure v) :: ((backToKw pos (keywordEach [] X.env)).map (·.2)))) _ _ s1
  refine wpAny_evalAll_cons (wpAny_bind (ld_blt I1 hg2 hm2 (by rfl : bootBuiltins "len" = some (.builtin "len")) (wpAny_bind (wpAny_standAt (wpAny_pure ?_)))))
  refine wpAny_evalAll_nil ?_
  rw [hks]
  obtain ⟨a, xs, n, rfl, hs, hx, k⟩ := q1
  obtain rfl := Vals.ref1 r1
  exact sorted_len_run I1 hs hx hu (ksk_s1 _ _) (fun _ => ksk_l1 _ _) (fun _ => ksk_t4 _ _) k
theorem pe_sortedLenR (hu : X.A.units + 64 < cLine) (hg : Gl X "sorted") (hm : X.mg "sorted" = none) (hg2 : Gl X "len") (hm2 : X.mg "len" = none) (ha : PA X [e] t)
    (he : backTo pos (starEach [e] X.env) = (false, eval e X.env) :: backTo pos (starEach [] X.env) := by rfl) (hpl : (backTo pos (starEach [e] X.env)).any (·.1) = false := by rfl)
    (hall : (backToKw pos (keywordEach [⟨some "key", .Name "len" q, k1⟩, ⟨some "reverse", .Constant (.bool b) j r, k2⟩] X.env)).all (·.1.isSome) = true := by rfl) (hnone : (backToKw pos (keywordEach [⟨some "key", .Name "len" q, k1⟩, ⟨some "reverse", .Constant (.bool b) j r, k2⟩] X.env)).any (·.1.isNone) = false := by rfl)
    (hks : (backToKw pos (keywordEach [⟨some "key", .Name "len" q, k1⟩, ⟨some "reverse", .Constant (.bool b) j r, k2⟩] X.env)).filterMap (·.1) = [Str.ofString "key", Str.ofString "reverse"] := by rfl) :
    PE X (.Call (.Name "sorted" p) [e] [⟨some "key", .Name "len" q, k1⟩, ⟨some "reverse", .Constant (.bool b) j r, k2⟩] pos) (tSortedLen X.K b t) := by
  refine ⟨fun pins s σ H Q I h => ?_⟩
  refine wpAny_Call_Name_kw (ld_blt I hg hm (by rfl : bootBuiltins "sorted" = some (.builtin "sorted")) ?_)
  refine PyProof.Rows.callWith_kw (thn (ha.run pos pins s σ H _ I h) fun us s1 ⟨vs, H1, I1, r1, q1⟩ => ?_) he hpl hall hnone
  show wpAny _ _ (evalAll ((do let v ← eval (.Name "len" q) X.env; standAt pos; pure v) :: (do let v ← eval (.Constant (.bool b) j r) X.env; standAt pos; pure v) :: ((backToKw pos (keywordEach [] X.env)).map (·.2)))) _ _ s1
  refine wpAny_evalAll_cons (wpAny_bind (ld_blt I1 hg2 hm2 (by rfl : bootBuiltins "len" = some (.builtin "len")) (wpAny_bind (wpAny_standAt (wpAny_pure ?_)))))
  refine wpAny_evalAll_cons (wpAny_bind (Constant_bool (wpAny_bind (wpAny_standAt (wpAny_pure ?_)))))
  refine wpAny_evalAll_nil ?_
  rw [hks]
  obtain ⟨a, xs, n, rfl, hs, hx, k⟩ := q1
  obtain rfl := Vals.ref1 r1
  exact sorted_len_run I1 hs hx hu (ksk_s2 _ _ _) (fun _ => ksk_l2 _ _ _) (fun _ => ksk_t5 _ _ _) k
end
end L2
namespace Fp
open PySem PySem.Spec PyProof.Rows L2
section
variable {J : It} {n : Nat} {G : Hp → Prop} {Y : Nat → Hp → V → Hp → Prop}
/-- a comprehension of things, each told by a relation that stays; of each item one thing or none -/
theorem lc_rel {α : Type} (w : Walk J n G Y) (R : Hp → V → α → Prop) (ms : Nat → List α) {g : TG} {tt : L2.TT} {te : TE} {vs : List Nat} {σ : L2.St} {H1 : Hp} {D : Addr} {Qd : Hp → Prop} (hD : H1 D = none) (hn : n < 10000000) (h1 : ∀ i, (ms i).length ≤ 1)
    (hst : ∀ H H' v a, Same H H' → R H v a → R H' v a) (hpt : ∀ H v a us zs, H D = some (.lst us) → R H v a → R (upd H D (.lst zs)) v a) (hG : ∀ H, Same H1 H → G H)
    (hs : ∀ i x H H', i < n → Same H1 H → Y i H x H' → ∀ (Q4 : VK) (N : Hp → Prop), (∀ a y H4, ms i = [a] → Same H H4 → R H4 y a → Q4 y H4) → (ms i = [] → ∀ H4, Same H H4 → N H4) →
      g x (wipe σ vs) H' fun σ2 H2 => wipe σ2 vs = wipe σ vs ∧ tt σ2 H2 fun b H3 => if b = true then te σ2 H3 Q4 else N H3)
    (hd : ∀ H acc, Same H1 H → H D = some (.lst acc) → Paired (R H) acc ((List.range n).flatMap ms) → acc.length ≤ n → Qd H) :
    ∃ W : Nat → Nat → Hp → Prop, (∃ m, W 0 m (upd H1 D (.lst []))) ∧ ∀ i m H, W i m H →
      (J.stop i H ∧ Qd H) ∨ (J.go i H ∧ ∃ Nx : Hp → Prop, (∀ H', Nx H' → ∃ m', m' < m ∧ W (i + 1) m' H') ∧ ∀ x H', J.yld i H x H' → g x (wipe σ vs) H' fun σ2 H2 => wipe σ2 vs = wipe σ vs ∧ tt σ2 H2 fun b H3 =>
        if b = true then te σ2 H3 fun y H4 => ∃ acc, H4 D = some (.lst acc) ∧ acc.length < sizeLine ∧ Nx (upd H4 D (.lst (acc ++ [y]))) else Nx H3) := by
  refine lc_it w (fun i H => Same H1 H ∧ ∃ acc, H D = some (.lst acc) ∧ Paired (R H) acc ((List.range i).flatMap ms) ∧ acc.length ≤ i) ⟨same_new hD _, [], upd_same, .nil, Nat.le_refl _⟩ (fun i H _ z => hG H z.1) (fun i x H H' hi z y => ?_) fun H z => ?_
  · obtain ⟨g1, acc, hacc, hp, hl⟩ := z
    have ex : (List.range (i + 1)).flatMap ms = (List.range i).flatMap ms ++ ms i := by
      rw [List.range_succ, List.flatMap_append]; simp
    refine hs i x H H' hi g1 y _ _ (fun a v H4 e g4 r => ?_) fun e H4 g4 => ?_
    · refine ⟨acc, g4 _ _ hacc, szt (by omega), fun b o q => ?_, acc ++ [v], upd_same, ?_, by rw [List.length_append]; exact Nat.succ_le_succ hl⟩
      · rw [upd_ne (ne_of_none q hD)]; exact g4 _ _ (g1 _ _ q)
      · rw [ex, e]
        exact pr_imp (fun v a h => hpt H4 v a acc _ (g4 _ _ hacc) h) (pr_snoc r (pr_imp (fun v a h => hst H H4 v a g4 h) hp))
    · refine ⟨g1.trans g4, acc, g4 _ _ hacc, ?_, Nat.le_succ_of_le hl⟩
      rw [ex, e, List.append_nil]
      exact pr_imp (fun v a h => hst H H4 v a g4 h) hp
  · obtain ⟨g1, acc, hacc, hp, hl⟩ := z
    exact hd H acc g1 hacc hp hl
/-- the same for integers -/
theorem lc_ints (w : Walk J n G Y) (ms : Nat → List Int) {g : TG} {tt : L2.TT} {te : TE} {vs : List Nat} {σ : L2.St} {H1 : Hp} {D : Addr} {Qd : Hp → Prop} (hD : H1 D = none) (hn : n < 10000000) (h1 : ∀ i, (ms i).length ≤ 1) (hG : ∀ H, Same H1 H → G H)
    (hs : ∀ i x H H', i < n → Same H1 H → Y i H x H' → ∀ (Q4 : VK) (N : Hp → Prop), (∀ a H4, ms i = [a] → Same H H4 → Q4 (.int a) H4) → (ms i = [] → ∀ H4, Same H H4 → N H4) →
      g x (wipe σ vs) H' fun σ2 H2 => wipe σ2 vs = wipe σ vs ∧ tt σ2 H2 fun b H3 => if b = true then te σ2 H3 Q4 else N H3)
    (hd : ∀ H, Same H1 H → H D = some (.lst (((List.range n).flatMap ms).map V.int)) → ((List.range n).flatMap ms).length ≤ n → Qd H) :
    ∃ W : Nat → Nat → Hp → Prop, (∃ m, W 0 m (upd H1 D (.lst []))) ∧ ∀ i m H, W i m H →
      (J.stop i H ∧ Qd H) ∨ (J.go i H ∧ ∃ Nx : Hp → Prop, (∀ H', Nx H' → ∃ m', m' < m ∧ W (i + 1) m' H') ∧ ∀ x H', J.yld i H x H' → g x (wipe σ vs) H' fun σ2 H2 => wipe σ2 vs = wipe σ vs ∧ tt σ2 H2 fun b H3 =>
        if b = true then te σ2 H3 fun y H4 => ∃ acc, H4 D = some (.lst acc) ∧ acc.length < sizeLine ∧ Nx (upd H4 D (.lst (acc ++ [y]))) else Nx H3) := by
  have inv : ∀ {H : Hp} {acc : List V} {ns : List Int}, Paired (fun (v : V) (a : Int) => v = .int a) acc ns → acc = ns.map V.int := fun {H} {acc} {ns} h => by
    induction h with
    | nil => rfl
    | cons h _ ih => rw [h, ih]; rfl
  refine lc_rel w (fun _ v (a : Int) => v = .int a) ms hD hn h1 (fun _ _ _ _ _ h => h) (fun _ _ _ _ _ _ h => h) hG (fun i x H H' hi g1 y Q4 N hQ hN => hs i x H H' hi g1 y Q4 N (fun a H4 e g4 => hQ a _ H4 e g4 rfl) hN) fun H acc g1 hacc hp hl => ?_
  have e := inv (H := H) hp
  subst e
  exact hd H g1 hacc (by simpa using hl)
end
end Fp
/-! [elt for .. in .. for .. in .. for .. in ..]: three clauses, put together clause by clause -/
namespace L2
open PySem PySem.Spec PyProof.Rows
abbrev NoE : Value → Shared → Prop := fun _ _ => False
abbrev BW := (Shared → Prop) → Shared → Prop
def LoopRule (prog : Program) (w : World) (A : Around) (E : Expr) (k : Nat) (acc : Value) (env : Env) (tg : Expr) (ifs : List Expr) (bw : BW) : Prop :=
  ∀ (it : Value) (R : Result → Shared → Prop) (s : Shared) (J : Nat → Shared → Prop),
    (∀ n s, J n s → wpAny (model prog w) A (pyNext it) (fun r z => match r with
      | none => R (.ok .next) z
      | some v => wpAny (model prog w) A (letOwnedTupleGo tg it v) (fun _ z1 => wpAny (model prog w) A (assign tg env v) (fun _ z2 =>
          wpAny (model prog w) A (forIn ifs true fun c r => if r = true then do let ok ← isTrue c env (eval c env); pure (ForInStep.yield ok) else pure (ForInStep.yield r)) (fun b z3 =>
            if b = true then bw (fun z4 => ∃ m, m < n ∧ J m z4) z3 else ∃ m, m < n ∧ J m z3) NoE z2) NoE z1) NoE z) NoE s) →
    ∀ n, J n s → codeAny (model prog w) A (.compLoop E k it acc env) R s
def bwOut (prog : Program) (w : World) (A : Around) (E : Expr) (k : Nat) (acc : Value) (env : Env) (i1 : Expr) : BW := fun Post s =>
  wpAny (model prog w) A (eval i1 env) (fun x z => wpAny (model prog w) A (pyIter x) (fun it1 z1 => codeAny (model prog w) A (.compStart E (k + 1) it1 acc env) (fun r z2 => match r with
    | .ok _ => Post z2
    | .error _ => False) z1) NoE z) NoE s
def bwIn (prog : Program) (w : World) (A : Around) (acc : Value) (env : Env) (elt : Expr) : BW := fun Post s =>
  wpAny (model prog w) A (eval elt env) (fun x z => wpAny (model prog w) A (call (.builtin "list.append") [acc, x]) (fun _ z1 => Post z1) NoE z) NoE s
section
variable {prog : Program} {w : World} {A : Around} {e0 elt tg i0 i1 : Expr} {ges : List Comprehension} {scope : Scope} {pos : Pos} {k : Nat} {acc : Value} {env : Env} {ifs : List Expr}
theorem loop_out (hs : ∀ x, foldedSetIterable i1 env x = pure x)
    (hk : ∀ it, compTurn (.ListComp e0 ges scope pos) k it acc env = (do
      standAt i0.pos
      match ← pyNext it with
      | none => pure (.done .next)
      | some v =>
        letOwnedTupleGo tg it v
        assign tg env v
        let mut ok := true
        for c in ifs do
          if ok then ok ← isTrue c env (eval c env)
        if ok then
          let x ← eval i1 env
          standAt i1.pos
          let x ← foldedSetIterable i1 env x
          let _ ← runOwn (.compStart (.ListComp e0 ges scope pos) (k + 1) (← holding [x] (pyIter x)) acc env) env
        again (.compLoop (.ListComp e0 ges scope pos) k it acc env))) : LoopRule prog w A (.ListComp e0 ges scope pos) k acc env tg ifs (bwOut prog w A (.ListComp e0 ges scope pos) k acc env i1) := by
  intro it R s J turn n h
  refine codeAny_loop rfl J (fun m z hJ => ?_) n h
  show wpAny _ A ((compTurn (.ListComp e0 ges scope pos) k it acc env).onRaise (fun x => do noteFrame x env; theTreesLotGoes x)) _ _ z
  refine wpAny_noted ?_
  rw [hk]
  refine wpAny_bind (wpAny_standAt (wpAny_bind (thnF (turn m z hJ) fun r z1 h1 => ?_)))
  cases r with
  | none => exact wpAny_pure h1
  | some v =>
    refine wpAny_bind (thnF h1 fun _ z2 h2 => ?_)
    refine wpAny_bind (thnF h2 fun _ z3 h3 => wpAny_bind (thnF h3 fun b z4 h4 => ?_))
    cases b with
    | false => exact wpAny_pure ⟨rfl, h4⟩
    | true =>
      refine wpAny_bind (thnF h4 fun x z5 h5 => ?_)
      refine wpAny_bind (wpAny_standAt (wpAny_bind (wpAny_of_eq (hs x) (wpAny_bind (wpAny_holding (thnF h5 fun it1 z6 h6 => ?_))))))
      refine wpAny_bind (wpAny_runOwn ?_)
      rw [Around.mark_none]
      refine codeAny_mono h6 fun r z7 h7 => ?_
      cases r with
      | ok f =>
        first
          | exact wpAny_pure ⟨rfl, h7⟩
          | exact wpAny_bind (wpAny_pure (wpAny_pure ⟨rfl, h7⟩))
      | error e => exact h7.elim
theorem loop_in
    (hk : ∀ it, compTurn (.ListComp e0 ges scope pos) k it acc env = (do
      standAt i0.pos
      match ← pyNext it with
      | none => pure (.done .next)
      | some v =>
        letOwnedTupleGo tg it v
        assign tg env v
        let mut ok := true
        for c in ifs do
          if ok then ok ← isTrue c env (eval c env)
        if ok then
          (do let _ ← call (.builtin "list.append") [acc, ← eval elt env])
        again (.compLoop (.ListComp e0 ges scope pos) k it acc env))) : LoopRule prog w A (.ListComp e0 ges scope pos) k acc env tg ifs (bwIn prog w A acc env elt) := by
  intro it R s J turn n h
  refine codeAny_loop rfl J (fun m z hJ => ?_) n h
  show wpAny _ A ((compTurn (.ListComp e0 ges scope pos) k it acc env).onRaise (fun x => do noteFrame x env; theTreesLotGoes x)) _ _ z
  refine wpAny_noted ?_
  rw [hk]
  refine wpAny_bind (wpAny_standAt (wpAny_bind (thnF (turn m z hJ) fun r z1 h1 => ?_)))
  cases r with
  | none => exact wpAny_pure h1
  | some v =>
    refine wpAny_bind (thnF h1 fun _ z2 h2 => ?_)
    refine wpAny_bind (thnF h2 fun _ z3 h3 => wpAny_bind (thnF h3 fun b z4 h4 => ?_))
    cases b with
    | false => exact wpAny_pure ⟨rfl, h4⟩
    | true => exact wpAny_bind (wpAny_bind (thnF h4 fun x z5 h5 => wpAny_bind (thnF h5 fun _ z6 h6 => wpAny_pure (wpAny_pure ⟨rfl, h6⟩))))
end
/-- what a clause hands on: the heap is as N says, the slots outside vs stay -/
def Kept (X : Cx) (pins : List (Addr × Obj)) (σ : St) (vs : List Nat) (N : Hp → Prop) (s : Shared) : Prop := ∃ σ' H', Inv X pins σ' H' s ∧ σ'.length = σ.length ∧ (∀ (j : Nat) v, j ∉ vs → σ[j]? = some (some v) → σ'[j]? = some (some v)) ∧ N H'
abbrev TB := St → Hp → (Hp → Prop) → Prop
def tApp (te : TE) (D : Addr) : TB := fun σ H N => te σ H fun y H1 => ∃ acc, H1 D = some (.lst acc) ∧ acc.length < sizeLine ∧ N (upd H1 D (.lst (acc ++ [y])))
def tTurns (J : It) (g : TG) (tt : TT) (tb : TB) (vs : List Nat) (σ : St) (W : Nat → Nat → Hp → Prop) (N : Hp → Prop) : Prop := ∀ i m H, W i m H →
  (J.stop i H ∧ N H) ∨ (J.go i H ∧ ∃ Nx : Hp → Prop, (∀ H', Nx H' → ∃ m', m' < m ∧ W (i + 1) m' H') ∧ ∀ x H', J.yld i H x H' → g x (wipe σ vs) H' fun σ2 H2 => wipe σ2 vs = wipe σ vs ∧ tt σ2 H2 fun b H3 => if b = true then tb σ2 H3 Nx else Nx H3)
def tClause (wi : TI) (g : TG) (tt : TT) (tb : TB) (vs : List Nat) : TB := fun σ H N => wi σ H fun J H1 => ∃ W : Nat → Nat → Hp → Prop, (∃ m, W 0 m H1) ∧ tTurns J g tt tb vs σ W N
def BodyOk (X : Cx) (bw : BW) (tb : TB) (vs : List Nat) : Prop := ∀ (pins : List (Addr × Obj)) (σ : St) (H : Hp) (s : Shared) (N : Hp → Prop), Inv X pins σ H s → tb σ H N → bw (Kept X pins σ vs N) s
theorem bwOut_mono {prog : Program} {w : World} {A : Around} {E i1 : Expr} {k : Nat} {acc : Value} {env : Env} {P Q : Shared → Prop} {s : Shared} (h : bwOut prog w A E k acc env i1 P s) (f : ∀ s, P s → Q s) : bwOut prog w A E k acc env i1 Q s :=
  thnF h fun x z h1 => thnF h1 fun it z1 h2 => codeAny_mono h2 fun r z2 h3 => by
    cases r with
    | ok _ => exact f _ h3
    | error _ => exact h3
theorem bwIn_mono {prog : Program} {w : World} {A : Around} {elt : Expr} {acc : Value} {env : Env} {P Q : Shared → Prop} {s : Shared} (h : bwIn prog w A acc env elt P s) (f : ∀ s, P s → Q s) : bwIn prog w A acc env elt Q s :=
  thnF h fun x z h1 => thnF h1 fun it z1 h2 => f _ h2
/-- the innermost clause's body -/
theorem body_in {X : Cx} {elt : Expr} {te : TE} {D : Addr} (hX : X.xe = NoE) (he : PE X elt te) : BodyOk X (bwIn X.prog X.w X.A (.ref D) X.env elt) (tApp te D) [] := by
  intro pins σ H s N I h
  have r := he.run pins s σ H _ I h
  rw [hX] at r
  refine thnF r fun u z ⟨y, H1, I1, ry, acc, hD, hz, n⟩ => ?_
  exact app_ok I1 hD hz ry fun z1 I2 => ⟨_, _, I2, rfl, fun _ _ _ e => e, n⟩
/-- the turns of a clause -/
theorem turns_run {X : Cx} {E tg : Expr} {k : Nat} {D it : Addr} {ifs : List Expr} {bw : BW} {g : TG} {tt : TT} {tb : TB} {vs vi : List Nat} {J : It} {fp : List Addr} {tn : Nat → Heap → Prop} {W : Nat → Nat → Hp → Prop} {N : Hp → Prop} {pins : List (Addr × Obj)} {σ : St}
    (hc : X.calm = true) (hX : X.xe = NoE) (L : LoopRule X.prog X.w X.A E k (.ref D) X.env tg ifs bw) (mono : ∀ {P Q : Shared → Prop} {s : Shared}, bw P s → (∀ s, P s → Q s) → bw Q s) (pg : PG X tg g) (pt : PTs X ifs tt) (hb : BodyOk X bw tb vi) (hvi : ∀ j ∈ vi, j ∈ vs)
    (T : Turn X.prog X.w X.K tg J fp it tn) (tr : tTurns J g tt tb vs σ W N) (stat : ∀ {pins' σ' H' s'}, Inv X pins' σ' H' s' → (∀ b ∈ fp, H' b = none) → ∀ b ∈ fp, FpOk X pins H' b)
    {R : Result → Shared → Prop} (hR : ∀ H' s', Inv X pins (wipe σ vs) H' s' → N H' → R (.ok .next) s') {s : Shared} {H : Hp} (I : Inv X pins (wipe σ vs) H s) (st : tn 0 s.heap) (nf : ∀ b ∈ fp, H b = none) {m : Nat} (w0 : W 0 m H) :
    codeAny (model X.prog X.w) X.A (.compLoop E k (.ref it) (.ref D) X.env) R s := by
  refine L (.ref it) R s (fun n z => ∃ i H', Inv X pins (wipe σ vs) H' z ∧ tn i z.heap ∧ (∀ b ∈ fp, H' b = none) ∧ W i n H') ?_ m ⟨0, H, I, st, nf, w0⟩
  rintro n z ⟨i, H1, I1, st1, nf1, w1⟩
  rcases tr i n H1 w1 with ⟨stop, nn⟩ | ⟨go, Nx, hNx, step⟩
  · refine thnF (T.done X rfl rfl rfl hc i _ z (wipe σ vs) H1 (fun _ _ => False) I1 (stat I1 nf1) st1 stop) fun r z1 ⟨hr, I2⟩ => ?_
    subst hr
    exact hR _ _ I2 nn
  · refine thnF (T.item X rfl rfl rfl hc i _ z (wipe σ vs) H1 (fun _ _ => False) I1 (stat I1 nf1) st1 go) fun r z1 ⟨u, hr, h1⟩ => ?_
    subst hr
    refine thnF h1 fun _ z2 ⟨x, H2, I2, r2, y2, st2, nf2⟩ => ?_
    have I2' := I2.pinned (stat I2 nf2) (T.obj _ _ st2)
    have rg := pg.run _ z2 (wipe σ vs) H2 x u _ I2' r2 (step x H2 y2)
    rw [hX] at rg
    refine thnF rg fun _ z3 ⟨σ3, H3, I3, hw, q3⟩ => ?_
    have rt := pt.run _ z3 σ3 H3 _ I3 q3
    rw [hX] at rt
    refine thnF rt fun b z4 ⟨H4, I4, q4⟩ => ?_
    have fin : ∀ {σ9 : St} {z9 : Shared} {H9 : Hp}, Inv X (pins ++ pinsAt fp z2.heap) σ9 H9 z9 → σ9.length = σ3.length → (∀ (j : Nat) v, j ∉ vi → σ3[j]? = some (some v) → σ9[j]? = some (some v)) → Nx H9 →
        ∃ m, m < n ∧ ∃ i H', Inv X pins (wipe σ vs) H' z9 ∧ tn i z9.heap ∧ (∀ b ∈ fp, H' b = none) ∧ W i m H' := fun {σ9 z9 H9} I9 hl hk nx => by
      obtain ⟨m', hm, w'⟩ := hNx H9 nx
      have pin' : ∀ b ∈ fp, ∀ o, z2.heap.get? b = some o → z9.heap.get? b = some o ∧ H9 b = none := fun b hb o e =>
        let q := I9.pin (b, o) (List.mem_append_right _ (List.mem_append_right _ (mem_pinsAt hb e)))
        ⟨q.1, q.2.1⟩
      refine ⟨m', hm, i + 1, H9, I9.unpinned.weak (by rw [← hw, wipe_length, hl]) (fun j v e => ?_), T.keep _ _ _ st2 fun b hb o e => (pin' b hb o e).1, fun b hb => ?_, w'⟩
      · rw [← hw] at e
        obtain ⟨e1, e2⟩ := wipe_some e
        exact hk j v (fun q => e2 (hvi j q)) e1
      · obtain ⟨o, e, _⟩ := T.obj _ _ st2 b hb
        exact (pin' b hb o e).2
    cases b with
    | false =>
      simp only [Bool.false_eq_true, if_false] at q4 ⊢
      exact fin I4 rfl (fun _ _ _ e => e) q4
    | true =>
      simp only [if_true] at q4 ⊢
      exact mono (hb _ _ _ _ _ I4 q4) fun z5 ⟨σ5, H5, I5, hl5, hk5, n5⟩ => fin I5 hl5 hk5 n5
/-- a further clause, from its source on -/
theorem clause_body {X : Cx} {e0 tg i1 : Expr} {ges : List Comprehension} {scope : Scope} {pos : Pos} {k : Nat} {D : Addr} {ifs : List Expr} {bw : BW} {wi : TI} {g : TG} {tt : TT} {tb : TB} {vs vi : List Nat}
    (hc : X.calm = true) (hX : X.xe = NoE) (pi : PI X tg i1 wi) (L : LoopRule X.prog X.w X.A (.ListComp e0 ges scope pos) (k + 1) (.ref D) X.env tg ifs bw) (mono : ∀ {P Q : Shared → Prop} {s : Shared}, bw P s → (∀ s, P s → Q s) → bw Q s) (pg : PG X tg g) (pt : PTs X ifs tt) (hb : BodyOk X bw tb vi) (hvi : ∀ j ∈ vi, j ∈ vs)
    (start : ∀ {it : Value} {R : Result → Shared → Prop} {s : Shared}, codeAny (model X.prog X.w) X.A (.compLoop (.ListComp e0 ges scope pos) (k + 1) it (.ref D) X.env) R s →
      wpAny (model X.prog X.w) X.A (pyIter it) (fun it' z => codeAny (model X.prog X.w) X.A (.compLoop (.ListComp e0 ges scope pos) (k + 1) it' (.ref D) X.env) R z) (notedBy (model X.prog X.w) X.A X.env fun x z => R (.error x) z) s →
      codeAny (model X.prog X.w) X.A (.compStart (.ListComp e0 ges scope pos) (k + 1) it (.ref D) X.env) R s) :
    BodyOk X (bwOut X.prog X.w X.A (.ListComp e0 ges scope pos) k (.ref D) X.env i1) (tClause wi g tt tb vs) vs := by
  intro pins σ H s N I h
  have r := pi.run pins s σ H _ I h
  rw [hX] at r
  refine thnF r fun xv z hx => ?_
  refine thnF hx fun itv z1 h1 => ?_
  obtain ⟨it, fp, tn, J, H1, e, I1, T, st1, f1, W, ⟨m, w1⟩, tr⟩ := h1
  subst e
  have loop := turns_run (R := fun r z2 => match r with
      | .ok _ => Kept X pins σ vs N z2
      | .error _ => False) hc hX L mono pg pt hb hvi T tr (fun {pins' σ' H' s'} _ hn b hb => ⟨hn b hb, (f1 b hb).2⟩) (fun H' s' I' n => ⟨_, H', I', wipe_length _ _, fun j v hj e => by rw [wipe_out hj]; exact e, n⟩) (I1.weak (wipe_length _ _) (fun j v e => (wipe_some e).1)) st1 (fun b hb => (f1 b hb).1) w1
  exact start loop (T.self X.A 0 _ _ _ st1 loop)
section
variable {prog : Program} {w : World} {A : Around} {R : Result → Shared → Prop} {s : Shared} {elt t0 i0 t1 i1 t2 i2 : Expr} {f0 f1 f2 : List Expr} {scope : Scope} {pos : Pos} {it acc : Value} {env : Env}
abbrev Lc3 (elt t0 i0 t1 i1 t2 i2 : Expr) (f0 f1 f2 : List Expr) (scope : Scope) (pos : Pos) : Expr := .ListComp elt [⟨t0, i0, f0, 0⟩, ⟨t1, i1, f1, 0⟩, ⟨t2, i2, f2, 0⟩] scope pos
theorem start3_1 (h0 : codeAny (model prog w) A (.compLoop (Lc3 elt t0 i0 t1 i1 t2 i2 f0 f1 f2 scope pos) 1 it acc env) R s)
    (h : wpAny (model prog w) A (pyIter it) (fun it' z => codeAny (model prog w) A (.compLoop (Lc3 elt t0 i0 t1 i1 t2 i2 f0 f1 f2 scope pos) 1 it' acc env) R z) (notedBy (model prog w) A env fun x z => R (.error x) z) s) :
    codeAny (model prog w) A (.compStart (Lc3 elt t0 i0 t1 i1 t2 i2 f0 f1 f2 scope pos) 1 it acc env) R s := by
  refine codeAny_of_tree ?_
  show wpAny _ _ ((compStart (Lc3 elt t0 i0 t1 i1 t2 i2 f0 f1 f2 scope pos) 1 it acc env).onRaise (fun x => do noteFrame x env; standAt theWindowsPlace)) _ _ s
  refine wpAny_notedAt ?_
  unfold compStart
  show wpAny _ _ (ask >>= _) _ _ s
  refine wpAny_bind (wpAny_askSetting (wpAny_ite ?_))
  split
  · first
      | exact wpAny_bind (wpAny_pure (wpAny_pure (And.intro rfl h0)))
      | exact wpAny_pure (And.intro rfl h0)
  · first
      | exact wpAny_bind (wpAny_rule (wpAny_bind (wpAny_standAt (wpAny_bind (wpAny_mono h (fun it' z h' => wpAny_pure (And.intro rfl h')) fun _ _ q => q)))))
      | (refine wpAny_bind (wpAny_rule ?_); show wpAny _ _ (standAt i1.pos >>= _) _ _ s; exact wpAny_bind (wpAny_standAt (wpAny_bind (wpAny_mono h (fun it' z h' => wpAny_pure (And.intro rfl h')) fun _ _ q => q))))
theorem start3_2 (h0 : codeAny (model prog w) A (.compLoop (Lc3 elt t0 i0 t1 i1 t2 i2 f0 f1 f2 scope pos) 2 it acc env) R s)
    (h : wpAny (model prog w) A (pyIter it) (fun it' z => codeAny (model prog w) A (.compLoop (Lc3 elt t0 i0 t1 i1 t2 i2 f0 f1 f2 scope pos) 2 it' acc env) R z) (notedBy (model prog w) A env fun x z => R (.error x) z) s) :
    codeAny (model prog w) A (.compStart (Lc3 elt t0 i0 t1 i1 t2 i2 f0 f1 f2 scope pos) 2 it acc env) R s := by
  refine codeAny_of_tree ?_
  show wpAny _ _ ((compStart (Lc3 elt t0 i0 t1 i1 t2 i2 f0 f1 f2 scope pos) 2 it acc env).onRaise (fun x => do noteFrame x env; standAt theWindowsPlace)) _ _ s
  refine wpAny_notedAt ?_
  unfold compStart
  show wpAny _ _ (ask >>= _) _ _ s
  refine wpAny_bind (wpAny_askSetting (wpAny_ite ?_))
  split
  · first
      | exact wpAny_bind (wpAny_pure (wpAny_pure (And.intro rfl h0)))
      | exact wpAny_pure (And.intro rfl h0)
  · first
      | exact wpAny_bind (wpAny_rule (wpAny_bind (wpAny_standAt (wpAny_bind (wpAny_mono h (fun it' z h' => wpAny_pure (And.intro rfl h')) fun _ _ q => q)))))
      | (refine wpAny_bind (wpAny_rule ?_); show wpAny _ _ (standAt i2.pos >>= _) _ _ s; exact wpAny_bind (wpAny_standAt (wpAny_bind (wpAny_mono h (fun it' z h' => wpAny_pure (And.intro rfl h')) fun _ _ q => q))))
end
/-- the reading: clause by clause; vs1: the names of the second and third target, vs2: of the third -/
def tLc3 (wi : TI) (g : TG) (tt : TT) (wi1 : TI) (g1 : TG) (tt1 : TT) (wi2 : TI) (g2 : TG) (tt2 : TT) (te : TE) (vs vs1 vs2 : List Nat) : TE := fun σ H Q => wi σ H fun J H1 => ∀ D, H1 D = none → ∃ W : Nat → Nat → Hp → Prop, (∃ m, W 0 m (upd H1 D (.lst []))) ∧
  tTurns J g tt (tClause wi1 g1 tt1 (tClause wi2 g2 tt2 (tApp te D) vs2) vs1) vs σ W (Q (.ref D))
section
variable {X : Cx}
theorem pe_lc3 {elt t0 i0 t1 i1 t2 i2 : Expr} {f0 f1 f2 : List Expr} {scope : Scope} {own : List (Str × Nat)} {vs1 vs2 : List Nat} {pos : Pos} {wi wi1 wi2 : TI} {g g1 g2 : TG} {tt tt1 tt2 : TT} {te : TE} (hc : X.calm = true) (hN : X.N.Nodup) (hi : PI X t0 i0 wi) (ok : BlkOk X.N X.env.scope scope own) (hv1 : ∀ i ∈ vs1, i ∈ own.map (·.2)) (hv2 : ∀ i ∈ vs2, i ∈ vs1)
    (hg : ∀ (s : Shared) (H : Hp) (C : Addr) (cl : List (Str × Addr)) (fp : List Addr), PG (X.blk s H scope (compEnvC scope cl C X.env) fp) t0 g) (ht : ∀ (s : Shared) (H : Hp) (C : Addr) (cl : List (Str × Addr)) (fp : List Addr), PTs (X.blk s H scope (compEnvC scope cl C X.env) fp) f0 tt)
    (hi1 : ∀ (s : Shared) (H : Hp) (C : Addr) (cl : List (Str × Addr)) (fp : List Addr), PI (X.blk s H scope (compEnvC scope cl C X.env) fp) t1 i1 wi1)
    (hg1 : ∀ (s : Shared) (H : Hp) (C : Addr) (cl : List (Str × Addr)) (fp : List Addr), PG (X.blk s H scope (compEnvC scope cl C X.env) fp) t1 g1) (ht1 : ∀ (s : Shared) (H : Hp) (C : Addr) (cl : List (Str × Addr)) (fp : List Addr), PTs (X.blk s H scope (compEnvC scope cl C X.env) fp) f1 tt1)
    (hi2 : ∀ (s : Shared) (H : Hp) (C : Addr) (cl : List (Str × Addr)) (fp : List Addr), PI (X.blk s H scope (compEnvC scope cl C X.env) fp) t2 i2 wi2)
    (hg2 : ∀ (s : Shared) (H : Hp) (C : Addr) (cl : List (Str × Addr)) (fp : List Addr), PG (X.blk s H scope (compEnvC scope cl C X.env) fp) t2 g2) (ht2 : ∀ (s : Shared) (H : Hp) (C : Addr) (cl : List (Str × Addr)) (fp : List Addr), PTs (X.blk s H scope (compEnvC scope cl C X.env) fp) f2 tt2)
    (he : ∀ (s : Shared) (H : Hp) (C : Addr) (cl : List (Str × Addr)) (fp : List Addr), PE (X.blk s H scope (compEnvC scope cl C X.env) fp) elt te) (hs : ∀ x, foldedSetIterable i0 X.env x = pure x := by intro _; rfl) (hs1 : ∀ env x, foldedSetIterable i1 env x = pure x := by intro _ _; rfl) (hs2 : ∀ env x, foldedSetIterable i2 env x = pure x := by intro _ _; rfl) :
    PE X (Lc3 elt t0 i0 t1 i1 t2 i2 f0 f1 f2 scope pos) (tLc3 wi g tt wi1 g1 tt1 wi2 g2 tt2 te (own.map (·.2)) vs1 vs2) := by
  refine ⟨fun pins s σ H Q I h => ?_⟩
  rw [eval_ListComp]
  have hfree : ∀ y ∈ scope.names, y.2 = .free → ∃ c, X.env.cells.lookup y.1 = some c := fun y hy e => by
    rcases ok.free y hy e with q | q
    · exact I.ok.has _ (.inl q)
    · exact I.ok.has _ (.inr q)
  refine wpAny_comprehension_free (use := none) rfl hs (closure_ok hfree) ok.kind (fun y hy e => by rw [ok.uniq y hy, e])
    (thn (hi.run pins s σ H _ I h) fun xv s1 hx => thn hx fun itv s2 h2 => ?_)
  obtain ⟨it, fp, tn, J, H2, e, I2, T, st2, nf2, q⟩ := h2
  subst e
  refine wpAny_newObj_type (newEnv_comp ?_) (by show 0 ≤ sizeLine; decide)
  generalize hD : s2.heap.objs.size = D
  have hDn : H2 D = none := I2.hok.fresh (Nat.le_of_eq hD)
  obtain ⟨W, ⟨m0, w0⟩, tr⟩ := q D hDn
  generalize hz3 : ({ s2 with heap := s2.heap.push { cls := .type "list", data := .seq ([] : List Value).toArray } } : Shared) = z3
  have I3 : Inv X pins σ (upd H2 D (.lst [])) z3 := by
    rw [← hz3]
    refine I2.laid (t' := s2.toks) (fun b o e => Heap.get?_push_of_some _ e) (Nat.le_of_eq hD) ⟨Nat.zero_le _, [], 0, .nil, ?_⟩
    rw [← hD]
    exact Heap.get?_push_size _ rfl
  have h3 : z3.heap = s2.heap.push { cls := .type "list", data := .seq ([] : List Value).toArray } := by rw [← hz3]
  have sz : ∀ b ∈ fp, b < s2.heap.objs.size := fun b hb => by
    obtain ⟨o, e, _⟩ := T.obj _ _ st2 b hb
    exact Heap.lt_size e
  have f3 : ∀ b ∈ fp, FpOk X pins (upd H2 D (.lst [])) b ∧ b < z3.heap.objs.size := fun b hb => by
    have hlt := sz b hb
    refine ⟨⟨?_, (nf2 b hb).2⟩, by rw [h3, Heap.size_push]; exact Nat.lt_succ_of_lt hlt⟩
    rw [upd_ne (by rw [← hD]; exact Nat.ne_of_lt hlt)]
    exact (nf2 b hb).1
  have st3 : tn 0 z3.heap := T.keep _ _ _ st2 fun b _ o e => by rw [h3]; exact Heap.get?_push_of_some _ e
  have I4 := block_start I3 ok hN f3
  generalize hH3 : upd H2 D (.lst []) = H3 at I3 I4 w0 f3
  generalize hC : z3.heap.objs.size = C at I4 ⊢
  have pg := hg z3 H3 C (cellsFrom (C + 1) scope.names (cloFrom X.env.cells scope.names [])) fp
  have pt := ht z3 H3 C (cellsFrom (C + 1) scope.names (cloFrom X.env.cells scope.names [])) fp
  have pi1 := hi1 z3 H3 C (cellsFrom (C + 1) scope.names (cloFrom X.env.cells scope.names [])) fp
  have pg1 := hg1 z3 H3 C (cellsFrom (C + 1) scope.names (cloFrom X.env.cells scope.names [])) fp
  have pt1 := ht1 z3 H3 C (cellsFrom (C + 1) scope.names (cloFrom X.env.cells scope.names [])) fp
  have pi2 := hi2 z3 H3 C (cellsFrom (C + 1) scope.names (cloFrom X.env.cells scope.names [])) fp
  have pg2 := hg2 z3 H3 C (cellsFrom (C + 1) scope.names (cloFrom X.env.cells scope.names [])) fp
  have pt2 := ht2 z3 H3 C (cellsFrom (C + 1) scope.names (cloFrom X.env.cells scope.names [])) fp
  have pe := he z3 H3 C (cellsFrom (C + 1) scope.names (cloFrom X.env.cells scope.names [])) fp
  show codeAny _ _ (.compStart (Lc3 elt t0 i0 t1 i1 t2 i2 f0 f1 f2 scope pos) 0 (.ref it) (.ref D) (compEnvC scope (cellsFrom (C + 1) scope.names (cloFrom X.env.cells scope.names [])) C X.env)) (compPost (model X.prog X.w) X.A X.xe none _ (.ref D) C) _
  generalize hce : compEnvC scope (cellsFrom (C + 1) scope.names (cloFrom X.env.cells scope.names [])) C X.env = ce at I4 pg pt pi1 pg1 pt1 pi2 pg2 pt2 pe ⊢
  have cL : ce.locals = C := by subst hce; rfl
  generalize hz4 : ({ z3 with heap := pushCells (z3.heap.push { cls := .type "dict", data := .dict #[] }) scope.names } : Shared) = z4 at I4 ⊢
  have st4 : tn 0 z4.heap := T.keep _ _ _ st3 fun b _ o e => by rw [← hz4]; exact pushCells_keeps _ _ _ _ (Heap.get?_push_of_some _ e)
  have nf4 : ∀ b ∈ fp, H3 b = none := fun b hb => by rw [← hH3]; rw [← hH3] at f3; exact (f3 b hb).1.1
  have b2 : BodyOk (X.blk z3 H3 scope ce fp) (bwIn X.prog X.w X.A (.ref D) ce elt) (tApp te D) [] := body_in (X := X.blk z3 H3 scope ce fp) rfl pe
  have b1 : BodyOk (X.blk z3 H3 scope ce fp) (bwOut X.prog X.w X.A (Lc3 elt t0 i0 t1 i1 t2 i2 f0 f1 f2 scope pos) 1 (.ref D) ce i2) (tClause wi2 g2 tt2 (tApp te D) vs2) vs2 :=
    clause_body (X := X.blk z3 H3 scope ce fp) hc rfl pi2 (loop_in (i0 := i2) (fun _ => rfl)) bwIn_mono pg2 pt2 b2 (fun j hj => nomatch hj) start3_2
  have b0 : BodyOk (X.blk z3 H3 scope ce fp) (bwOut X.prog X.w X.A (Lc3 elt t0 i0 t1 i1 t2 i2 f0 f1 f2 scope pos) 0 (.ref D) ce i1) (tClause wi1 g1 tt1 (tClause wi2 g2 tt2 (tApp te D) vs2) vs1) vs1 :=
    clause_body (X := X.blk z3 H3 scope ce fp) hc rfl pi1 (loop_out (i0 := i1) (hs2 ce) (fun _ => rfl)) bwOut_mono pg1 pt1 b1 hv2 start3_1
  have stat : ∀ {pins' : List (Addr × Obj)} {σ' : St} {H' : Hp} {s' : Shared}, Inv (X.blk z3 H3 scope ce fp) pins' σ' H' s' → (∀ b ∈ fp, H' b = none) → ∀ b ∈ fp, FpOk (X.blk z3 H3 scope ce fp) [] H' b := fun {pins' σ' H' s'} I' hn b hb =>
    ⟨hn b hb, (I'.ok.exf b hb).1, I'.ok.exfs b hb, .inl hb, fun x c e => (I'.ok.exf b hb).2 x c e, fun p hp => absurd (show p ∈ ([] : List (Addr × Obj)) ++ [] from hp) (by simp)⟩
  have loop := turns_run (X := X.blk z3 H3 scope ce fp) (R := compPost (model X.prog X.w) X.A X.xe none (fun v s' => EP X pins σ Q v s') (.ref D) C) hc rfl (loop_out (i0 := i0) (hs1 ce) (fun _ => rfl)) bwOut_mono pg pt b0 hv1 T tr stat (fun H5 z5 I5 qq => ?_) I4 st4 nf4 w0
  · exact codeAny_compStart_list loop (T.self X.A 0 _ _ _ st4 loop)
  · have I6 : Inv X pins σ H5 z5 := I3.call' (ch := fp) I5.os I5.base I5.hok I5.bare fun b hb => ⟨(f3 b hb).1.2.2.2.1, (f3 b hb).1.2.1, (f3 b hb).1.2.2.2.2.1, (f3 b hb).1.2.2.2.2.2⟩
    have nC : H5 C = none := by
      have z : H5 ce.locals = none := I5.free
      rw [cL] at z
      exact z
    obtain ⟨m, hn, _⟩ := I5.loc
    have hn : z5.heap.Ns ce.locals m := hn
    rw [cL] at hn
    refine ⟨m, hn, fun h'' sb => ?_⟩
    obtain ⟨g0, g1', g2', g3, g4, g5⟩ := I3.fpOk (Nat.le_of_eq hC) nC
    exact ⟨.ref D, H5, I6.turned (t' := z5.toks) (fun b o hb e => (sb.2 b hb).trans e) g0 g1' g3 g4 g5, rfl, qq⟩
end
end L2
/-! what a comprehension of several clauses collects -/
namespace Fp
open PySem PySem.Spec PyProof.Rows L2
theorem pi_eith {X : Cx} {tg e : Expr} {t1 t2 : TI} (h1 : PI X tg e t1) (h2 : PI X tg e t2) : PI X tg e (fun σ H R => t1 σ H R ∨ t2 σ H R) := ⟨fun pins s σ H R I h => h.elim (h1.run pins s σ H R I) (h2.run pins s σ H R I)⟩
theorem pi_listK {X : Cx} {K : PySem.W.Frag} {tg l : Expr} {tl : TE} (hl : PE X l tl) (e : X.K = K := by rfl) : PI X tg l (iList K tl) := by subst e; exact pi_list hl
theorem pi_tupK' {X : Cx} {K : PySem.W.Frag} {tg l : Expr} {tl : TE} (hl : PE X l tl) (e : X.K = K := by rfl) : PI X tg l (iTup K tl) := by subst e; exact pi_tup hl
structure Stab {α : Type} (R : Hp → V → α → Prop) : Prop where
  same : ∀ {H H' : Hp} {v : V} {a : α}, Same H H' → R H v a → R H' v a
  put : ∀ {H : Hp} {v : V} {a : α} {D : Addr} {us zs : List V}, H D = some (.lst us) → R H v a → R (upd H D (.lst zs)) v a
/-- the list at D has these things, and what was there at H1 is there -/
def Coll {α : Type} (H1 : Hp) (D : Addr) (R : Hp → V → α → Prop) (H : Hp) (l : List α) : Prop := Same H1 H ∧ ∃ acc, H D = some (.lst acc) ∧ Paired (R H) acc l
section
variable {α : Type} {H1 : Hp} {D : Addr} {R : Hp → V → α → Prop}
theorem Coll.start (hD : H1 D = none) : Coll H1 D R (upd H1 D (.lst [])) [] := ⟨same_new hD _, [], upd_same, .nil⟩
theorem Coll.on {H H' : Hp} {l : List α} (S : Stab R) (h : Coll H1 D R H l) (g : Same H H') : Coll H1 D R H' l := by
  obtain ⟨g1, acc, e, p⟩ := h
  exact ⟨g1.trans g, acc, g _ _ e, pr_imp (fun _ _ h => S.same g h) p⟩
theorem coll_app (S : Stab R) (hD : H1 D = none) {H H' : Hp} {l : List α} {y : V} {a : α} {N : Hp → Prop} (h : Coll H1 D R H l) (g : Same H H') (r : R H' y a) (hl : l.length < 10000000) (n : ∀ H2, Coll H1 D R H2 (l ++ [a]) → N H2) :
    ∃ acc, H' D = some (.lst acc) ∧ acc.length < sizeLine ∧ N (upd H' D (.lst (acc ++ [y]))) := by
  obtain ⟨g1, acc, e, p⟩ := h.on S g
  refine ⟨acc, e, szt (by rw [pr_len p]; exact hl), n _ ⟨fun b o q => ?_, acc ++ [y], upd_same, ?_⟩⟩
  · rw [upd_ne (ne_of_none q hD)]; exact g1 _ _ q
  · exact pr_imp (fun _ _ h => S.put e h) (pr_snoc r p)
theorem turns_rel {J : It} {n : Nat} {G : Hp → Prop} {Y : Nat → Hp → V → Hp → Prop} (w : Walk J n G Y) (ms : Nat → List α) {g : TG} {tt : L2.TT} {tb : TB} {vs : List Nat} {σ : L2.St} {N : Hp → Prop} (pre : List α) (hG : ∀ H, Same H1 H → G H)
    (hs : ∀ i x H H', i < n → Coll H1 D R H (pre ++ (List.range i).flatMap ms) → Y i H x H' → ∀ M : Hp → Prop, (∀ H4, Coll H1 D R H4 (pre ++ (List.range i).flatMap ms ++ ms i) → M H4) →
      g x (wipe σ vs) H' fun σ2 H2 => wipe σ2 vs = wipe σ vs ∧ tt σ2 H2 fun b H3 => if b = true then tb σ2 H3 M else M H3)
    (hN : ∀ H, Coll H1 D R H (pre ++ (List.range n).flatMap ms) → N H) {H0 : Hp} (h0 : Coll H1 D R H0 pre) :
    ∃ W : Nat → Nat → Hp → Prop, (∃ m, W 0 m H0) ∧ tTurns J g tt tb vs σ W N := by
  refine ⟨fun i m H => m = n - i ∧ i ≤ n ∧ Coll H1 D R H (pre ++ (List.range i).flatMap ms), ⟨n, rfl, Nat.zero_le _, by rw [List.range_zero, List.flatMap_nil, List.append_nil]; exact h0⟩, ?_⟩
  rintro i m H ⟨rfl, hi, c⟩
  by_cases hlt : i < n
  · refine .inr ⟨w.goes i H hlt (hG H c.1), fun H' => Coll H1 D R H' (pre ++ (List.range (i + 1)).flatMap ms), fun H' c' => ⟨n - (i + 1), by omega, rfl, hlt, c'⟩, fun x H' y => ?_⟩
    refine hs i x H H' hlt c (w.yields i H x H' hlt (hG H c.1) y) _ fun H4 c4 => ?_
    rw [List.range_succ, List.flatMap_append, ← List.append_assoc]
    simpa using c4
  · have e : i = n := by omega
    subst e
    exact .inl ⟨w.stops H (hG H c.1), hN H c⟩
/-- all of it, for the first clause -/
theorem lc_coll {J : It} {n : Nat} {G : Hp → Prop} {Y : Nat → Hp → V → Hp → Prop} (w : Walk J n G Y) (ms : Nat → List α) {g : TG} {tt : L2.TT} {tb : TB} {vs : List Nat} {σ : L2.St} {N : Hp → Prop} (hD : H1 D = none) (hG : ∀ H, Same H1 H → G H)
    (hs : ∀ i x H H', i < n → Coll H1 D R H ((List.range i).flatMap ms) → Y i H x H' → ∀ M : Hp → Prop, (∀ H4, Coll H1 D R H4 ((List.range i).flatMap ms ++ ms i) → M H4) →
      g x (wipe σ vs) H' fun σ2 H2 => wipe σ2 vs = wipe σ vs ∧ tt σ2 H2 fun b H3 => if b = true then tb σ2 H3 M else M H3)
    (hN : ∀ H, Coll H1 D R H ((List.range n).flatMap ms) → N H) :
    ∃ W : Nat → Nat → Hp → Prop, (∃ m, W 0 m (upd H1 D (.lst []))) ∧ tTurns J g tt tb vs σ W N :=
  turns_rel (R := R) w ms [] hG (fun i x H H' hi c y M f => hs i x H H' hi (by simpa using c) y M (by simpa using f)) (fun H c => hN H (by simpa using c)) (Coll.start hD)
end
/-- an integer -/
abbrev RI : Hp → V → Int → Prop := fun _ v a => v = .int a
theorem stab_int : Stab RI := ⟨fun _ h => h, fun _ h => h⟩
theorem coll_ints {H1 H : Hp} {D : Addr} {l : List Int} (h : Coll H1 D RI H l) : Same H1 H ∧ H D = some (.lst (l.map V.int)) := by
  obtain ⟨g, acc, e, p⟩ := h
  refine ⟨g, ?_⟩
  have : acc = l.map V.int := by
    clear e
    induction p with
    | nil => rfl
    | cons h _ ih => rw [h, ih]; rfl
  rw [← this]; exact e
theorem fm_map {α β : Type} (q : α → Bool) (g : α → β) : ∀ l : List α, (l.flatMap fun i => if q i = true then [g i] else []) = (l.filter q).map g
  | [] => rfl
  | a :: l => by
    rw [List.flatMap_cons, fm_map q g l, List.filter_cons]
    by_cases c : q a = true
    · rw [if_pos c, if_pos c]; rfl
    · rw [if_neg c, if_neg c]; rfl
theorem fm_one {α β : Type} (g : α → β) : ∀ l : List α, (l.flatMap fun i => [g i]) = l.map g
  | [] => rfl
  | a :: l => by rw [List.flatMap_cons, fm_one g l]; rfl
theorem fm_fil {α β : Type} (f : α → β) (p : β → Bool) (l : List α) : (l.flatMap fun i => if p (f i) = true then [f i] else []) = (l.map f).filter p := by
  rw [fm_map (fun i => p (f i)) f l, List.filter_map]; rfl
theorem ite_len {α : Type} {c : Prop} [Decidable c] {a : α} : (if c then [a] else []).length ≤ 1 := by
  by_cases h : c
  · rw [if_pos h]; exact Nat.le_refl _
  · rw [if_neg h]; exact Nat.zero_le _
/-- items by number -/
theorem fm_getD {α β : Type} (f : α → List β) (d : α) (l : List α) : (List.range l.length).flatMap (fun i => f (l.getD i d)) = l.flatMap f := by
  have e : (List.range l.length).map (fun i => l.getD i d) = l := by
    refine List.ext_getElem? fun i => ?_
    rw [List.getElem?_map]
    by_cases c : i < l.length
    · rw [List.getElem?_range c, Option.map_some, List.getD_eq_getElem?_getD, List.getElem?_eq_getElem c]; rfl
    · rw [List.getElem?_eq_none (by rw [List.length_range]; omega), List.getElem?_eq_none (by omega)]; rfl
  conv => rhs; rw [← e]
  rw [List.flatMap_map]
theorem fm_len {α : Type} {ms : Nat → List α} {B : Nat} : ∀ n : Nat, (∀ i, i < n → (ms i).length ≤ B) → ((List.range n).flatMap ms).length ≤ n * B
  | 0, _ => Nat.zero_le _
  | n + 1, h => by
    have := fm_len n fun i hi => h i (by omega)
    have h2 := h n (by omega)
    rw [List.range_succ, List.flatMap_append, List.length_append, Nat.succ_mul]
    simp only [List.flatMap_cons, List.flatMap_nil, List.append_nil]
    omega
theorem pr_ix {α β : Type} {R : α → β → Prop} : ∀ {xs : List α} {ys : List β} {i : Nat} {x : α}, Paired R xs ys → xs[i]? = some x → ∃ y, ys[i]? = some y ∧ R x y
  | _, _, 0, _, .cons h _, e => by cases e; exact ⟨_, rfl, h⟩
  | _, _, i + 1, x, .cons _ r, e => pr_ix (i := i) r e
  | _, _, _, _, .nil, e => by cases e
theorem walk_enumS {K : PySem.W.Frag} {a : Addr} {xs : List V} {lo : Int} : Walk (ItE K a lo) xs.length (fun H => SqL K H a xs) (fun i H v H' => ∃ T y, v = .ref T ∧ H T = none ∧ H' = upd H T (.tup [.int (lo + (i : Nat)), y]) ∧ xs[i]? = some y) where
  goes := fun i H hi h => ⟨xs, xs[i], h, List.getElem?_eq_getElem hi⟩
  stops := fun H h => ⟨xs, h, Nat.le_refl _⟩
  yields := fun i H v H' hi h y => by
    obtain ⟨T, y, e1, e2, e3, e4⟩ := y
    exact ⟨T, y, e1, e2, e3, e4 _ h⟩
theorem pr_snoc_inv {α β : Type} {R : α → β → Prop} {b : β} : ∀ {bs : List β} {xs : List α}, Paired R xs (bs ++ [b]) → ∃ ys x, xs = ys ++ [x] ∧ Paired R ys bs ∧ R x b
  | [], _, .cons h .nil => ⟨[], _, rfl, .nil, h⟩
  | c :: bs, _, .cons h t => by
    obtain ⟨ys, x, rfl, hp, hr⟩ := pr_snoc_inv t
    exact ⟨_ :: ys, x, rfl, .cons h hp, hr⟩
theorem cut_init (xs : List V) (v : V) : cutV (xs ++ [v]) none (some (-1)) = xs := by
  have e1 : HT.sIx (xs ++ [v]).length (xs ++ [v]).length (some (-1)) = ((-1 : Int) + ((xs ++ [v]).length : Int)).toNat := rfl
  have e2 : HT.sIx (xs ++ [v]).length 0 none = 0 := rfl
  unfold cutV
  rw [e1, e2, List.length_append, List.length_singleton]
  show ((xs ++ [v]).drop 0).take (((-1 : Int) + ((xs.length + 1 : Nat) : Int)).toNat - 0) = xs
  rw [List.drop_zero, show ((-1 : Int) + ((xs.length + 1 : Nat) : Int)).toNat - 0 = xs.length by omega, List.take_left]
theorem fm_if {α β : Type} (p : α → Bool) (f : α → List β) : ∀ l : List α, (l.flatMap fun x => if p x = true then f x else []) = (l.filter p).flatMap f
  | [] => rfl
  | a :: l => by
    rw [List.flatMap_cons, fm_if p f l, List.filter_cons]
    by_cases c : p a = true
    · rw [if_pos c, if_pos c, List.flatMap_cons]
    · rw [if_neg c, if_neg c]; rfl
end Fp
/-! tasks: texts and what they tell -/
namespace TL
open PySem
theorem pre_second {s m c d : Nat} {S r : List Nat} (h : d ≠ m) : pre (s :: m :: S) (c :: d :: r) = false := by
  cases hp : pre (s :: m :: S) (c :: d :: r) with
  | false => rfl
  | true =>
    have e : (c :: d :: r).take (s :: m :: S).length = s :: m :: S := eq_of_beq hp
    rw [List.length_cons, List.take_succ_cons, List.length_cons, List.take_succ_cons] at e
    injection e with e1 e2
    injection e2 with e3 e4
    exact absurd e3 h
theorem pre_short {s m c : Nat} {S : List Nat} : pre (s :: m :: S) [c] = false := by
  cases hp : pre (s :: m :: S) [c] with
  | false => rfl
  | true =>
    have e : [c].take (s :: m :: S).length = s :: m :: S := eq_of_beq hp
    simp at e
theorem free_mid {s m : Nat} {S p r : List Nat} (h : m ∉ p) (hs : s ≠ m) (hr : r = [] ∨ ∃ t, r = s :: t) : ∀ i, i < p.length → pre (s :: m :: S) ((p ++ r).drop i) = false := fun i hi => by
  have e : (p ++ r).drop i = p[i] :: (p.drop (i + 1) ++ r) := by
    rw [List.drop_append_of_le_length (by omega), List.drop_eq_getElem_cons hi]; rfl
  rw [e]
  cases e2 : p.drop (i + 1) with
  | nil =>
    rcases hr with rfl | ⟨t, rfl⟩
    · exact pre_short
    · exact pre_second hs
  | cons d q =>
    refine pre_second fun z => h ?_
    have : d ∈ p.drop (i + 1) := by rw [e2]; exact List.mem_cons_self
    rw [← z]
    exact List.mem_of_mem_drop this
theorem spl_join_mid {s m : Nat} {S : List Nat} (hs : s ≠ m) : ∀ {parts : List (List Nat)}, parts ≠ [] → (∀ p ∈ parts, m ∉ p) → spl (s :: m :: S) 0 [] (joinL (s :: m :: S) parts) = parts
  | [], h, _ => absurd rfl h
  | [p], _, hp => by
    show spl (s :: m :: S) 0 [] p = [p]
    rw [spl_last (fun i hi => by
      have := free_mid (S := S) (r := []) (hp p (List.mem_singleton.mpr rfl)) hs (.inl rfl) i hi
      rwa [List.append_nil] at this), List.nil_append]
  | p :: q :: r, _, hp => by
    show spl (s :: m :: S) 0 [] (p ++ (s :: m :: S ++ joinL (s :: m :: S) (q :: r))) = p :: q :: r
    rw [spl_part (by simp) (free_mid (hp p (List.mem_cons_self ..)) hs (.inr ⟨_, rfl⟩)), List.nil_append, spl_join_mid hs (by simp) fun z hz => hp z (List.mem_cons_of_mem _ hz)]
theorem split_join_mid {y : Str} {s m : Nat} {S : List Nat} (ey : tl y = s :: m :: S) (hs : s ≠ m) (hk : y.cps.all (· < 256) = true) {parts : List Str} (hne : parts ≠ []) (hp : ∀ p ∈ parts, m ∉ tl p) :
    Txt.split (Txt.join y parts) y = parts := by
  refine map_tl_inj ?_
  rw [split_spl _ y (by rw [ey]; simp) (kind_ok hk), join_eq, tl_join, ey]
  refine spl_join_mid hs (fun e => hne (List.map_eq_nil_iff.mp e)) fun p h => ?_
  obtain ⟨z, hz, rfl⟩ := List.mem_map.mp h
  exact hp z hz
end TL
namespace Fp
open PySem PySem.Spec PyProof.Rows L2
abbrev TLn := List Int × List (List Int)
def litL (l : List Int) : Str := Txt.join " " (l.map fun i => (toString i : Str))
def lineT (ln : TLn) : Str := litL ln.1 ++ (" : " : Str) ++ Txt.join " | " (ln.2.map litL)
def taskT (ls : List TLn) : Str := Txt.join "\n" (ls.map lineT)
/-! what a text tells -/
def lotIn (z : Str) : Option (List Int) :=
  let ws := (Txt.split z " ").map fun w => numIn w 0 99
  if ws.all Option.isSome = true ∧ adjLt (ws.map fun o => o.getD 0) = true then some (ws.map fun o => o.getD 0) else none
def lineIn (z : Str) : Option TLn :=
  match Txt.split z " : " with
  | [a, b] => match lotIn a with
    | none => none
    | some l => if 4 < l.length ∨ ((Txt.split b " | ").map lotIn).any Option.isNone = true then none else some (l, ((Txt.split b " | ").map lotIn).map fun o => o.getD [])
  | _ => none
theorem starts_neg (z : Str) : Txt.startswith z "-" = isNeg z := by
  obtain ⟨⟨l⟩⟩ := z
  have hl : ("-" : Str) = ⟨#[45]⟩ := by decide +kernel
  rw [hl]
  unfold Txt.startswith isNeg sg Builtin.Str.subAt
  cases l with
  | nil => rfl
  | cons c r =>
    by_cases h : c = 45
    · subst h
      simp [Str.length]
    · have e : (match c :: r with | 45 :: _ => true | _ => false) = false := by
        split
        · rename_i h2
          cases h2
          exact absurd rfl h
        · rfl
      simp only [e]
      simp [Str.length, h]
theorem cut_tail (z : Str) : sg (cutS z (some 1) none) = (sg z).tail := by
  have e1 : HT.sIx z.length z.length none = z.length := rfl
  have e2 := HT.sIx_nat z.length 0 1
  show ((sg z).drop (HT.sIx z.length 0 (some 1))).take (HT.sIx z.length z.length none - HT.sIx z.length 0 (some 1)) = _
  rw [e1, show ((1 : Int)) = ((1 : Nat) : Int) from rfl, e2]
  have hl : z.length = (sg z).length := by simp [Str.length, sg]
  rw [hl]
  cases e : sg z with
  | nil => rfl
  | cons a b => simp
theorem atI0t {α : Type} {l : List α} {v : α} (h : l[0]? = some v) : atI l 0 = some v := atI_nat (j := 0) h
theorem len_sg (z : Str) : z.length = (sg z).length := by simp [Str.length, sg]
theorem numIn_some {w : Str} {lo hi n : Int} (e : intIn w = some n) (h : lo ≤ n ∧ n ≤ hi) : numIn w lo hi = some n := by
  unfold numIn; rw [e]; exact if_pos h
theorem numIn_out {w : Str} {lo hi n : Int} (e : intIn w = some n) (h : ¬ (lo ≤ n ∧ n ≤ hi)) : numIn w lo hi = none := by
  unfold numIn; rw [e]; exact if_neg h
theorem numIn_none {w : Str} {lo hi : Int} (e : intIn w = none) : numIn w lo hi = none := by
  unfold numIn; rw [e]

theorem numIn_range {w : Str} {lo hi n : Int} (h : numIn w lo hi = some n) : lo ≤ n ∧ n ≤ hi := by
  unfold numIn at h
  split at h
  · split at h
    · rename_i c
      cases h
      exact c
    · cases h
  · cases h
/-! ### what was told is read back -/
structure LotOk (l : List Int) : Prop where
  ne : l ≠ []
  up : l.Pairwise (· < ·)
  rng : ∀ x ∈ l, 0 ≤ x ∧ x ≤ 99
  few : l.length ≤ 100
structure LnOk (ln : TLn) : Prop where
  left : LotOk ln.1
  four : ln.1.length ≤ 4
  some : ln.2 ≠ []
  ends : ∀ e ∈ ln.2, LotOk e
  few : ln.2.length ≤ 30
theorem n99 {f : Int → Bool} (h : (List.range 100).all (fun k => f (k : Int)) = true) {i : Int} (h0 : 0 ≤ i) (h1 : i ≤ 99) : f i = true := by
  have := List.all_eq_true.mp h i.toNat (List.mem_range.mpr (by omega))
  rwa [show ((i.toNat : Nat) : Int) = i by omega] at this
def figs (i : Int) : Bool := decide ((toString i : Str).length ≤ 2) && ((sg (toString i : Str)).all fun c => decide (48 ≤ c ∧ c ≤ 57)) && decide (numIn (toString i) 0 99 = some i)
theorem figs_ok {i : Int} (h0 : 0 ≤ i) (h1 : i ≤ 99) : (toString i : Str).length ≤ 2 ∧ (∀ c ∈ sg (toString i : Str), 48 ≤ c ∧ c ≤ 57) ∧ numIn (toString i) 0 99 = some i := by
  have := n99 (f := figs) (by decide +kernel) h0 h1
  unfold figs at this
  simp only [Bool.and_eq_true, decide_eq_true_eq, List.all_eq_true] at this
  exact ⟨this.1.1, this.1.2, this.2⟩
theorem joinL_all {S : List Nat} {f : Nat → Prop} (hS : ∀ c ∈ S, f c) : ∀ {ls : List (List Nat)}, (∀ l ∈ ls, ∀ c ∈ l, f c) → ∀ c ∈ TL.joinL S ls, f c
  | [], _, c, h => nomatch h
  | [p], h, c, hc => h p (by simp) c hc
  | p :: q :: r, h, c, hc => by
    rcases List.mem_append.mp (show c ∈ p ++ (S ++ TL.joinL S (q :: r)) from hc) with m | m
    · exact h p (by simp) c m
    · rcases List.mem_append.mp m with m | m
      · exact hS c m
      · exact joinL_all hS (fun l hl => h l (by simp at hl ⊢; exact .inr hl)) c m
theorem join_signs {y : Str} {S : List Nat} (ey : TL.tl y = S) {parts : List Str} {f : Nat → Prop} (hS : ∀ c ∈ S, f c) (h : ∀ p ∈ parts, ∀ c ∈ sg p, f c) : ∀ c ∈ sg (Txt.join y parts), f c := by
  intro c hc
  have hc' : c ∈ TL.tl (Txt.join y parts) := hc
  rw [TL.join_eq, TL.tl_join, ey] at hc'
  refine joinL_all hS ?_ c hc'
  intro l hl c hc
  obtain ⟨p, hp, rfl⟩ := List.mem_map.mp hl
  exact h p hp c hc
theorem lit_signs {l : List Int} (h : ∀ x ∈ l, 0 ≤ x ∧ x ≤ 99) : ∀ c ∈ sg (litL l), c = 32 ∨ (48 ≤ c ∧ c ≤ 57) := by
  refine join_signs (S := [32]) (by decide +kernel) (fun c hc => .inl (List.mem_singleton.mp hc)) fun p hp c hc => ?_
  obtain ⟨i, hi, rfl⟩ := List.mem_map.mp hp
  exact .inr ((figs_ok (h i hi).1 (h i hi).2).2.1 c hc)
theorem lot_back {l : List Int} (h : LotOk l) : lotIn (litL l) = some l := by
  have e : Txt.split (litL l) " " = l.map fun i => (toString i : Str) := by
    refine TL.split_join (s := 32) (S := []) (by decide +kernel) (by decide +kernel) (by simpa using h.ne) fun p hp hm => ?_
    obtain ⟨i, hi, rfl⟩ := List.mem_map.mp hp
    have := (figs_ok (h.rng i hi).1 (h.rng i hi).2).2.1 32 hm
    omega
  have e2 : (l.map fun i => (toString i : Str)).map (fun w => numIn w 0 99) = l.map some := by
    rw [List.map_map]
    exact List.map_congr_left fun i hi => (figs_ok (h.rng i hi).1 (h.rng i hi).2).2.2
  have e3 : (l.map some).map (fun o : Option Int => o.getD 0) = l := by rw [List.map_map]; exact List.map_id _
  unfold lotIn
  simp only [e, e2, e3]
  rw [if_pos ⟨by simp, adjLt_iff.mpr h.up⟩]
theorem str_app (a b : Str) : sg (a ++ b) = sg a ++ sg b := TL.tl_append a b
theorem ends_signs {es : List (List Int)} (h : ∀ e ∈ es, LotOk e) : ∀ c ∈ sg (Txt.join " | " (es.map litL)), c = 32 ∨ c = 124 ∨ (48 ≤ c ∧ c ≤ 57) := by
  refine join_signs (S := [32, 124, 32]) (by decide +kernel) (fun c hc => ?_) fun p hp c hc => ?_
  · simp only [List.mem_cons, List.not_mem_nil, or_false] at hc
    rcases hc with rfl | rfl | rfl <;> simp
  · obtain ⟨l, hl, rfl⟩ := List.mem_map.mp hp
    rcases lit_signs (h l hl).rng c hc with e | e
    · exact .inl e
    · exact .inr (.inr e)
theorem line_join (ln : TLn) : lineT ln = Txt.join " : " [litL ln.1, Txt.join " | " (ln.2.map litL)] := by
  rw [TL.join_eq]; rfl
theorem line_signs {ln : TLn} (h : LnOk ln) : ∀ c ∈ sg (lineT ln), c = 32 ∨ c = 58 ∨ c = 124 ∨ (48 ≤ c ∧ c ≤ 57) := by
  rw [line_join]
  refine join_signs (S := [32, 58, 32]) (by decide +kernel) (fun c hc => ?_) fun p hp c hc => ?_
  · simp only [List.mem_cons, List.not_mem_nil, or_false] at hc
    rcases hc with rfl | rfl | rfl <;> simp
  · simp only [List.mem_cons, List.not_mem_nil, or_false] at hp
    rcases hp with rfl | rfl
    · rcases lit_signs h.left.rng c hc with e | e
      · exact .inl e
      · exact .inr (.inr (.inr e))
    · rcases ends_signs h.ends c hc with e | e | e
      · exact .inl e
      · exact .inr (.inr (.inl e))
      · exact .inr (.inr (.inr e))
theorem line_back {ln : TLn} (h : LnOk ln) : lineIn (lineT ln) = some ln := by
  have e1 : Txt.split (lineT ln) " : " = [litL ln.1, Txt.join " | " (ln.2.map litL)] := by
    rw [line_join]
    refine TL.split_join_mid (s := 32) (m := 58) (S := [32]) (by decide +kernel) (by decide) (by decide +kernel) (by simp) fun p hp hm => ?_
    simp only [List.mem_cons, List.not_mem_nil, or_false] at hp
    rcases hp with rfl | rfl
    · have := lit_signs h.left.rng 58 hm
      omega
    · have := ends_signs h.ends 58 hm
      omega
  have e2 : Txt.split (Txt.join " | " (ln.2.map litL)) " | " = ln.2.map litL := by
    refine TL.split_join_mid (s := 32) (m := 124) (S := [32]) (by decide +kernel) (by decide) (by decide +kernel) (by simpa using h.some) fun p hp hm => ?_
    obtain ⟨l, hl, rfl⟩ := List.mem_map.mp hp
    have := lit_signs (h.ends l hl).rng 124 hm
    omega
  have e3 : (ln.2.map litL).map lotIn = ln.2.map some := by
    rw [List.map_map]
    exact List.map_congr_left fun l hl => lot_back (h.ends l hl)
  unfold lineIn
  rw [e1]
  simp only [lot_back h.left, e2, e3]
  have hf := h.four
  rw [if_neg (by simp; omega), List.map_map]
  show some (ln.1, ln.2.map id) = _
  rw [List.map_id]
theorem task_back {ls : List TLn} (hne : ls ≠ []) (h : ∀ ln ∈ ls, LnOk ln) : Txt.split (taskT ls) "\n" = ls.map lineT := by
  refine TL.split_join (s := 10) (S := []) (by decide +kernel) (by decide +kernel) (by simpa using hne) fun p hp hm => ?_
  obtain ⟨ln, hl, rfl⟩ := List.mem_map.mp hp
  have := line_signs (h ln hl) 10 hm
  omega

/-! ### in the heap -/
def LtV (H : Hp) (v : V) (l : List Int) : Prop := ∃ c, v = .ref c ∧ H c = some (.tup (l.map V.int))
def EndsV (H : Hp) (v : V) (es : List (List Int)) : Prop := ∃ t ys, v = .ref t ∧ H t = some (.tup ys) ∧ Paired (LtV H) ys es
def LnV (H : Hp) (v : V) (ln : TLn) : Prop := ∃ t a b, v = .ref t ∧ H t = some (.tup [a, b]) ∧ LtV H a ln.1 ∧ EndsV H b ln.2
theorem LtV.tk {H H' : Hp} (g : TK H H') {v : V} {l : List Int} : LtV H v l → LtV H' v l := fun ⟨c, e, h⟩ => ⟨c, e, g.t h⟩
theorem EndsV.tk {H H' : Hp} (g : TK H H') {v : V} {es : List (List Int)} : EndsV H v es → EndsV H' v es := fun ⟨t, ys, e, h, p⟩ => ⟨t, ys, e, g.t h, pr_imp (fun _ _ h => LtV.tk g h) p⟩
theorem LnV.tk {H H' : Hp} (g : TK H H') {v : V} {ln : TLn} : LnV H v ln → LnV H' v ln := fun ⟨t, a, b, e, h, i, j⟩ => ⟨t, a, b, e, g.t h, i.tk g, j.tk g⟩
theorem tk_lst {H : Hp} {p : Addr} {xs : List V} {u : HO} (h : H p = some (.lst xs)) : TK H (upd H p u) := TK.put h (fun z => z.elim)
theorem stab_lt : Stab LtV := ⟨fun g h => h.tk (.of g), fun e h => h.tk (tk_lst e)⟩
theorem stab_ends : Stab EndsV := ⟨fun g h => h.tk (.of g), fun e h => h.tk (tk_lst e)⟩
theorem stab_ln : Stab LnV := ⟨fun g h => h.tk (.of g), fun e h => h.tk (tk_lst e)⟩
theorem LtV.inj {H : Hp} {v : V} {l m : List Int} (h : LtV H v l) (g : LtV H v m) : l = m := by
  obtain ⟨c, rfl, h⟩ := h
  obtain ⟨d, e, g⟩ := g
  cases e
  rw [h] at g
  injection g with g
  injection g with g
  have := congrArg (List.map fun v : V => match v with
    | .int i => i
    | _ => 0) g
  rw [List.map_map, List.map_map] at this
  have e : ∀ l : List Int, l.map ((fun v : V => match v with
    | .int i => i
    | _ => 0) ∘ V.int) = l := fun l => List.map_id l
  rwa [e, e] at this
def LotRes (H : Hp) (v : V) : Option (List Int) → Prop
  | none => v = .non
  | some l => LtV H v l
theorem LotRes.tk {H H' : Hp} (g : TK H H') {v : V} : ∀ {o : Option (List Int)}, LotRes H v o → LotRes H' v o
  | none, h => h
  | some _, h => LtV.tk g h
def LnRes (H : Hp) (v : V) : Option TLn → Prop
  | none => v = .non
  | some ln => LnV H v ln
theorem LnRes.tk {H H' : Hp} (g : TK H H') {v : V} : ∀ {o : Option TLn}, LnRes H v o → LnRes H' v o
  | none, h => h
  | some _, h => LnV.tk g h
theorem stab_lotres : Stab LotRes := ⟨fun g h => h.tk (.of g), fun e h => h.tk (tk_lst e)⟩
def lotP (l : List Int) : PyData := .tuple (l.map PyData.int)
theorem lt_dp {K : PySem.W.Frag} {H : Hp} {v : V} {l : List Int} (h : LtV H v l) : Dp K H v (lotP l) := by
  obtain ⟨c, rfl, h⟩ := h
  refine .tup (.of h) ?_
  clear h
  induction l with
  | nil => exact .nil
  | cons a l ih => exact .cons (.int a) ih
theorem lotP_eq (l : List Int) : toP 1 (lotD l) = lotP l := by
  show PyData.tuple ((l.map Dt.int).map (toP 0)) = _
  rw [List.map_map]; rfl
theorem lotP_eqv (l m : List Int) : PyData.eqv (lotP l) (lotP m) = decide (l = m) := by
  have h : ∀ l : List Int, pl 1 (lotD l) = true := fun l => pl_tup.mpr fun e he => by obtain ⟨i, _, rfl⟩ := List.mem_map.mp he; rfl
  rw [← lotP_eq, ← lotP_eq, Bool.eq_iff_iff, eqv_iff (h _) (h _), decide_eq_true_iff]
  exact ⟨lotD_inj, fun z => by rw [z]⟩
theorem lotP_shaped (l : List Int) : SeqAt.shaped (lotP l) = true := by rw [← lotP_eq]; exact toP_shaped (by decide)
theorem mem_full {n : Nat} {x : Int} : x ∈ fullL n ↔ 0 ≤ x ∧ x < n := by
  unfold fullL
  rw [List.mem_map]
  constructor
  · rintro ⟨i, hi, rfl⟩
    have := List.mem_range.mp hi
    omega
  · rintro ⟨a, b⟩
    exact ⟨x.toNat, List.mem_range.mpr (by omega), by omega⟩
/-- the lot of these words, all below 100 -/
def lotM (ws : List Int) : List Int := (fullL 100).filter fun x => decide (x ∈ ws)
theorem lotM_up (ws : List Int) : (lotM ws).Pairwise (· < ·) := (fullL_up 100).filter _
theorem lotM_mem {ws : List Int} (r : ∀ x ∈ ws, 0 ≤ x ∧ x < 100) {x : Int} : x ∈ lotM ws ↔ x ∈ ws := by
  unfold lotM
  rw [List.mem_filter, mem_full, decide_eq_true_iff]
  exact ⟨fun h => h.2, fun h => ⟨r x h, h⟩⟩
theorem lotM_of {zs ws : List Int} (h : zs.Pairwise (· < ·)) (m : ∀ x, x ∈ zs ↔ x ∈ ws) (r : ∀ x ∈ ws, 0 ≤ x ∧ x < 100) : zs = lotM ws :=
  srt_eq h (lotM_up ws) fun x => (m x).trans (lotM_mem r).symm
end Fp
namespace Fp
open PySem PySem.Spec PyProof.Rows L2
/-- set(xs) of a list of integers, all of them among D -/
def rSetIW (K : PySem.W.Frag) (w : World) : List V → Hp → VK → Prop := fun xs H Q => ∃ (l : Addr) (ns D : List Int), xs = [.ref l] ∧ SqL K H l (ns.map V.int) ∧ ns.length ≤ 1000 ∧ (∀ x ∈ ns, x ∈ D) ∧ ∀ a c, c ≤ D.length → H a = none → Q (.ref a) (upd H a (SetO w a (fun j => decide (j ∈ ns)) c))
section
variable {X : Cx}
theorem cr_setIW (hc : X.calm = true) : CallR X (.type "set") (rSetIW X.K X.w) := by
  intro pins s σ H xs us Q I r h
  obtain ⟨l, ns, D, rfl, hs, hl, hD, q⟩ := h
  rw [Vals.ref1 r]
  obtain ⟨its, rv, pl, hz⟩ := I.list hs
  refine call_set_ints (ns := ns) (I.ok.hd hc) pl.isList (by simpa using ints_vals rv) (by unfold scanBound; omega) fun h' tk c hS hcl hk => ?_
  refine ⟨.ref s.heap.objs.size, _, I.laid (t' := tk) (fun b u e => hk b u (Heap.lt_size e) e) (Nat.le_refl _) (setO_new hS), rfl, q _ c ?_ (I.hok.fresh (Nat.le_refl _))⟩
  obtain ⟨o, es, ep, tb, _, _, _, _, hnd, hm, _, _, hsz, _⟩ := hS
  have := nodup_le (m := D) hnd fun x hx => hD x (of_decide_eq_true ((hm x).mpr hx))
  rw [List.length_map] at this
  rw [← hsz]
  simpa using this
end
def spIntIn : Sp := fun vs H Q _ => ∃ w : Str, vs = [.str w] ∧ w.length ≤ 640 ∧ ∀ H', Same H H' → Q (optI (intIn w)) H'
def spNumIn : Sp := fun vs H Q _ => ∃ (w : Str) (lo hi : Int), vs = [.str w, .int lo, .int hi] ∧ w.length ≤ 640 ∧ ∀ H', Same H H' → Q (optI (numIn w lo hi)) H'
def spLotOfW (K : PySem.W.Frag) : Sp := fun vs H Q _ => ∃ (a : Addr) (ns D : List Int), vs = [.ref a] ∧ SqL K H a (ns.map V.int) ∧ ns.length ≤ 1000 ∧ (∀ x ∈ ns, x ∈ D) ∧ D.length < 60 ∧ ∀ v H' zs, Same H H' → zs.Pairwise (· < ·) → (∀ x : Int, x ∈ zs ↔ x ∈ ns) → LtV H' v zs → Q v H'
/-- the words of a text, few and short -/
structure WsOk (z : Str) : Prop where
  len : z.length ≤ 100000
  few : (Txt.split z " ").length ≤ 1000
  short : ∀ w ∈ Txt.split z " ", w.length ≤ 640
def spLotTxt : Sp := fun vs H Q _ => ∃ z : Str, vs = [.str z] ∧ WsOk z ∧ ∀ v H', Same H H' → LotRes H' v (lotIn z) → Q v H'
def onD : Option Int → Dt
  | none => .non
  | some i => .int i
theorem ons_dv {H : Hp} : ∀ {acc : List V} {os : List (Option Int)}, Paired (fun v o => v = optI o) acc os → DVs H acc (os.map onD)
  | _, _, .nil => .nil
  | _, _, .cons (b := o) e t => by
    subst e
    refine .cons ?_ (ons_dv t)
    cases o with
    | none => exact .non
    | some i => exact .int i
theorem ons_int {acc : List V} {os : List (Option Int)} (h : Paired (fun v o => v = optI o) acc os) (hs : os.all Option.isSome = true) : acc = (os.map fun o => o.getD 0).map V.int := by
  induction h with
  | nil => rfl
  | @cons v o _ _ e _ ih =>
    rw [List.all_cons, Bool.and_eq_true] at hs
    subst e
    cases o with
    | none => cases hs.1
    | some i => rw [ih hs.2]; rfl
theorem onD_lot {os : List (Option Int)} (h : ∀ o ∈ os, ∀ i, o = some i → 0 ≤ i) : lotB (.tup (os.map onD)) = (os.all Option.isSome && adjLt (os.map fun o => o.getD 0)) := by
  have e1 : (os.map onD).all Dt.wnn = os.all Option.isSome := by
    rw [List.all_map, Bool.eq_iff_iff, List.all_eq_true, List.all_eq_true]
    refine ⟨fun a o ho => ?_, fun a o ho => ?_⟩
    · have := a o ho
      cases o with
      | none => exact this
      | some i => rfl
    · have := a o ho
      cases o with
      | none => cases this
      | some i =>
        have h0 := h _ ho i rfl
        show Dt.wnn (.int i) = true
        unfold Dt.wnn
        exact decide_eq_true h0
  have e2 : (os.map onD).map Dt.toInt = os.map fun o => o.getD 0 := by
    rw [List.map_map]
    exact List.map_congr_left fun o _ => by cases o <;> rfl
  show ((os.map onD).all Dt.wnn && adjLt ((os.map onD).map Dt.toInt)) = _
  rw [e1, e2]
section
variable {P : Program} {w : World} {K : PySem.W.Frag} {mg : Str → Option Value} {base : Heap} {f : Addr} {fd : FuncData} {C : Addr}
abbrev s_integer_in : Stmt := top 10
theorem sc_integer_in : FnScope ["word", "figures", "sign"] ["word"] (defScope s_integer_in) := ⟨rfl, rfl, rfl, by decide +kernel, rfl, by decide +kernel, by decide +kernel⟩
theorem ok_integer_in (F : Fun K "integer_in" "integer_in" s_integer_in f fd) (T : RTx mg) : FnOk P w K mg base CX0 1 f fd ["word"] spIntIn := by
  refine F.ok sc_integer_in (fun vs H Q E h => ?_) (fun cdv A outer s H vs Q E hr h => ?_)
  · obtain ⟨z, rfl, _⟩ := h
    rfl
  obtain ⟨z, rfl, hz, k⟩ := h
  have hzl : z.length ≤ sizeLine := Nat.le_trans hz (by decide)
  refine ⟨_, (pss_cons (ps_set (i := 1) sc_integer_in.nd rfl (Or.inl rfl) (pe_mid (pe_ifExp (pt_val (pe_m1 PySem.F.slot_str_startswith PySem.F.type_str_startswith mt_startswith (pv 0) pe_str)) (pe_slice sl_str (pv 0) (po_some pe_int) po_none) (pv 0))))
  (pss_cons (ps_if (pt_mid (PW.pt (pw_or (pt_not (pt_truth (pv 1) (by intro _; rfl))) (pw_or1 (pt_cmpR op_gt (pe_callB call_len rfl T.len (by decide +kernel) (pa_cons (pv 1) pa_nil)) (pe_cI T.c_MOST_FIGURES) (nomark _)))))) (pss_one (ps_ret pe_non)) pss_nil)
  (pss_cons (ps_if (pt_not (pt_val (pe_callB (cr_all rfl) rfl T.all (by decide +kernel) (pa_cons (pe_lc (own := [("sign", 2)]) (g := (gName 2)) (tt := tYes) rfl sc_integer_in.nd (pi_str (pv 1)) (blkOk_by (own := [("sign", 2)]) (N := ["word", "figures", "sign"]) (sc := defScope s_integer_in) (by decide +kernel)) (fun _ _ _ _ _ => (pg_name (i := 2) sc_integer_in.nd rfl (Or.inl rfl))) (fun _ _ _ _ _ => pts_nil) (fun _ _ _ _ _ => (pe_cmpR op_in_sign (pv 2) (pe_cS T.c_FIGURES) rfl))) pa_nil)))) (pss_one (ps_ret pe_non)) pss_nil)
  (pss_cons (ps_if (PW.pt (pw_and (pt_cmpR op_eq (pe_ix ix_str (pv 1) pe_int (fun _ _ => rfl)) pe_str (nomark _)) (pw_and1 (pt_cmpR op_ne (pv 0) pe_str (nomark _))))) (pss_one (ps_ret pe_non)) pss_nil)
  (pss_one (ps_ret (pe_callTy call_int_str rfl T.int (by decide +kernel) (pa_cons (pv 0) pa_nil)))))))), ?_⟩
  refine ⟨fun v H' => H' = H ∧ ∃ y : Str, v = .str y ∧ sg y = figsL z, ?_, ?_⟩
  · refine ⟨_, rfl, ⟨_, rfl⟩, z, "-", rfl, rfl, _, rfl, ?_⟩
    rw [starts_neg]
    refine ite2 (fun c => ⟨_, rfl, 1, rfl, z, rfl, hzl, rfl, _, rfl, ?_⟩) (fun c => ⟨_, rfl, rfl, z, rfl, ?_⟩)
    · rw [cut_tail]; unfold figsL; rw [if_pos c]
    · unfold figsL; rw [if_neg c]
  · rintro v H1 ⟨rfl, y, rfl, hy⟩
    have hyl : y.length ≤ 640 := by
      have e1 : y.length = (figsL z).length := by rw [← hy]; simp [Str.length, sg]
      have e2 : (figsL z).length ≤ z.length := by unfold figsL; split <;> simp [Str.length, sg]
      omega
    have hyl' : y.length ≤ sizeLine := Nat.le_trans hyl (by decide)
    have ey : y.length = (figsL z).length := by rw [← hy]; simp [Str.length, sg]
    have k1 := k
    unfold intIn at k1
    refine ⟨fun b H' => H' = H1 ∧ b = decide (figsL z = [] ∨ 4000 < (figsL z).length), ?_, ?_⟩
    · refine ⟨_, rfl, _, ⟨hyl', rfl⟩, ?_⟩
      refine ite2 (fun c => ⟨rfl, ?_⟩) (fun c => ?_)
      · refine (decide_eq_true (Or.inl ?_)).symm
        have : y.length = 0 := by
          have c' : ((y.length : Int) != 0) = false := by simpa using c
          have := bne_eq_false_iff_eq.mp c'
          omega
        exact List.length_eq_zero_iff.mp (by omega)
      · refine ⟨_, rfl, _, _, rfl, ⟨hyl', rfl⟩, _, _, rfl, rfl, _, rfl, rfl, ?_⟩
        have hne : figsL z ≠ [] := fun e => by
          rw [e] at ey
          simp at ey
          exact c (by rw [ey]; rfl)
        exact decide_eq_decide.mpr ⟨fun q => .inr (by omega), fun q => q.elim (fun e => absurd e hne) (fun q => by omega)⟩
    · rintro b H2 ⟨rfl, rfl⟩
      by_cases h1 : figsL z = [] ∨ 4000 < (figsL z).length
      · rw [decide_eq_true h1]
        refine iteT ?_
        have k2 := k1 H2 (Same.refl _)
        rw [if_pos h1] at k2
        exact k2
      · rw [decide_eq_false h1]
        refine iteF ?_
        refine ⟨_, rfl, y, rfl, fun D hD => lc_txt (f := fun c => V.bl (isFig c)) hD (by omega) (fun c H' R hc g hR => ⟨rfl, _, rfl, c, FIG, rfl, rfl, hR⟩) (fun H' g hL => ⟨D, (sg y).map isFig, rfl, .of ?_, _, rfl, ?_⟩)⟩
        · rw [hL, List.map_map]
          rfl
        · have ea : ((sg y).map isFig).all id = (figsL z).all isFig := by rw [List.all_map, hy]; rfl
          rw [ea]
          cases h2 : (figsL z).all isFig with
          | false =>
            refine iteT ?_
            have k2 := k1 H' g
            rw [if_neg h1, if_pos h2] at k2
            exact k2
          | true =>
            refine iteF ?_
            have k2 := k1 H' g
            rw [if_neg h1, if_neg (by rw [h2]; decide)] at k2
            obtain ⟨c0, r, hc0⟩ : ∃ c0 r, figsL z = c0 :: r := by
              cases e : figsL z with
              | nil => exact absurd (.inl e) h1
              | cons a b => exact ⟨a, b, rfl⟩
            refine ⟨_, rfl, y, 0, c0, rfl, rfl, hyl', atI0t (by show (sg y)[0]? = _; rw [hy, hc0]; rfl), rfl, _, rfl, ?_⟩
            have e0 : ∀ c : Nat, (V.str ⟨#[c]⟩ = V.str "0") ↔ c = 48 := fun c => by
              have hl : ("0" : Str) = ⟨#[48]⟩ := by decide +kernel
              rw [hl]
              simp
            have e1 : (V.str z = V.str "0") ↔ sg z = [48] := by
              have hl : ("0" : Str) = ⟨#[48]⟩ := by decide +kernel
              rw [hl]
              constructor
              · intro q; injection q with q; rw [q]
              · intro q; rw [str_ext (b := ⟨#[48]⟩) q]
            have fin : (¬ ((figsL z).head? = some 48 ∧ sg z ≠ [48])) → ∃ n, PySem.intText? z = some n ∧ Q (.int n) H' := fun hn => by
              rw [if_neg hn] at k2
              refine ⟨_, intIn_text (w := z) ?_ hz, k2⟩
              unfold intIn
              rw [if_neg h1, if_neg (by rw [h2]; decide), if_neg hn]
            refine ite2 (fun c => ?_) (fun c => ?_)
            · have c' := (e0 c0).mp (of_decide_eq_true c)
              refine ⟨_, rfl, rfl, _, rfl, ?_⟩
              refine ite2 (fun d => ?_) (fun d => ?_)
              · have d' : ¬ V.str z = V.str "0" := by simpa using d
                rw [if_pos ⟨by rw [hc0, c']; rfl, fun q => d' (e1.mpr q)⟩] at k2
                exact k2
              · have d' : V.str z = V.str "0" := by simpa using d
                obtain ⟨n, hn, hQ⟩ := fin fun q => q.2 (e1.mp d')
                exact ⟨_, rfl, z, n, rfl, hn, hz, hQ⟩
            · have c' : ¬ c0 = 48 := fun q => c (decide_eq_true ((e0 c0).mpr q))
              refine iteF ?_
              obtain ⟨n, hn, hQ⟩ := fin fun q => by
                have := q.1
                rw [hc0] at this
                exact c' (by simpa using this)
              exact ⟨_, rfl, z, n, rfl, hn, hz, hQ⟩
abbrev s_number_in : Stmt := top 11
theorem sc_number_in : FnScope ["word", "least", "most", "number"] ["word", "least", "most"] (defScope s_number_in) := ⟨rfl, rfl, rfl, by decide +kernel, rfl, by decide +kernel, by decide +kernel⟩
theorem ok_number_in (F : Fun K "number_in" "number_in" s_number_in f fd) (G_integer_in : Fd P w K mg base CX0 "integer_in" 1 ["word"] spIntIn) : FnOk P w K mg base CX0 2 f fd ["word", "least", "most"] spNumIn := by
  refine F.ok sc_number_in (fun vs H Q E h => ?_) (fun cdv A outer s H vs Q E hr h => ?_)
  · obtain ⟨z, lo, hi, rfl, _⟩ := h
    rfl
  obtain ⟨z, lo, hi, rfl, hz, k⟩ := h
  refine ⟨_, (pss_cons (ps_set (i := 3) sc_number_in.nd rfl (Or.inl rfl) (pe_fd G_integer_in (hr.mono (by first | decide | omega)) rfl (pa_cons (pv 0) pa_nil)))
  (pss_one (ps_ret (pe_ifExp (PW.pt (pw_and (pt_cmpR op_notN (pv 3) pe_non (nomark _)) (pw_and1 (pt_chain op_le op_le (pv 1) (pv 3) (pv 2))))) (pv 3) pe_non)))), ?_⟩
  refine ⟨_, rfl, z, rfl, hz, fun H1 g1 => ?_⟩
  have k1 := k H1 g1
  cases e : intIn z with
  | none =>
    rw [numIn_none e] at k1
    exact ⟨_, rfl, rfl, _, rfl, k1⟩
  | some n =>
    refine ⟨_, rfl, rfl, _, rfl, ?_⟩
    refine ⟨_, rfl, _, rfl, _, _, rfl, rfl, _, rfl, ?_⟩
    refine ite2 (fun c => ⟨_, rfl, _, _, rfl, rfl, _, rfl, ?_⟩) (fun c => ⟨_, rfl, iteF ?_⟩)
    · refine ite2 (fun d => ⟨_, rfl, ?_⟩) (fun d => ?_)
      · rw [numIn_some e ⟨of_decide_eq_true c, of_decide_eq_true d⟩] at k1
        exact k1
      · rw [numIn_out e fun q => d (decide_eq_true q.2)] at k1
        exact k1
    · rw [numIn_out e fun q => c (decide_eq_true q.1)] at k1
      exact k1
theorem ok_lot_ofW (F : Fun K "lot_of" "lot_of" s_lot_of f fd) (T : RTx mg) : FnOk P w K mg base CX0 1 f fd ["words"] (spLotOfW K) := by
  refine F.ok sc_lot_of (fun vs H Q E h => ?_) (fun cdv A outer s H vs Q E hr h => ?_)
  · obtain ⟨a, ns, D, rfl, _⟩ := h
    rfl
  obtain ⟨a, ns, D, rfl, ha, hl, hD, hd, k⟩ := h
  refine ⟨_, (pss_one (ps_ret (pe_callTy call_tuple_of rfl T.tuple (by decide +kernel) (pa_cons (pe_callB (cr_sortedSet rfl) rfl T.sorted (by decide +kernel) (pa_cons (pe_callTy (cr_setIW rfl) rfl T.set (by decide +kernel) (pa_cons (pv 0) pa_nil)) pa_nil)) pa_nil)))), ?_⟩
  refine ⟨_, rfl, a, ns, D, rfl, ha, hl, hD, fun s1 c hc n1 => ?_⟩
  have g1 := same_new n1 (SetO w s1 (fun j => decide (j ∈ ns)) c)
  refine ⟨s1, _, c, rfl, upd_same, by omega, fun zs p hz hm hzl np => ?_⟩
  have g2 := same_new np (.lst (zs.map V.int))
  refine ⟨p, _, rfl, .inl ⟨.of upd_same, fun l nl => ?_⟩⟩
  have g3 := same_new nl (.tup (zs.map V.int))
  exact k (.ref l) _ zs ((g1.trans g2).trans g3) hz (fun x => (hm x).trans decide_eq_true_iff) ⟨l, rfl, upd_same⟩
abbrev s_lot_text_in : Stmt := top 24
theorem sc_lot_text_in : FnScope ["text", "words", "word"] ["text"] (defScope s_lot_text_in) := ⟨rfl, rfl, rfl, by decide +kernel, rfl, by decide +kernel, by decide +kernel⟩
theorem ok_lot_text_in (F : Fun K "lot_text_in" "lot_text_in" s_lot_text_in f fd) (T : RTx mg) (G_number_in : Fd P w K mg base CX0 "number_in" 2 ["word", "least", "most"] spNumIn) (G_is_lot : Fd P w K mg base CX0 "is_lot" 2 ["value"] spLotD) : FnOk P w K mg base CX0 3 f fd ["text"] spLotTxt := by
  refine F.ok sc_lot_text_in (fun vs H Q E h => ?_) (fun cdv A outer s H vs Q E hr h => ?_)
  · obtain ⟨z, rfl, _⟩ := h
    rfl
  obtain ⟨z, rfl, hz, k⟩ := h
  refine ⟨_, (pss_cons (ps_set (i := 1) sc_lot_text_in.nd rfl (Or.inl rfl) (pe_callTy call_tuple_of rfl T.tuple (by decide +kernel) (pa_cons (pe_lc (own := [("word", 2)]) (g := (gName 2)) (tt := tYes) rfl sc_lot_text_in.nd (pi_list (pe_split (pv 0) pe_str)) (blkOk_by (own := [("word", 2)]) (N := ["text", "words", "word"]) (sc := defScope s_lot_text_in) (by decide +kernel)) (fun _ _ _ _ _ => (pg_name (i := 2) sc_lot_text_in.nd rfl (Or.inl rfl))) (fun _ _ _ _ _ => pts_nil) (fun _ _ _ _ _ => (pe_fd G_number_in (hr.mono (by first | decide | omega)) rfl (pa_cons (pv 2) (pa_cons pe_int (pa_cons pe_int pa_nil)))))) pa_nil)))
  (pss_one (ps_ret (pe_ifExp (pt_val (pe_fd G_is_lot (hr.mono (by first | decide | omega)) rfl (pa_cons (pv 1) pa_nil))) (pv 1) pe_non)))), ?_⟩
  refine seq_in ?_
  refine asg_in ?_
  refine ⟨_, rfl, ⟨_, rfl⟩, z, " ", rfl, rfl, by decide +kernel, szl (by have := hz.len; omega), fun l nl => ⟨l, rfl, ⟨_, .of upd_same⟩, fun D hD => ?_⟩⟩
  have s1 := same_new nl (.lst ((Txt.split z " ").map V.str))
  have hl1 : upd H l (.lst ((Txt.split z " ").map V.str)) l = some (.lst ((Txt.split z " ").map V.str)) := upd_same
  generalize upd H l (.lst ((Txt.split z " ").map V.str)) = H1 at s1 hl1 hD ⊢
  have few := hz.few
  refine lc_coll (R := fun _ v (o : Option Int) => v = optI o) (walk_list (xs := (Txt.split z " ").map V.str)) (fun i => [numIn ((Txt.split z " ").getD i "") 0 99]) hD (fun H' g => .of (g _ _ hl1)) ?_ ?_
  · rintro i x H2 H3 hi c ⟨rfl, hx⟩ M hM
    rw [List.length_map] at hi
    rw [List.getElem?_map, List.getElem?_eq_getElem hi] at hx
    cases hx
    refine ⟨rfl, yes_in ?_⟩
    refine ⟨_, rfl, _, 0, 99, rfl, hz.short _ (List.getElem_mem hi), fun H4 g4 => ?_⟩
    refine coll_app ⟨fun _ h => h, fun _ h => h⟩ hD c g4 (a := numIn ((Txt.split z " ").getD i "") 0 99) ?_ ?_ hM
    · rw [List.getD_eq_getElem?_getD, List.getElem?_eq_getElem hi]; rfl
    · rw [fm_one, List.length_map, List.length_range]; omega
  rintro H2 ⟨g2, acc, hacc, hp⟩
  rw [List.length_map, fm_getD (fun w => [numIn w 0 99]) "" (Txt.split z " "), fm_one] at hp
  refine ⟨D, acc, rfl, .inl ⟨.of hacc, fun t nt => ?_⟩⟩
  have s3 := same_new nt (.tup acc)
  refine g_set ?_
  refine nx_in ?_
  refine ret_in ?_
  have hal := pr_len hp
  rw [List.length_map] at hal
  refine ⟨_, rfl, .ref t, .tup (((Txt.split z " ").map fun w => numIn w 0 99).map onD), rfl, .tup upd_same (ons_dv hp) (by rw [List.length_map, List.length_map]; exact few), fun H4 g4 => ⟨_, rfl, ?_⟩⟩
  rw [onD_lot fun o ho i e => by
    obtain ⟨w, _, rfl⟩ := List.mem_map.mp ho
    exact (numIn_range e).1]
  have ht4 := g4 _ _ (upd_same (H := H2) (a := t) (o := .tup acc))
  have kk := fun v => k v H4 (((s1.trans g2).trans s3).trans g4)
  unfold lotIn at kk
  refine ite2 (fun c => ⟨_, rfl, ?_⟩) (fun c => ?_)
  · rw [Bool.and_eq_true] at c
    rw [if_pos c] at kk
    refine kk _ ⟨t, rfl, ?_⟩
    rw [ht4, ons_int hp c.1]
  · rw [if_neg (fun c2 => c (by rw [Bool.and_eq_true]; exact c2))] at kk
    exact kk _ rfl
end
end Fp
namespace Fp
open PySem PySem.Spec PyProof.Rows L2
/-- a line: its lots are few and short -/
structure LineW (z : Str) : Prop where
  len : z.length ≤ 100000
  few : (Txt.split z " : ").length ≤ 1000
  ws : ∀ a ∈ Txt.split z " : ", WsOk a ∧ (Txt.split a " | ").length ≤ 1000 ∧ ∀ b ∈ Txt.split a " | ", WsOk b
def spLineIn : Sp := fun vs H Q _ => ∃ z : Str, vs = [.str z] ∧ LineW z ∧ ∀ v H', Same H H' → LnRes H' v (lineIn z) → Q v H'
def resP : Option (List Int) → PyData
  | none => .none
  | some l => lotP l
theorem resP_none (o : Option (List Int)) : PyData.eqv (resP o) .none = o.isNone := by
  cases o with
  | none => rfl
  | some l =>
    show PyData.eqv (.tuple _) .none = false
    simp [PyData.eqv]
theorem res_dp {K : PySem.W.Frag} {H : Hp} : ∀ {acc : List V} {os : List (Option (List Int))}, Paired (LotRes H) acc os → DpAll K H acc (os.map resP)
  | _, _, .nil => .nil
  | _, _, .cons (b := o) e t => by
    refine .cons ?_ (res_dp t)
    cases o with
    | none => rw [show _ = V.non from e]; exact .non
    | some l => exact lt_dp e
theorem resP_lay : ∀ os : List (Option (List Int)), PyData.canLayAll0 (os.map resP) = true ∧ PyData.depthAll (os.map resP) ≤ 2
  | [] => by simp [PyData.canLayAll0, PyData.depthAll]
  | o :: os => by
    obtain ⟨a, b⟩ := resP_lay os
    have h : (resP o).canLay0 = true ∧ (resP o).depth ≤ 2 := by
      cases o with
      | none => simp [resP, PyData.canLay0, PyData.depth]
      | some l =>
        show (lotP l).canLay0 = true ∧ (lotP l).depth ≤ 2
        rw [← lotP_eq]
        exact ⟨toP_lay, Nat.le_trans toP_depth (by decide)⟩
    rw [List.map_cons]
    simp only [PyData.canLayAll0, PyData.depthAll, h.1, a, Bool.and_true, true_and]
    have := h.2
    omega
theorem res_shaped (os : List (Option (List Int))) : SeqAt.shaped (.list (os.map resP)) = true := by
  obtain ⟨a, b⟩ := resP_lay os
  unfold SeqAt.shaped
  simp only [PyData.canLay0, PyData.depth, a, Bool.true_and]
  exact decide_eq_true (by omega)
theorem res_all {H : Hp} : ∀ {acc : List V} {os : List (Option (List Int))}, Paired (LotRes H) acc os → os.any Option.isNone = false → Paired (LtV H) acc (os.map fun o => o.getD [])
  | _, _, .nil, _ => .nil
  | _, _, .cons (b := o) e t, h => by
    rw [List.any_cons, Bool.or_eq_false_iff] at h
    refine .cons ?_ (res_all t h.2)
    cases o with
    | none => cases h.1
    | some l => exact e
section
variable {P : Program} {w : World} {K : PySem.W.Frag} {mg : Str → Option Value} {base : Heap} {f : Addr} {fd : FuncData} {C : Addr}
abbrev s_line_in : Stmt := top 23
theorem sc_line_in : FnScope ["line", "sides", "left", "ends", "part"] ["line"] (defScope s_line_in) := ⟨rfl, rfl, rfl, by decide +kernel, rfl, by decide +kernel, by decide +kernel⟩
theorem ok_line_in (F : Fun K "line_in" "line_in" s_line_in f fd) (T : RTx mg) (G_lot_text_in : Fd P w K mg base CX0 "lot_text_in" 3 ["text"] spLotTxt) : FnOk P w K mg base CX0 4 f fd ["line"] spLineIn := by
  refine F.ok sc_line_in (fun vs H Q E h => ?_) (fun cdv A outer s H vs Q E hr h => ?_)
  · obtain ⟨z, rfl, _⟩ := h
    rfl
  obtain ⟨z, rfl, hz, k⟩ := h
  refine ⟨_, (pss_cons (ps_set (i := 1) sc_line_in.nd rfl (Or.inl rfl) (pe_split (pv 0) pe_str))
  (pss_cons (ps_if (pt_cmpR op_ne (pe_callB call_len rfl T.len (by decide +kernel) (pa_cons (pv 1) pa_nil)) pe_int (nomark _)) (pss_one (ps_ret pe_non)) pss_nil)
  (pss_cons (ps_set (i := 2) sc_line_in.nd rfl (Or.inl rfl) (pe_fd G_lot_text_in (hr.mono (by first | decide | omega)) rfl (pa_cons (pe_ix ix_list (pv 1) pe_int (fun _ _ => rfl)) pa_nil)))
  (pss_cons (ps_setLc (i := 3) (own := [("part", 4)]) (g := (gName 4)) (tt := tYes) rfl sc_line_in.nd rfl rfl (sw_true rfl rfl rfl (by decide +kernel)) (pi_list (pe_split (pe_ix ix_list (pv 1) pe_int (fun _ _ => rfl)) pe_str)) (blkOk_by (own := [("part", 4)]) (N := ["line", "sides", "left", "ends", "part"]) (sc := defScope s_line_in) (by decide +kernel)) (fun _ _ _ _ _ => (pg_name (i := 4) sc_line_in.nd rfl (Or.inl rfl))) (fun _ _ _ _ _ => pts_nil) (fun _ _ _ _ _ => (pe_fd G_lot_text_in (hr.mono (by first | decide | omega)) rfl (pa_cons (pv 4) pa_nil))))
  (pss_cons (ps_if (PW.pt (pw_or (pt_cmpR op_isN (pv 2) pe_non (nomark _)) (pw_or (pt_cmpR op_gt (pe_callB call_len rfl T.len (by decide +kernel) (pa_cons (pv 2) pa_nil)) (pe_cI T.c_MOST_BROUGHT) (nomark _)) (pw_or1 (pt_cmpR (op_inD (u65 hr)) pe_non (pv 3) rfl))))) (pss_one (ps_ret pe_non)) pss_nil)
  (pss_one (ps_ret (pe_tup (pa_cons (pv 2) (pa_cons (pe_callTy call_tuple_of rfl T.tuple (by decide +kernel) (pa_cons (pv 3) pa_nil)) pa_nil)))))))))), ?_⟩
  refine seq_in ?_
  refine asg_in ?_
  refine ⟨_, rfl, ⟨_, rfl⟩, z, " : ", rfl, rfl, by decide +kernel, szl (by have := hz.len; omega), fun l nl => ?_⟩
  have s1 := same_new nl (.lst ((Txt.split z " : ").map V.str))
  have hl1 : upd H l (.lst ((Txt.split z " : ").map V.str)) l = some (.lst ((Txt.split z " : ").map V.str)) := upd_same
  generalize upd H l (.lst ((Txt.split z " : ").map V.str)) = H1 at s1 hl1 ⊢
  refine g_set ?_
  refine nx_in ?_
  refine seq_in ?_
  have hws := hz.ws
  have hno : ∀ v H', Same H H' → v = .non → lineIn z = none → Q v H' := fun v H' g e1 e2 => k v H' g (by rw [e2]; exact e1)
  unfold lineIn at k hno
  generalize Txt.split z " : " = sides at hl1 hws k hno
  refine ⟨_, rfl, _, sides.length, rfl, .inl ⟨_, .of hl1, by rw [List.length_map]⟩, rfl, _, rfl, ite2 (fun c => ?_) (fun c => ?_)⟩
  · refine ret_in ?_
    refine hno _ H1 s1 rfl ?_
    have c' : ¬ V.int ((sides.length : Nat) : Int) = V.int 2 := by simpa using c
    match sides, c' with
    | [], _ => rfl
    | [_], _ => rfl
    | [_, _], c' => exact absurd rfl c'
    | _ :: _ :: _ :: _, _ => rfl
  have c' : V.int ((sides.length : Nat) : Int) = V.int 2 := by simpa using c
  obtain ⟨a, b, rfl⟩ : ∃ a b, sides = [a, b] := by
    injection c' with c'
    match sides, c' with
    | [], c' => cases c'
    | [_], c' => cases c'
    | [a, b], _ => exact ⟨a, b, rfl⟩
    | x :: y :: u :: r, c' => simp only [List.length_cons] at c'; omega
  clear c c'
  have ha := (hws a List.mem_cons_self).1
  have hb := (hws b (by simp)).2
  refine next_in ?_
  refine nx_in ?_
  refine seq_in ?_
  refine asg_in ?_
  refine ⟨_, rfl, l, _, 0, _, rfl, rfl, .of hl1, rfl, a, rfl, ha, fun v2 H2 g2 r2 => ?_⟩
  refine g_set ?_
  refine nx_in ?_
  refine seq_in ?_
  have hl2 := g2 _ _ hl1
  have hbl : b.length ≤ 100000 := (hws b (by simp)).1.len
  refine ⟨_, rfl, l, _, 1, _, rfl, rfl, .of hl2, rfl, ⟨_, rfl⟩, b, " | ", rfl, rfl, by decide +kernel, szl (by omega), fun l2 nl2 => ⟨l2, rfl, ⟨_, .of upd_same⟩, fun D hD => ?_⟩⟩
  generalize hpt : Txt.split b " | " = parts at hb hD
  have s3 := same_new nl2 (.lst (parts.map V.str))
  have hl3 : upd H2 l2 (.lst (parts.map V.str)) l2 = some (.lst (parts.map V.str)) := upd_same
  generalize upd H2 l2 (.lst (parts.map V.str)) = H3 at s3 hl3 hD ⊢
  obtain ⟨few, hbw⟩ := hb
  have r3 := r2.tk (.of s3)
  refine lc_coll (R := LotRes) (walk_list (xs := parts.map V.str)) (fun i => [lotIn (parts.getD i "")]) hD (fun H' g => .of (g _ _ hl3)) ?_ ?_
  · rintro i x H4 H5 hi c ⟨rfl, hx⟩ M hM
    rw [List.length_map] at hi
    rw [List.getElem?_map, List.getElem?_eq_getElem hi] at hx
    cases hx
    refine ⟨rfl, yes_in ?_⟩
    refine ⟨_, rfl, _, rfl, hbw _ (List.getElem_mem hi), fun v H6 g6 r6 => ?_⟩
    refine coll_app stab_lotres hD c g6 (a := lotIn (parts.getD i "")) ?_ ?_ hM
    · rw [List.getD_eq_getElem?_getD, List.getElem?_eq_getElem hi]; exact r6
    · rw [fm_one, List.length_map, List.length_range]; omega
  rintro H4 ⟨g4, acc, hacc, hp⟩
  rw [List.length_map, fm_getD (fun w => [lotIn w]) "" parts, fm_one] at hp
  have r4 := r3.tk (.of g4)
  have g14 := ((s1.trans g2).trans s3).trans g4
  refine g_set ?_
  refine nx_in ?_
  refine seq_in ?_
  simp only [hpt] at k hno
  generalize hos : parts.map lotIn = os at hp k hno
  cases el : lotIn a with
  | none =>
    rw [el] at r4 hno
    obtain rfl : v2 = .non := r4
    refine ⟨_, rfl, rfl, _, rfl, iteT (iteT ?_)⟩
    refine ret_in ?_
    exact hno _ _ g14 rfl rfl
  | some lt =>
    rw [el] at r4 k hno
    obtain ⟨c, rfl, hc⟩ := r4
    simp only at k hno
    refine ⟨_, rfl, rfl, _, rfl, iteF ?_⟩
    refine ⟨_, rfl, _, lt.length, rfl, .inr ⟨_, .of hc, by rw [List.length_map]⟩, _, _, rfl, rfl, _, rfl, ?_⟩
    refine ite2 (fun c4 => iteT ?_) (fun c4 => ?_)
    · refine ret_in ?_
      refine hno _ _ g14 rfl ?_
      have c4 := of_decide_eq_true c4
      exact if_pos (.inl (by omega))
    have n4 : ¬ 4 < lt.length := fun z => c4 (decide_eq_true (by omega))
    refine ⟨_, rfl, .none, os.map resP, .non, .lst (.of hacc) (res_dp hp), by decide, res_shaped os, _, rfl, ?_⟩
    have eany : ((os.map resP).any fun z => PyData.eqv z .none) = os.any Option.isNone := by
      rw [List.any_map]
      congr 1
      funext o
      exact resP_none o
    rw [eany]
    refine ite2 (fun c5 => ?_) (fun c5 => ?_)
    · refine ret_in ?_
      exact hno _ _ g14 rfl (if_pos (.inr c5))
    refine next_in ?_
    refine nx_in ?_
    refine ret_in ?_
    have hf : os.any Option.isNone = false := by
      cases e : os.any Option.isNone with
      | false => rfl
      | true => exact absurd e c5
    refine ⟨_, rfl, _, rfl, D, acc, rfl, .inl ⟨.of hacc, fun te nte => ⟨szl (by show 2 ≤ _; decide), fun tl ntl => ?_⟩⟩⟩
    have s5 := same_new nte (.tup acc)
    have s6 := same_new ntl (.tup [.ref c, .ref te])
    refine k _ _ ((g14.trans s5).trans s6) ?_
    rw [if_neg (by rw [hf]; rintro (q | q) <;> first | exact n4 q | cases q)]
    exact ⟨tl, _, _, rfl, upd_same, ⟨c, rfl, s6 _ _ (s5 _ _ hc)⟩, te, acc, rfl, s6 _ _ upd_same, pr_imp (fun _ _ h => LtV.tk (.of (s5.trans s6)) h) (res_all hp hf)⟩
end
end Fp
namespace Fp
open PySem PySem.Spec PyProof.Rows L2
def leftW (ls : List TLn) : List Int := ls.flatMap (·.1)
def spokW (ls : List TLn) : List Int := ls.flatMap fun ln => ln.2.flatMap id
structure LsW (ls : List TLn) (D : List Int) : Prop where
  few : ls.length ≤ 30
  left : ∀ ln ∈ ls, ln.1.length ≤ 100 ∧ ln.2.length ≤ 100 ∧ ∀ e ∈ ln.2, e.length ≤ 100
  lw : (leftW ls).length ≤ 1000
  sw : (spokW ls).length ≤ 1000
  lD : ∀ x ∈ leftW ls, x ∈ D
  sD : ∀ x ∈ spokW ls, x ∈ D
  dl : D.length < 60
  dr : ∀ x ∈ D, 0 ≤ x ∧ x < 100
def LinesV (K : PySem.W.Frag) (H : Hp) (a : Addr) (ls : List TLn) : Prop := ∃ xs, (SqL K H a xs ∨ SqT K H a xs) ∧ Paired (LnV H) xs ls
def spLeft (K : PySem.W.Frag) : Sp := fun vs H Q _ => ∃ (a : Addr) (ls : List TLn) (D : List Int), vs = [.ref a] ∧ LinesV K H a ls ∧ LsW ls D ∧ ∀ v H', Same H H' → LtV H' v (lotM (leftW ls)) → Q v H'
def spSpok (K : PySem.W.Frag) : Sp := fun vs H Q _ => ∃ (a : Addr) (ls : List TLn) (D : List Int), vs = [.ref a] ∧ LinesV K H a ls ∧ LsW ls D ∧ ∀ v H', Same H H' → LtV H' v (lotM (spokW ls)) → Q v H'
theorem left_core {K : PySem.W.Frag} {H : Hp} {a DD : Addr} {xs : List V} {ls : List TLn} {D : List Int} {J : It} {G : Hp → Prop} (wk : Walk J xs.length G (YAt xs)) (hG : ∀ H', Same H H' → G H') (hp : Paired (LnV H) xs ls) (W : LsW ls D) (hDD : H DD = none) {N : Hp → Prop}
    (hN : ∀ H', Coll H DD RI H' (leftW ls) → N H') :
    ∃ W' : Nat → Nat → Hp → Prop, (∃ m, W' 0 m (upd H DD (.lst []))) ∧ tTurns J (gTup K 2 (gCons (gName 1) (gCons (gName 2) gNil))) tYes (tClause (iTup K (tVar 1)) (gName 3) tYes (tApp (tVar 3) DD) [3]) [1, 2, 3] [some (.ref a), none, none, none] W' N := by
  have hxl := pr_len hp
  have hW := W.few
  have hlen : ∀ i, i ≤ 30 → ((List.range i).flatMap fun i => (ls.getD i ([], [])).1).length ≤ 3000 := fun i hi => by
    refine Nat.le_trans (fm_len (B := 100) i fun j _ => ?_) (by omega)
    by_cases c : j < ls.length
    · rw [List.getD_eq_getElem?_getD, List.getElem?_eq_getElem c]; exact (W.left _ (List.getElem_mem c)).1
    · rw [List.getD_eq_getElem?_getD, List.getElem?_eq_none (by omega)]; exact Nat.zero_le _
  refine lc_coll (R := RI) wk (fun i => (ls.getD i ([], [])).1) hDD hG ?_ fun H' c => hN H' ?_
  · rintro i x H1 H2 hi c ⟨rfl, hx⟩ M hM
    obtain ⟨ln, hln, t, v1, v2, rfl, ht, ⟨c1, rfl, hc1⟩, _⟩ := pr_ix hp hx
    have hi' : i < 30 := by omega
    rw [List.getD_eq_getElem?_getD, hln] at hM
    have g := c.1
    refine ⟨t, _, rfl, .of (g _ _ ht), rfl, _, _, rfl, _, _, rfl, rfl, rfl, yes_in ?_⟩
    refine ⟨_, rfl, c1, rfl, ⟨_, .of (g _ _ hc1)⟩, ?_⟩
    refine turns_rel (R := RI) (walk_tup (xs := ln.1.map V.int)) (fun j => [ln.1.getD j 0]) _ (fun H' g2 => .of (g2 _ _ hc1)) ?_ (fun H' c' => hM H' ?_) c
    · rintro j y H3 H4 hj c3 ⟨rfl, hy⟩ M2 hM2
      rw [List.length_map] at hj
      rw [List.getElem?_map, List.getElem?_eq_getElem hj] at hy
      cases hy
      refine ⟨rfl, yes_in ?_⟩
      refine ⟨_, rfl, coll_app stab_int hDD c3 (Same.refl _) (a := ln.1.getD j 0) ?_ ?_ hM2⟩
      · rw [List.getD_eq_getElem?_getD, List.getElem?_eq_getElem hj]; rfl
      · rw [List.length_append, fm_one, List.length_map, List.length_range]
        have := hlen i (by omega)
        have := (W.left ln (List.mem_of_getElem? hln)).1
        omega
    · rw [List.length_map, fm_getD (fun x => [x]) 0 ln.1, fm_one, List.map_id'] at c'
      exact c'
  · rw [hxl, fm_getD (fun ln => ln.1) ([], []) ls] at c
    exact c
theorem spok_core {K : PySem.W.Frag} {H : Hp} {a DD : Addr} {xs : List V} {ls : List TLn} {D : List Int} {J : It} {G : Hp → Prop} (wk : Walk J xs.length G (YAt xs)) (hG : ∀ H', Same H H' → G H') (hp : Paired (LnV H) xs ls) (W : LsW ls D) (hDD : H DD = none) {N : Hp → Prop}
    (hN : ∀ H', Coll H DD RI H' (spokW ls) → N H') :
    ∃ W' : Nat → Nat → Hp → Prop, (∃ m, W' 0 m (upd H DD (.lst []))) ∧ tTurns J (gTup K 2 (gCons (gName 1) (gCons (gName 2) gNil))) tYes (tClause (iTup K (tVar 2)) (gName 3) tYes (tClause (iTup K (tVar 3)) (gName 4) tYes (tApp (tVar 4) DD) [4]) [3, 4]) [1, 2, 3, 4] [some (.ref a), none, none, none, none] W' N := by
  have hxl := pr_len hp
  have hW := W.few
  have hone : ∀ ln ∈ ls, ∀ n, n ≤ 100 → ((List.range n).flatMap fun j => ln.2.getD j []).length ≤ 10000 := fun ln hln n hn => by
    refine Nat.le_trans (fm_len (B := 100) n fun j _ => ?_) (by omega)
    by_cases c : j < ln.2.length
    · rw [List.getD_eq_getElem?_getD, List.getElem?_eq_getElem c]; exact (W.left _ hln).2.2 _ (List.getElem_mem c)
    · rw [List.getD_eq_getElem?_getD, List.getElem?_eq_none (by omega)]; exact Nat.zero_le _
  have hall : ∀ ln ∈ ls, (ln.2.flatMap id).length ≤ 10000 := fun ln hln => by
    rw [← fm_getD id [] ln.2]
    exact hone ln hln _ (W.left ln hln).2.1
  have hlen : ∀ i, i ≤ 30 → ((List.range i).flatMap fun i => (ls.getD i ([], [])).2.flatMap id).length ≤ 300000 := fun i hi => by
    refine Nat.le_trans (fm_len (B := 10000) i fun j _ => ?_) (by omega)
    by_cases c : j < ls.length
    · rw [List.getD_eq_getElem?_getD, List.getElem?_eq_getElem c]; exact hall _ (List.getElem_mem c)
    · rw [List.getD_eq_getElem?_getD, List.getElem?_eq_none (by omega)]; exact Nat.zero_le _
  refine lc_coll (R := RI) wk (fun i => (ls.getD i ([], [])).2.flatMap id) hDD hG ?_ fun H' c => hN H' ?_
  · rintro i x H1 H2 hi c ⟨rfl, hx⟩ M hM
    obtain ⟨ln, hln, t, v1, v2, rfl, ht, _, t2, ys, rfl, ht2, hys⟩ := pr_ix hp hx
    have hi' : i < 30 := by omega
    have hlm := List.mem_of_getElem? hln
    rw [List.getD_eq_getElem?_getD, hln] at hM
    have g := c.1
    have hyl := pr_len hys
    refine ⟨t, _, rfl, .of (g _ _ ht), rfl, _, _, rfl, _, _, rfl, rfl, rfl, yes_in ?_⟩
    refine ⟨_, rfl, t2, rfl, ⟨_, .of (g _ _ ht2)⟩, ?_⟩
    refine turns_rel (R := RI) (walk_tup (xs := ys)) (fun j => ln.2.getD j []) _ (fun H' g2 => .of (g2 _ _ ht2)) ?_ (fun H' c' => hM H' ?_) c
    · rintro j y H3 H4 hj c3 ⟨rfl, hy⟩ M2 hM2
      obtain ⟨e, he, c4, rfl, hc4⟩ := pr_ix hys hy
      rw [List.getD_eq_getElem?_getD, he] at hM2
      refine ⟨rfl, yes_in ?_⟩
      refine ⟨_, rfl, c4, rfl, ⟨_, .of (c3.1 _ _ hc4)⟩, ?_⟩
      refine turns_rel (R := RI) (walk_tup (xs := e.map V.int)) (fun j => [e.getD j 0]) _ (fun H' g2 => .of (g2 _ _ hc4)) ?_ (fun H' c' => hM2 H' ?_) c3
      · rintro k y H5 H6 hk c5 ⟨rfl, hy⟩ M3 hM3
        rw [List.length_map] at hk
        rw [List.getElem?_map, List.getElem?_eq_getElem hk] at hy
        cases hy
        refine ⟨rfl, yes_in ?_⟩
        refine ⟨_, rfl, coll_app stab_int hDD c5 (Same.refl _) (a := e.getD k 0) ?_ ?_ hM3⟩
        · rw [List.getD_eq_getElem?_getD, List.getElem?_eq_getElem hk]; rfl
        · rw [List.length_append, List.length_append, fm_one, List.length_map, List.length_range]
          have h1 := hlen i (by omega)
          have hwl := W.left ln hlm
          have h2 := hone ln hlm j (by have := hwl.2.1; omega)
          have h3 := hwl.2.2 e (List.mem_of_getElem? he)
          omega
      · rw [List.length_map, fm_getD (fun x => [x]) 0 e, fm_one, List.map_id'] at c'
        exact c'
    · have e : (List.range ln.2.length).flatMap (fun j => ln.2.getD j []) = ln.2.flatMap id := fm_getD id [] ln.2
      rw [hyl, e] at c'
      exact c'
  · rw [hxl, fm_getD (fun ln => ln.2.flatMap id) ([], []) ls] at c
    exact c
def mayB (ls : List TLn) (ln : TLn) : Bool := decide (ls.length + 1 ≤ 20) && (!(ls.any fun l => decide (l.1 = ln.1))) && decide ((lotM (leftW (ls ++ [ln]))).length ≤ 6) && decide ((lotM (spokW (ls ++ [ln]))).length ≤ 8)
def spMay (K : PySem.W.Frag) : Sp := fun vs H Q _ => ∃ (a : Addr) (xs : List V) (ls : List TLn) (ln : TLn) (D : List Int), vs = [.ref a] ∧ SqL K H a xs ∧ Paired (LnV H) xs (ls ++ [ln]) ∧ LsW (ls ++ [ln]) D ∧ ∀ H', Same H H' → Q (.bl (mayB ls ln)) H'
section
variable {P : Program} {w : World} {K : PySem.W.Frag} {mg : Str → Option Value} {base : Heap} {f : Addr} {fd : FuncData} {C : Addr}
abbrev s_left_words : Stmt := top 26
theorem sc_left_words : FnScope ["lines", "left", "ends", "word"] ["lines"] (defScope s_left_words) := ⟨rfl, rfl, rfl, by decide +kernel, rfl, by decide +kernel, by decide +kernel⟩
theorem ok_left_words (F : Fun K "left_words" "left_words" s_left_words f fd) (G_lot_of : Fd P w K mg base CX0 "lot_of" 1 ["words"] (spLotOfW K)) : FnOk P w K mg base CX0 2 f fd ["lines"] (spLeft K) := by
  refine F.ok sc_left_words (fun vs H Q E h => ?_) (fun cdv A outer s H vs Q E hr h => ?_)
  · obtain ⟨a, ls, D, rfl, _⟩ := h
    rfl
  obtain ⟨a, ls, D, rfl, ⟨xs, hxs, hp⟩, W, k⟩ := h
  refine ⟨_, (pss_one (ps_ret (pe_fd G_lot_of (hr.mono (by first | decide | omega)) rfl (pa_cons (pe_lc2 (own := [("left", 1), ("ends", 2), ("word", 3)]) (vs1 := [3]) (g := (gTup K 2 (gCons (gName 1) (gCons (gName 2) gNil)))) (tt := tYes) (g1 := (gName 3)) (tt1 := tYes) rfl sc_left_words.nd (pi_eith (pi_list (pv 0)) (pi_tup (pv 0))) (blkOk_by (own := [("left", 1), ("ends", 2), ("word", 3)]) (N := ["lines", "left", "ends", "word"]) (sc := defScope s_left_words) (by decide +kernel)) (by decide) (fun _ _ _ _ _ => (pg_tup rfl (pgs_cons (pg_name (i := 1) sc_left_words.nd rfl (Or.inl rfl)) (pgs_cons (pg_name (i := 2) sc_left_words.nd rfl (Or.inl rfl)) pgs_nil)))) (fun _ _ _ _ _ => pts_nil) (fun _ _ _ _ _ => (pi_tupK' (pv 1))) (fun _ _ _ _ _ => (pg_name (i := 3) sc_left_words.nd rfl (Or.inl rfl))) (fun _ _ _ _ _ => pts_nil) (fun _ _ _ _ _ => (pv 3))) pa_nil)))), ?_⟩
  refine ret_in ?_
  have fin : ∀ DD H', Coll H DD RI H' (leftW ls) → spLotOfW K [.ref DD] H' Q E0 := fun DD H' c => by
    obtain ⟨g, e⟩ := coll_ints c
    exact ⟨DD, leftW ls, D, rfl, .of e, W.lw, W.lD, W.dl, fun v H2 zs g2 h1 h2 h3 => k v H2 (g.trans g2) (by rw [← lotM_of h1 h2 (fun x hx => W.dr x (W.lD x hx))]; exact h3)⟩
  rcases hxs with hxs | hxs
  · exact .inl ⟨_, rfl, a, rfl, ⟨_, hxs⟩, fun DD hDD => left_core walk_list (fun H' g => g.seq hxs) hp W hDD (fin DD)⟩
  · exact .inr ⟨_, rfl, a, rfl, ⟨_, hxs⟩, fun DD hDD => left_core walk_tup (fun H' g => hxs.ext g) hp W hDD (fin DD)⟩
abbrev s_spoken_words : Stmt := top 27
theorem sc_spoken_words : FnScope ["lines", "left", "ends", "end", "word"] ["lines"] (defScope s_spoken_words) := ⟨rfl, rfl, rfl, by decide +kernel, rfl, by decide +kernel, by decide +kernel⟩
theorem ok_spoken_words (F : Fun K "spoken_words" "spoken_words" s_spoken_words f fd) (G_lot_of : Fd P w K mg base CX0 "lot_of" 1 ["words"] (spLotOfW K)) : FnOk P w K mg base CX0 2 f fd ["lines"] (spSpok K) := by
  refine F.ok sc_spoken_words (fun vs H Q E h => ?_) (fun cdv A outer s H vs Q E hr h => ?_)
  · obtain ⟨a, ls, D, rfl, _⟩ := h
    rfl
  obtain ⟨a, ls, D, rfl, ⟨xs, hxs, hp⟩, W, k⟩ := h
  refine ⟨_, (pss_one (ps_ret (pe_fd G_lot_of (hr.mono (by first | decide | omega)) rfl (pa_cons (pe_lc3 (own := [("left", 1), ("ends", 2), ("end", 3), ("word", 4)]) (vs1 := [3, 4]) (vs2 := [4]) (g := (gTup K 2 (gCons (gName 1) (gCons (gName 2) gNil)))) (tt := tYes) (g1 := (gName 3)) (tt1 := tYes) (g2 := (gName 4)) (tt2 := tYes) rfl sc_spoken_words.nd (pi_eith (pi_list (pv 0)) (pi_tup (pv 0))) (blkOk_by (own := [("left", 1), ("ends", 2), ("end", 3), ("word", 4)]) (N := ["lines", "left", "ends", "end", "word"]) (sc := defScope s_spoken_words) (by decide +kernel)) (by decide) (by decide) (fun _ _ _ _ _ => (pg_tup rfl (pgs_cons (pg_name (i := 1) sc_spoken_words.nd rfl (Or.inl rfl)) (pgs_cons (pg_name (i := 2) sc_spoken_words.nd rfl (Or.inl rfl)) pgs_nil)))) (fun _ _ _ _ _ => pts_nil) (fun _ _ _ _ _ => (pi_tupK' (pv 2))) (fun _ _ _ _ _ => (pg_name (i := 3) sc_spoken_words.nd rfl (Or.inl rfl))) (fun _ _ _ _ _ => pts_nil) (fun _ _ _ _ _ => (pi_tupK' (pv 3))) (fun _ _ _ _ _ => (pg_name (i := 4) sc_spoken_words.nd rfl (Or.inl rfl))) (fun _ _ _ _ _ => pts_nil) (fun _ _ _ _ _ => (pv 4))) pa_nil)))), ?_⟩
  refine ret_in ?_
  have fin : ∀ DD H', Coll H DD RI H' (spokW ls) → spLotOfW K [.ref DD] H' Q E0 := fun DD H' c => by
    obtain ⟨g, e⟩ := coll_ints c
    exact ⟨DD, spokW ls, D, rfl, .of e, W.sw, W.sD, W.dl, fun v H2 zs g2 h1 h2 h3 => k v H2 (g.trans g2) (by rw [← lotM_of h1 h2 (fun x hx => W.dr x (W.sD x hx))]; exact h3)⟩
  rcases hxs with hxs | hxs
  · exact .inl ⟨_, rfl, a, rfl, ⟨_, hxs⟩, fun DD hDD => spok_core walk_list (fun H' g => g.seq hxs) hp W hDD (fin DD)⟩
  · exact .inr ⟨_, rfl, a, rfl, ⟨_, hxs⟩, fun DD hDD => spok_core walk_tup (fun H' g => hxs.ext g) hp W hDD (fin DD)⟩
abbrev s_may_stand : Stmt := top 25
theorem sc_may_stand : FnScope ["lines", "left", "line"] ["lines"] (defScope s_may_stand) := ⟨rfl, rfl, rfl, by decide +kernel, rfl, by decide +kernel, by decide +kernel⟩
theorem ok_may_stand (F : Fun K "may_stand" "may_stand" s_may_stand f fd) (T : RTx mg) (G_left_words : Fd P w K mg base CX0 "left_words" 2 ["lines"] (spLeft K)) (G_spoken_words : Fd P w K mg base CX0 "spoken_words" 2 ["lines"] (spSpok K)) : FnOk P w K mg base CX0 3 f fd ["lines"] (spMay K) := by
  refine F.ok sc_may_stand (fun vs H Q E h => ?_) (fun cdv A outer s H vs Q E hr h => ?_)
  · obtain ⟨a, xs, ls, ln, D, rfl, _⟩ := h
    rfl
  obtain ⟨a, xs, ls, ln, D, rfl, ha, hp, W, k⟩ := h
  refine ⟨_, (pss_cons (ps_set (i := 1) sc_may_stand.nd rfl (Or.inl rfl) (pe_ix ix_tup (pe_ix ix_list (pv 0) (pe_un un_neg pe_int) (fun _ _ => rfl)) pe_int (fun _ _ => rfl)))
  (pss_cons (ps_if (PW.pt (pw_or (pt_cmpR op_gt (pe_callB call_len rfl T.len (by decide +kernel) (pa_cons (pv 0) pa_nil)) (pe_cI T.c_MOST_LINES) (nomark _)) (pw_or1 (pt_cmpR (op_inD (u65 hr)) (pv 1) (pe_lc (own := [("line", 2)]) (g := (gName 2)) (tt := tYes) rfl sc_may_stand.nd (pi_list (pe_slice sl_list (pv 0) po_none (po_some (pe_un un_neg pe_int)))) (blkOk_by (own := [("line", 2)]) (N := ["lines", "left", "line"]) (sc := defScope s_may_stand) (by decide +kernel)) (fun _ _ _ _ _ => (pg_name (i := 2) sc_may_stand.nd rfl (Or.inl rfl))) (fun _ _ _ _ _ => pts_nil) (fun _ _ _ _ _ => (pe_ix ix_tupK (pv 2) pe_int (fun _ _ => rfl)))) rfl)))) (pss_one (ps_ret pe_bl)) pss_nil)
  (pss_one (ps_ret (pe_and (pe_cmpR op_le (pe_callB call_len rfl T.len (by decide +kernel) (pa_cons (pe_fd G_left_words (hr.mono (by first | decide | omega)) rfl (pa_cons (pv 0) pa_nil)) pa_nil)) (pe_cI T.c_MOST_LEFT) (nomark _)) (pe_one (pe_cmpR op_le (pe_callB call_len rfl T.len (by decide +kernel) (pa_cons (pe_fd G_spoken_words (hr.mono (by first | decide | omega)) rfl (pa_cons (pv 0) pa_nil)) pa_nil)) (pe_cI T.c_MOST_SPOKEN) (nomark _)))))))), ?_⟩
  refine seq_in ?_
  refine asg_in ?_
  obtain ⟨xs0, v, rfl, hp0, hv⟩ := pr_snoc_inv hp
  obtain ⟨t, v1, v2, rfl, ht, hv1, hv2⟩ := id hv
  have hxl := pr_len hp0
  have hlf := W.few
  rw [List.length_append, List.length_singleton] at hlf
  refine ⟨_, rfl, _, rfl, a, _, -1, _, rfl, rfl, ha, atI_last xs0 _, t, _, 0, _, rfl, rfl, .of ht, rfl, ?_⟩
  refine g_set ?_
  refine nx_in ?_
  refine seq_in ?_
  have kk := k
  unfold mayB at k
  refine ⟨_, rfl, _, (xs0 ++ [V.ref t]).length, rfl, .inl ⟨_, ha, rfl⟩, _, _, rfl, rfl, _, rfl, ?_⟩
  have e20 : decide ((20 : Int) < ((xs0 ++ [V.ref t]).length : Nat)) = !decide (ls.length + 1 ≤ 20) := by
    rw [List.length_append, List.length_singleton, hxl, Bool.eq_iff_iff]
    simp
    omega
  rw [e20]
  cases c1 : decide (ls.length + 1 ≤ 20) with
  | false =>
    rw [c1] at k
    refine iteT (iteT ?_)
    refine ret_in ?_
    exact k H (Same.refl _)
  | true =>
    rw [c1] at k
    refine iteF ?_
    refine ⟨_, rfl, _, rfl, ?_⟩
    refine noP_in ?_
    refine ⟨_, rfl, _, rfl, a, _, rfl, ha, fun b nb => ⟨b, rfl, ⟨_, .of upd_same⟩, fun DD hDD => ?_⟩⟩
    rw [cut_init] at hDD ⊢
    have s1 := same_new nb (.lst xs0)
    have hb1 : upd H b (.lst xs0) b = some (.lst xs0) := upd_same
    generalize upd H b (.lst xs0) = H1 at s1 hb1 hDD ⊢
    refine lc_coll (R := LtV) (walk_list (xs := xs0)) (fun i => [(ls.getD i ([], [])).1]) hDD (fun H' g => .of (g _ _ hb1)) ?_ ?_
    · rintro i x H2 H3 hi c ⟨rfl, hx⟩ M hM
      obtain ⟨l, hl, t3, w1, w2, rfl, ht3, hw1, _⟩ := pr_ix hp0 hx
      refine ⟨rfl, yes_in ?_⟩
      refine ⟨_, rfl, t3, _, 0, _, rfl, rfl, .of ((s1.trans c.1) _ _ ht3), rfl, ?_⟩
      refine coll_app stab_lt hDD c (Same.refl _) (a := (ls.getD i ([], [])).1) ?_ ?_ hM
      · rw [List.getD_eq_getElem?_getD, hl]
        exact hw1.tk (.of (s1.trans c.1))
      · rw [fm_one, List.length_map, List.length_range]; omega
    rintro H2 ⟨g2, acc, hacc, hpa⟩
    rw [hxl, fm_getD (fun l => [l.1]) ([], []) ls, fm_one] at hpa
    have g12 := s1.trans g2
    have hdp : ∀ {acc : List V} {ls : List TLn}, Paired (LtV H2) acc (ls.map fun l => l.1) → DpAll K H2 acc ((ls.map fun l : TLn => some l.1).map resP) := fun {acc ls} => by
      induction ls generalizing acc with
      | nil => intro h; cases h; exact .nil
      | cons l ls ih =>
        intro h
        cases h with
        | cons h t => exact .cons (lt_dp h) (ih t)
    refine ⟨lotP ln.1, (ls.map fun l : TLn => some l.1).map resP, lt_dp (hv1.tk (.of g12)), .lst (.of hacc) (hdp hpa), lotP_shaped _, res_shaped _, _, rfl, ?_⟩
    have ea : (((ls.map fun l : TLn => some l.1).map resP).any fun z => PyData.eqv z (lotP ln.1)) = ls.any fun l => decide (l.1 = ln.1) := by
      rw [List.any_map, List.any_map]
      congr 1
      funext l
      exact lotP_eqv _ _
    rw [ea]
    cases c2 : ls.any fun l => decide (l.1 = ln.1) with
    | true =>
      rw [c2] at k
      refine iteT ?_
      refine ret_in ?_
      exact k _ g12
    | false =>
      rw [c2] at k
      refine iteF ?_
      refine next_in ?_
      refine nx_in ?_
      refine ret_in ?_
      have ha2 := g12.seq ha
      refine ⟨_, rfl, a, ls ++ [ln], D, rfl, ⟨_, .inl ha2, pr_imp (fun _ _ h => LnV.tk (.of g12) h) hp⟩, W, fun v3 H3 g3 ⟨c3, e3, hc3⟩ => ?_⟩
      subst e3
      refine ⟨_, (lotM (leftW (ls ++ [ln]))).length, rfl, .inr ⟨_, .of hc3, by rw [List.length_map]⟩, _, _, rfl, rfl, ?_⟩
      refine ⟨_, rfl, ?_⟩
      have g13 := g12.trans g3
      have el : decide (((lotM (leftW (ls ++ [ln]))).length : Int) ≤ 6) = decide ((lotM (leftW (ls ++ [ln]))).length ≤ 6) := by
        rw [Bool.eq_iff_iff]; simp; omega
      rw [el]
      cases c3 : decide ((lotM (leftW (ls ++ [ln]))).length ≤ 6) with
      | false =>
        rw [c3] at k
        exact iteF (k _ g13)
      | true =>
        rw [c3] at k
        refine iteT ?_
        refine ⟨_, rfl, a, ls ++ [ln], D, rfl, ⟨_, .inl (g13.seq ha), pr_imp (fun _ _ h => LnV.tk (.of g13) h) hp⟩, W, fun v4 H4 g4 ⟨c4, e4, hc4⟩ => ?_⟩
        subst e4
        refine ⟨_, (lotM (spokW (ls ++ [ln]))).length, rfl, .inr ⟨_, .of hc4, by rw [List.length_map]⟩, _, _, rfl, rfl, ?_⟩
        have es : decide (((lotM (spokW (ls ++ [ln]))).length : Int) ≤ 8) = decide ((lotM (spokW (ls ++ [ln]))).length ≤ 8) := by
          rw [Bool.eq_iff_iff]; simp; omega
        show Q (V.bl (decide (((lotM (spokW (ls ++ [ln]))).length : Int) ≤ 8))) H4
        rw [es]
        exact k _ (g13.trans g4)
end
end Fp
namespace Fp
open PySem PySem.Spec PyProof.Rows L2
theorem op_inDK {X : Cx} {K : PySem.W.Frag} (hu : X.A.units + 65 < cLine) (e : X.K = K := by rfl) : OpR X (compareOp .In) (rInD K) := by subst e; exact op_inD hu
theorem fm_sub {α β : Type} {f : α → List β} : ∀ {l m : List α}, List.Sublist l m → List.Sublist (l.flatMap f) (m.flatMap f)
  | _, _, .slnil => .slnil
  | _, _, .cons a h => by rw [List.flatMap_cons]; exact (fm_sub h).trans (List.sublist_append_right _ _)
  | _, _, .cons₂ a h => by rw [List.flatMap_cons, List.flatMap_cons]; exact (List.Sublist.refl _).append (fm_sub h)
theorem LsW.sub {ls ms : List TLn} {D : List Int} (W : LsW ls D) (h : List.Sublist ms ls) : LsW ms D :=
  ⟨Nat.le_trans h.length_le W.few, fun ln hl => W.left ln (h.subset hl), Nat.le_trans (fm_sub h).length_le W.lw, Nat.le_trans (fm_sub h).length_le W.sw, fun x hx => W.lD x ((fm_sub h).subset hx), fun x hx => W.sD x ((fm_sub h).subset hx), W.dl, W.dr⟩
structure TkOk (z : Str) (ls : List TLn) (D : List Int) : Prop where
  len : z.length ≤ 100000
  sp : (Txt.split z "\n").map lineIn = ls.map some
  lw : ∀ line ∈ Txt.split z "\n", LineW line
  may : ∀ (i : Nat) (ln : TLn), ls[i]? = some ln → mayB (ls.take i) ln = true
  W : LsW ls D
  alone : ∀ w ∈ leftW ls, (ls.any fun l => decide (l.1 = [w])) = true
def spLinesIn : Sp := fun vs H Q _ => ∃ (z : Str) (ls : List TLn) (D : List Int), vs = [.str z] ∧ TkOk z ls D ∧ ∀ t ys H', Same H H' → H' t = some (.tup ys) → Paired (LnV H') ys ls → Q (.ref t) H'
section
variable {P : Program} {w : World} {K : PySem.W.Frag} {mg : Str → Option Value} {base : Heap} {f : Addr} {fd : FuncData} {C : Addr}
abbrev s_lines_in : Stmt := top 22
theorem sc_lines_in : FnScope ["text", "lines", "number", "line", "found", "lefts", "word"] ["text"] (defScope s_lines_in) := ⟨rfl, rfl, rfl, by decide +kernel, rfl, by decide +kernel, by decide +kernel⟩
theorem ok_lines_in (F : Fun K "lines_in" "lines_in" s_lines_in f fd) (T : RTx mg) (G_line_in : Fd P w K mg base CX0 "line_in" 4 ["line"] spLineIn) (G_may_stand : Fd P w K mg base CX0 "may_stand" 3 ["lines"] (spMay K)) (G_left_words : Fd P w K mg base CX0 "left_words" 2 ["lines"] (spLeft K)) : FnOk P w K mg base CX0 5 f fd ["text"] spLinesIn := by
  refine F.ok sc_lines_in (fun vs H Q E h => ?_) (fun cdv A outer s H vs Q E hr h => ?_)
  · obtain ⟨z, ls, D, rfl, _⟩ := h
    rfl
  obtain ⟨z, ls, D, rfl, Z, k⟩ := h
  refine ⟨_, (pss_cons (ps_set (i := 1) sc_lines_in.nd rfl (Or.inl rfl) (pe_lst pa_nil))
  (pss_cons (ps_for PassesOwn.never rfl (pi_enumS rfl T.enumerate (pa_cons (pe_split (pv 0) pe_str) (pa_cons pe_int pa_nil))) (pg_tup rfl (pgs_cons (pg_name (i := 2) sc_lines_in.nd rfl (Or.inl rfl)) (pgs_cons (pg_name (i := 3) sc_lines_in.nd rfl (Or.inl rfl)) pgs_nil))) (pss_cons (ps_set (i := 4) sc_lines_in.nd rfl (Or.inl rfl) (pe_fd G_line_in (hr.mono (by first | decide | omega)) rfl (pa_cons (pv 3) pa_nil)))
  (pss_cons (ps_if (PW.pt (pw_or (pt_cmpR op_isN (pv 4) pe_non (nomark _)) (pw_or1 (pt_not (pt_val (pe_fd G_may_stand (hr.mono (by first | decide | omega)) rfl (pa_cons (pe_lst (StX.pa_star (pv 1) (pa_cons (pv 4) pa_nil))) pa_nil))))))) (pss_one (ps_no)) pss_nil)
  (pss_one (ps_expr (pe_bm PySem.F.plainAttrs_list PySem.F.slot_list_append PySem.F.type_list_append mt_append (pv 1) (pa_cons (pv 4) pa_nil)))))))
  (pss_cons (ps_set (i := 5) sc_lines_in.nd rfl (Or.inr rfl) (pe_lc (own := [("line", 3)]) (g := (gName 3)) (tt := tYes) rfl sc_lines_in.nd (pi_list (pv 1)) (blkOk_by (own := [("line", 3)]) (N := ["text", "lines", "number", "line", "found", "lefts", "word"]) (sc := defScope s_lines_in) (by decide +kernel)) (fun _ _ _ _ _ => (pg_name (i := 3) sc_lines_in.nd rfl (Or.inl rfl))) (fun _ _ _ _ _ => pts_nil) (fun _ _ _ _ _ => (pe_ix ix_tupK (pv 3) pe_int (fun _ _ => rfl)))))
  (pss_cons (ps_if (pt_not (pt_val (pe_callB (cr_all rfl) rfl T.all (by decide +kernel) (pa_cons (pe_lc (own := [("word", 6)]) (g := (gName 6)) (tt := tYes) rfl sc_lines_in.nd (pi_tup (pe_fd G_left_words (hr.mono (by first | decide | omega)) rfl (pa_cons (pv 1) pa_nil))) (blkOk_by (own := [("word", 6)]) (N := ["text", "lines", "number", "line", "found", "lefts", "word"]) (sc := defScope s_lines_in) (by decide +kernel)) (fun _ _ _ _ _ => (pg_name (i := 6) sc_lines_in.nd rfl (Or.inl rfl))) (fun _ _ _ _ _ => pts_nil) (fun _ _ _ _ _ => (pe_cmpR (op_inDK (u65 hr)) (pe_tup (pa_cons (pv 6) pa_nil)) (pv 5) rfl))) pa_nil)))) (pss_one (ps_no)) pss_nil)
  (pss_one (ps_ret (pe_callTy call_tuple_of rfl T.tuple (by decide +kernel) (pa_cons (pv 1) pa_nil)))))))), ?_⟩
  refine seq_in ?_
  refine asg_in ?_
  refine ⟨szl (by show 0 ≤ _; decide), fun l nl => ?_⟩
  have s1 := same_new nl (.lst [])
  have hl1 : upd H l (.lst []) l = some (.lst []) := upd_same
  generalize upd H l (.lst []) = H1 at s1 hl1 ⊢
  refine g_set ?_
  refine nx_in ?_
  refine seq_in ?_
  have hlen := Z.len
  have hsp := Z.sp
  have hlw := Z.lw
  have W := Z.W
  have few := W.few
  have nlH : H l = none := nl
  refine ⟨_, rfl, ⟨_, rfl⟩, z, "\n", rfl, rfl, by decide +kernel, szl (by omega), fun p np => ?_⟩
  generalize Txt.split z "\n" = lns at hsp hlw
  have s2 := same_new np (.lst (lns.map V.str))
  have hp2 : upd H1 p (.lst (lns.map V.str)) p = some (.lst (lns.map V.str)) := upd_same
  have hl2 := s2 _ _ hl1
  have npl : p ≠ l := Ne.symm (ne_of_none hl1 np)
  have g2 := s1.trans s2
  generalize upd H1 p (.lst (lns.map V.str)) = H2 at s2 hp2 hl2 g2 ⊢
  have hll : lns.length = ls.length := by have := congrArg List.length hsp; rwa [List.length_map, List.length_map] at this
  refine ⟨p, lns.map V.str, 1, rfl, .of hp2, by decide, by decide, for_it (walk_enumS (xs := lns.map V.str)) (fun i σ H' => ∃ u2 u3 u4 xs, σ = [some (.str z), some (.ref l), u2, u3, u4, none, none] ∧ But [l] H2 H' ∧ H' l = some (.lst xs) ∧ Paired (LnV H') xs (ls.take i)) ?_ ?_ ?_ ?_⟩
  · exact ⟨_, _, _, [], rfl, But.refl _ _, hl2, .nil⟩
  · rintro i σ H' _ ⟨_, _, _, _, rfl, g, _⟩
    exact .of (g _ _ (by simpa using npl) hp2)
  · rintro i v σ H3 H3' hi ⟨u2, u3, u4, xs, rfl, g3, hl3, hxs⟩ ⟨TT, y, rfl, nT, rfl, hy⟩
    rw [List.length_map] at hi
    rw [List.getElem?_map, List.getElem?_eq_getElem hi] at hy
    cases hy
    have hil : i < ls.length := by omega
    have hln : lineIn lns[i] = some ls[i] := by
      have := congrArg (fun l => l[i]?) hsp
      simp only [List.getElem?_map, List.getElem?_eq_getElem hi, List.getElem?_eq_getElem hil, Option.map_some] at this
      exact Option.some.inj this
    have hmay := Z.may i ls[i] (List.getElem?_eq_getElem hil)
    have etk : ls.take (i + 1) = ls.take i ++ [ls[i]] := by rw [List.take_add_one, List.getElem?_eq_getElem hil]; rfl
    generalize ls[i] = ln at hln hmay etk
    have sT := same_new nT (.tup [.int (1 + (i : Nat)), .str lns[i]])
    refine ⟨TT, _, rfl, .of upd_same, rfl, _, _, rfl, _, _, rfl, rfl, ?_⟩
    refine seq_in ?_
    refine asg_in ?_
    refine ⟨_, rfl, lns[i], rfl, hlw _ (List.getElem_mem hi), fun v H4 g4 r4 => ?_⟩
    rw [hln] at r4
    refine g_set ?_
    refine nx_in ?_
    refine seq_in ?_
    have g34 := sT.trans g4
    have hl4 := g34 _ _ hl3
    have hxs4 := pr_imp (fun _ _ h => LnV.tk (.of g34) h) hxs
    have hxl := pr_len hxs
    rw [List.length_take] at hxl
    have r4 : LnV H4 v ln := r4
    obtain ⟨t, v1, v2, rfl, ht, _⟩ := id r4
    refine ⟨_, rfl, rfl, _, rfl, iteF ?_⟩
    refine ⟨_, rfl, l, xs, rfl, .inr (.of hl4), _, rfl, szl (by rw [List.length_append]; simp; omega), fun wl nwl => ?_⟩
    have s5 := same_new nwl (.lst (xs ++ [V.ref t]))
    refine ⟨wl, xs ++ [V.ref t], ls.take i, ln, D, rfl, .of upd_same, pr_imp (fun _ _ h => LnV.tk (.of s5) h) (pr_snoc r4 hxs4), ?_, fun H6 g6 => ⟨_, rfl, ?_⟩⟩
    · rw [← etk]
      exact W.sub (List.take_sublist _ _)
    rw [hmay]
    refine iteF ?_
    refine next_in ?_
    refine nx_in ?_
    have g56 := s5.trans g6
    have hl6 := g56 _ _ hl4
    refine ⟨_, rfl, .inl ⟨rfl, _, .of hl6⟩, _, rfl, l, xs, _, rfl, rfl, hl6, szt (by omega), ?_⟩
    refine ⟨_, _, _, xs ++ [V.ref t], rfl, ?_, upd_same, ?_⟩
    · exact (g3.trans (.of (g34.trans g56))).put (by simp)
    · rw [etk]
      exact pr_imp (fun _ _ h => LnV.tk ((TK.of g56).trans (tk_lst hl6)) h) (pr_snoc r4 hxs4)
  · rintro σ H3 ⟨u2, u3, u4, xs, rfl, g3, hl3, hxs⟩
    rw [List.length_map, hll, List.take_length] at hxs
    have g03 : Same H H3 := Same.into g2 g3 nlH
    refine nx_in ?_
    refine seq_in ?_
    refine asg_in ?_
    have hxl := pr_len hxs
    refine ⟨_, rfl, l, rfl, ⟨_, .of hl3⟩, fun DD hDD => ?_⟩
    refine lc_coll (R := LtV) (walk_list (xs := xs)) (fun i => [(ls.getD i ([], [])).1]) hDD (fun H' g => .of (g _ _ hl3)) ?_ ?_
    · rintro i x H4 H5 hi c ⟨rfl, hx⟩ M hM
      obtain ⟨ln, hln, t3, w1, w2, rfl, ht3, hw1, _⟩ := pr_ix hxs hx
      refine ⟨rfl, yes_in ?_⟩
      refine ⟨_, rfl, t3, _, 0, _, rfl, rfl, .of (c.1 _ _ ht3), rfl, ?_⟩
      refine coll_app stab_lt hDD c (Same.refl _) (a := (ls.getD i ([], [])).1) ?_ ?_ hM
      · rw [List.getD_eq_getElem?_getD, hln]
        exact hw1.tk (.of c.1)
      · rw [fm_one, List.length_map, List.length_range]; omega
    rintro H4 ⟨g4, acc, hacc, hpa⟩
    rw [hxl, fm_getD (fun l => [l.1]) ([], []) ls, fm_one] at hpa
    refine g_set ?_
    refine nx_in ?_
    refine seq_in ?_
    have hl4 := g4 _ _ hl3
    have hxs4 := pr_imp (fun _ _ h => LnV.tk (.of g4) h) hxs
    refine ⟨_, rfl, l, ls, D, rfl, ⟨xs, .inl (.of hl4), hxs4⟩, W, fun v H5 g5 ⟨c5, e5, hc5⟩ => ?_⟩
    subst e5
    refine ⟨c5, rfl, ⟨_, .of hc5⟩, fun D2 hD2 => ?_⟩
    have hlm : (lotM (leftW ls)).length ≤ 100 := by
      unfold lotM
      refine Nat.le_trans (List.length_filter_le _ _) ?_
      unfold fullL
      rw [List.length_map, List.length_range]; exact Nat.le_refl _
    have hacc5 := g5 _ _ hacc
    have hpa5 := pr_imp (fun _ _ h => LtV.tk (.of g5) h) hpa
    have hdp : ∀ {H : Hp} {acc : List V} {ls : List TLn}, Paired (LtV H) acc (ls.map fun l => l.1) → DpAll K H acc ((ls.map fun l : TLn => some l.1).map resP) := fun {H acc ls} => by
      induction ls generalizing acc with
      | nil => intro h; cases h; exact .nil
      | cons l ls ih =>
        intro h
        cases h with
        | cons h t => exact .cons (lt_dp h) (ih t)
    refine lc_bools walk_tup (fun _ => true) hD2 (by rw [List.length_map]; omega) (fun H' g => .of (g _ _ hc5)) (fun i x H6 H7 hi g y Q4 N kk => ?_) fun H6 g6 h6 => ?_
    · obtain ⟨rfl, hx⟩ := y
      rw [List.length_map] at hi
      rw [List.getElem?_map, List.getElem?_eq_getElem hi] at hx
      cases hx
      refine ⟨rfl, ?_⟩
      refine yes_in ?_
      refine ⟨_, rfl, szl (by show 1 ≤ _; decide), fun tt ntt => ?_⟩
      have s8 := same_new ntt (.tup [.int (lotM (leftW ls))[i]])
      have g58 := g.trans s8
      refine ⟨_, rfl, lotP [(lotM (leftW ls))[i]], (ls.map fun l : TLn => some l.1).map resP, lt_dp ⟨tt, rfl, upd_same⟩, .lst (.of (g58 _ _ hacc5)) (hdp (pr_imp (fun _ _ h => LtV.tk (.of g58) h) hpa5)), lotP_shaped _, res_shaped _, ?_⟩
      have ea : (((ls.map fun l : TLn => some l.1).map resP).any fun z => PyData.eqv z (lotP [(lotM (leftW ls))[i]])) = true := by
        have hm := (lotM_mem fun x hx => W.dr x (W.lD x hx)).mp (List.getElem_mem hi)
        rw [← Z.alone _ hm, List.any_map, List.any_map]
        congr 1
        funext l
        exact lotP_eqv _ _
      rw [ea]
      exact kk _ s8
    refine ⟨D2, _, rfl, .of h6, _, rfl, ?_⟩
    rw [all_id_map, show (List.range ((lotM (leftW ls)).map V.int).length).all (fun _ => true) = true by simp]
    refine iteF ?_
    refine next_in ?_
    refine nx_in ?_
    refine ret_in ?_
    have g36 := (g4.trans g5).trans g6
    refine ⟨_, rfl, l, xs, rfl, .inl ⟨.of (g36 _ _ hl3), fun t nt => ?_⟩⟩
    have s7 := same_new nt (.tup xs)
    exact k t xs _ ((g03.trans g36).trans s7) upd_same (pr_imp (fun _ _ h => LnV.tk (.of (g36.trans s7)) h) hxs)
end
end Fp
/-! greatest lots: the mathematics -/
namespace Fp
open PySem PySem.Spec PyProof.Rows L2
abbrev subL (l m : List Int) : Prop := ∀ x ∈ l, x ∈ m
theorem up_eq {l m : List Int} (hl : l.Pairwise (· < ·)) (hm : m.Pairwise (· < ·)) (s : subL l m) (h : m.length ≤ l.length) : l = m :=
  srt_eq hl hm fun x => ⟨s x, sub_eq (srt_nodup hl) s h x⟩
theorem up_less {l m : List Int} (hl : l.Pairwise (· < ·)) (hm : m.Pairwise (· < ·)) (s : subL l m) (h : m ≠ l) : l.length < m.length := by
  by_cases c : m.length ≤ l.length
  · exact absurd (up_eq hl hm s c).symm h
  · omega
def MaxIn (L : List (List Int)) (l : List Int) : Prop := l ∈ L ∧ ∀ m ∈ L, subL l m → m = l
theorem max_over {L : List (List Int)} (hs : ∀ l ∈ L, l.Pairwise (· < ·)) {B : Nat} (hB : ∀ l ∈ L, l.length ≤ B) : ∀ (n : Nat) (l : List Int), l ∈ L → B - l.length ≤ n → ∃ k, MaxIn L k ∧ subL l k := by
  intro n
  induction n with
  | zero =>
    intro l hl hn
    refine ⟨l, ⟨hl, fun m hm s => Classical.byContradiction fun c => ?_⟩, fun x h => h⟩
    have := up_less (hs l hl) (hs m hm) s c
    have := hB m hm
    omega
  | succ n ih =>
    intro l hl hn
    by_cases c : MaxIn L l
    · exact ⟨l, c, fun x h => h⟩
    · have : ∃ m ∈ L, subL l m ∧ m ≠ l := Classical.byContradiction fun d => c ⟨hl, fun m hm s => Classical.byContradiction fun e => d ⟨m, hm, s, e⟩⟩
      obtain ⟨m, hm, s, e⟩ := this
      have := up_less (hs l hl) (hs m hm) s e
      obtain ⟨k, hk, sk⟩ := ih m hm (by omega)
      exact ⟨k, hk, fun x hx => sk x (s x hx)⟩
theorem max_over' {L : List (List Int)} (hs : ∀ l ∈ L, l.Pairwise (· < ·) ∧ l.length ≤ 100) {l : List Int} (hl : l ∈ L) : ∃ k, MaxIn L k ∧ subL l k :=
  max_over (fun l h => (hs l h).1) (B := 100) (fun l h => (hs l h).2) _ l hl (Nat.le_refl _)
theorem max_step {L : List (List Int)} {w : List Int} (hs : ∀ l ∈ L, l.Pairwise (· < ·) ∧ w.length ≤ l.length) (hw : w.Pairwise (· < ·)) (hn : w ∉ L) (l : List Int) :
    MaxIn (L ++ [w]) l ↔ MaxIn L l ∨ (l = w ∧ ¬ ∃ m ∈ L, subL w m) := by
  have old : ∀ l ∈ L, ¬ subL l w := fun l hl s => by
    have := up_eq (hs l hl).1 hw s (hs l hl).2
    exact hn (this ▸ hl)
  constructor
  · rintro ⟨hl, hm⟩
    rcases List.mem_append.mp hl with h | h
    · exact .inl ⟨h, fun m hm' s => hm m (List.mem_append_left _ hm') s⟩
    · have e := List.mem_singleton.mp h
      subst e
      refine .inr ⟨rfl, fun ⟨m, hm', s⟩ => ?_⟩
      have := hm m (List.mem_append_left _ hm') s
      exact hn (this ▸ hm')
  · rintro (⟨hl, hm⟩ | ⟨rfl, hno⟩)
    · refine ⟨List.mem_append_left _ hl, fun m hm' s => ?_⟩
      rcases List.mem_append.mp hm' with h | h
      · exact hm m h s
      · rw [List.mem_singleton.mp h] at s
        exact absurd s (old l hl)
    · refine ⟨List.mem_append_right _ (List.mem_singleton.mpr rfl), fun m hm' s => ?_⟩
      rcases List.mem_append.mp hm' with h | h
      · exact absurd ⟨m, h, s⟩ hno
      · exact List.mem_singleton.mp h
theorem max_congr {L M : List (List Int)} (h : ∀ l, l ∈ L ↔ l ∈ M) (l : List Int) : MaxIn L l ↔ MaxIn M l := by
  unfold MaxIn
  rw [h l]
  exact ⟨fun ⟨a, b⟩ => ⟨a, fun m hm => b m ((h m).mpr hm)⟩, fun ⟨a, b⟩ => ⟨a, fun m hm => b m ((h m).mp hm)⟩⟩
theorem lex_tot : ∀ {a b : List Int}, HT.lexLt a b = false → HT.lexLt b a = false → a = b
  | [], [], _, _ => rfl
  | [], b :: m, h, _ => by cases h
  | a :: l, [], _, h => by cases h
  | a :: l, b :: m, h1, h2 => by
    rw [HT.lexLt_cons] at h1 h2
    by_cases e : a = b
    · subst e
      rw [if_pos rfl] at h1 h2
      rw [lex_tot h1 h2]
    · rw [if_neg e] at h1
      rw [if_neg (Ne.symm e)] at h2
      have := of_decide_eq_false h1
      have := of_decide_eq_false h2
      omega
def SrtL (l : List (List Int)) : Prop := l.Pairwise fun a b => HT.lexLt b a = false
theorem srtL_uniq : ∀ {l m : List (List Int)}, SrtL l → SrtL m → l.Nodup → m.Nodup → (∀ x, x ∈ l ↔ x ∈ m) → l = m
  | [], [], _, _, _, _, _ => rfl
  | [], b :: m, _, _, _, _, h => absurd ((h b).mpr List.mem_cons_self) (by simp)
  | a :: l, [], _, _, _, _, h => absurd ((h a).mp List.mem_cons_self) (by simp)
  | a :: l, b :: m, hl, hm, nl, nm, h => by
    obtain ⟨l1, l2⟩ := List.pairwise_cons.mp hl
    obtain ⟨m1, m2⟩ := List.pairwise_cons.mp hm
    obtain ⟨n1, n2⟩ := List.nodup_cons.mp nl
    obtain ⟨k1, k2⟩ := List.nodup_cons.mp nm
    have e : a = b := by
      rcases List.mem_cons.mp ((h a).mp List.mem_cons_self) with z | z
      · exact z
      · rcases List.mem_cons.mp ((h b).mpr List.mem_cons_self) with y | y
        · exact y.symm
        · exact lex_tot (m1 a z) (l1 b y)
    subst e
    rw [srtL_uniq l2 m2 n2 k2 fun x => ⟨fun hx => ?_, fun hx => ?_⟩]
    · rcases List.mem_cons.mp ((h x).mp (List.mem_cons_of_mem _ hx)) with z | z
      · exact absurd (z ▸ hx) n1
      · exact z
    · rcases List.mem_cons.mp ((h x).mpr (List.mem_cons_of_mem _ hx)) with z | z
      · exact absurd (z ▸ hx) k1
      · exact z
/-- these are the greatest of the lots, in their order -/
structure Great (lots G : List (List Int)) : Prop where
  srt : SrtL G
  nd : G.Nodup
  mem : ∀ l, l ∈ G ↔ MaxIn lots l
theorem Great.uniq {lots lots2 G G2 : List (List Int)} (h : Great lots G) (g : Great lots2 G2) (e : ∀ l, MaxIn lots l ↔ MaxIn lots2 l) : G = G2 :=
  srtL_uniq h.srt g.srt h.nd g.nd fun x => (h.mem x).trans ((e x).trans (g.mem x).symm)
theorem Great.has {lots G : List (List Int)} (h : Great lots G) (hs : ∀ l ∈ lots, l.Pairwise (· < ·) ∧ l.length ≤ 100) (s : List Int) : (∃ e ∈ G, subL s e) ↔ ∃ e ∈ lots, subL s e := by
  constructor
  · rintro ⟨e, he, k⟩
    exact ⟨e, ((h.mem e).mp he).1, k⟩
  · rintro ⟨e, he, k⟩
    obtain ⟨m, hm, sm⟩ := max_over' hs he
    exact ⟨m, (h.mem m).mpr hm, fun x hx => sm x (k x hx)⟩
/-- the lot that stands there -/
def lotK (H : Hp) : V → List Int
  | .ref t => match H t with
    | some (.tup ys) => ys.map fun v : V => match v with
      | .int i => i
      | _ => 0
    | _ => []
  | _ => []
theorem lotK_eq {H : Hp} {v : V} {l : List Int} (h : LtV H v l) : lotK H v = l := by
  obtain ⟨c, rfl, h⟩ := h
  unfold lotK
  simp only [h, List.map_map]
  exact List.map_id l
theorem lots_K {H : Hp} : ∀ {xs : List V} {ls : List (List Int)}, Paired (LtV H) xs ls → ls = xs.map (lotK H) ∧ ∀ x ∈ xs, LtV H x (lotK H x)
  | _, _, .nil => ⟨rfl, fun x h => nomatch h⟩
  | _, _, .cons h t => by
    obtain ⟨e, g⟩ := lots_K t
    have ek := lotK_eq h
    refine ⟨by rw [List.map_cons, ek, ← e], fun x hx => ?_⟩
    rcases List.mem_cons.mp hx with z | z
    · rw [z, ek]; exact h
    · exact g x z
theorem K_lots {H : Hp} : ∀ {xs : List V}, (∀ x ∈ xs, LtV H x (lotK H x)) → Paired (LtV H) xs (xs.map (lotK H))
  | [], _ => .nil
  | x :: xs, h => .cons (h x List.mem_cons_self) (K_lots fun y hy => h y (List.mem_cons_of_mem _ hy))
end Fp
namespace Fp
open PySem PySem.Spec PyProof.Rows L2
def lenK (H : Hp) (v : V) : Int := ((lotK H v).length : Nat)
def spGreat (K : PySem.W.Frag) : Sp := fun vs H Q _ => ∃ (a : Addr) (ys : List V) (lots : List (List Int)), vs = [.ref a] ∧ SqL K H a ys ∧ Paired (LtV H) ys lots ∧ lots.length < 64 ∧ (∀ l ∈ lots, l ≠ [] ∧ l.Pairwise (· < ·) ∧ l.length ≤ 100) ∧
  ∀ t zs G H', Same H H' → H' t = some (.tup zs) → Paired (LtV H') zs G → Great lots G → Q (.ref t) H'
theorem lots_ks {H : Hp} : ∀ {ys : List V} {lots : List (List Int)}, Paired (LtV H) ys lots → ∃ ks : List (Addr × List Int), ys = ks.map (fun p => V.ref p.1) ∧ lots = ks.map (·.2) ∧ ∀ p ∈ ks, H p.1 = some (.tup (p.2.map V.int))
  | _, _, .nil => ⟨[], rfl, rfl, fun p h => nomatch h⟩
  | _, _, .cons (b := l) ⟨c, e, h⟩ t => by
    subst e
    obtain ⟨ks, e1, e2, e3⟩ := lots_ks t
    refine ⟨(c, l) :: ks, by rw [e1]; rfl, by rw [e2]; rfl, fun p hp => ?_⟩
    rcases List.mem_cons.mp hp with z | z
    · rw [z]; exact h
    · exact e3 p z
theorem any_within {l : List Int} {Kp : List (List Int)} : ((List.range Kp.length).map fun j => withinB l (Kp.getD j [])).any id = decide (∃ m ∈ Kp, subL l m) := by
  rw [Bool.eq_iff_iff, List.any_eq_true, decide_eq_true_iff]
  constructor
  · rintro ⟨b, hb, e⟩
    obtain ⟨j, hj, rfl⟩ := List.mem_map.mp hb
    have hj := List.mem_range.mp hj
    have e : withinB l (Kp.getD j []) = true := e
    rw [List.getD_eq_getElem?_getD, List.getElem?_eq_getElem hj] at e
    refine ⟨_, List.getElem_mem hj, fun x hx => ?_⟩
    unfold withinB at e
    exact of_decide_eq_true (List.all_eq_true.mp e x hx)
  · rintro ⟨m, hm, s⟩
    obtain ⟨j, hj, rfl⟩ := List.mem_iff_getElem.mp hm
    refine ⟨_, List.mem_map.mpr ⟨j, List.mem_range.mpr hj, rfl⟩, ?_⟩
    show withinB l (Kp.getD j []) = true
    rw [List.getD_eq_getElem?_getD, List.getElem?_eq_getElem hj]
    unfold withinB
    exact List.all_eq_true.mpr fun x hx => decide_eq_true (s x hx)
section
variable {P : Program} {w : World} {K : PySem.W.Frag} {mg : Str → Option Value} {base : Heap} {f : Addr} {fd : FuncData} {C : Addr}
abbrev s_greatest_lots : Stmt := top 15
theorem sc_greatest_lots : FnScope ["lots", "unlike", "kept", "lot", "other"] ["lots"] (defScope s_greatest_lots) := ⟨rfl, rfl, rfl, by decide +kernel, rfl, by decide +kernel, by decide +kernel⟩
theorem ok_greatest_lots (F : Fun K "greatest_lots" "greatest_lots" s_greatest_lots f fd) (T : RTx mg) (G_lies_in : Fd P w K mg base CX0 "lies_in" 1 ["lot", "other"] spLiesD) : FnOk P w K mg base CX0 2 f fd ["lots"] (spGreat K) := by
  refine F.ok sc_greatest_lots (fun vs H Q E h => ?_) (fun cdv A outer s H vs Q E hr h => ?_)
  · obtain ⟨a, ys, lots, rfl, _⟩ := h
    rfl
  obtain ⟨a, ys, lots, rfl, ha, hp, h64, hok, k⟩ := h
  refine ⟨_, (pss_cons (ps_set (i := 1) sc_greatest_lots.nd rfl (Or.inl rfl) (pe_callB (cr_sortedSL rfl) rfl T.sorted (by decide +kernel) (pa_cons (pe_callTy (cr_setOfT rfl (u64 hr)) rfl T.set (by decide +kernel) (pa_cons (pv 0) pa_nil)) pa_nil)))
  (pss_cons (ps_set (i := 2) sc_greatest_lots.nd rfl (Or.inl rfl) (pe_lst pa_nil))
  (pss_cons (ps_for PassesOwn.never rfl (pi_list (pe_sortedLenR (u64 hr) rfl T.sorted rfl T.len (pa_cons (pv 1) pa_nil))) (pg_name (i := 3) sc_greatest_lots.nd rfl (Or.inr rfl)) (pss_one (ps_if (pt_not (pt_val (pe_callB (cr_any rfl) rfl T.any (by decide +kernel) (pa_cons (pe_lc (own := [("other", 4)]) (g := (gName 4)) (tt := tYes) rfl sc_greatest_lots.nd (pi_list (pv 2)) (blkOk_by (own := [("other", 4)]) (N := ["lots", "unlike", "kept", "lot", "other"]) (sc := defScope s_greatest_lots) (by decide +kernel)) (fun _ _ _ _ _ => (pg_name (i := 4) sc_greatest_lots.nd rfl (Or.inl rfl))) (fun _ _ _ _ _ => pts_nil) (fun _ _ _ _ _ => (pe_fd G_lies_in (hr.mono (by first | decide | omega)) rfl (pa_cons (pv 3) (pa_cons (pv 4) pa_nil))))) pa_nil)))) (pss_one (ps_expr (pe_bm PySem.F.plainAttrs_list PySem.F.slot_list_append PySem.F.type_list_append mt_append (pv 2) (pa_cons (pv 3) pa_nil)))) pss_nil)))
  (pss_one (ps_ret (pe_callTy call_tuple_of rfl T.tuple (by decide +kernel) (pa_cons (pe_callB cr_sortedLO rfl T.sorted (by decide +kernel) (pa_cons (pv 2) pa_nil)) pa_nil))))))), ?_⟩
  refine seq_in ?_
  refine asg_in ?_
  obtain ⟨ks, rfl, rfl, hks⟩ := lots_ks hp
  rw [List.length_map] at h64
  refine ⟨_, rfl, a, ks, rfl, ha, fun p hp => .of (hks p hp), h64, fun sa L nsa hL1 hL2 => ?_⟩
  have s1 : Same H (upd H sa (SetTO P w sa L)) := same_new nsa (SetTO P w sa L)
  refine ⟨sa, L, rfl, upd_same, fun p hp => .of (s1 _ _ (hks p (hL1 p hp))), fun p hp => (hok _ (List.mem_map.mpr ⟨p, hL1 p hp, rfl⟩)).1, fun M u pm nd few pw nu => ?_⟩
  have s2 : Same (upd H sa (SetTO P w sa L)) (upd (upd H sa (SetTO P w sa L)) u (.lst (M.map fun q => V.ref q.1))) := by
    have nu' : upd H sa (SetTO P w sa L) u = none := nu
    exact same_new nu' _
  have g2 : Same H (upd (upd H sa (SetTO P w sa L)) u (.lst (M.map fun q => V.ref q.1))) := s1.trans s2
  clear nu
  have hM : ∀ p ∈ M, p ∈ ks := fun p hp => hL1 p (pm.mem_iff.mp hp)
  have hMl : ∀ l, l ∈ M.map (·.2) ↔ l ∈ ks.map (·.2) := fun l => by
    constructor
    · intro h
      obtain ⟨p, hp, rfl⟩ := List.mem_map.mp h
      exact List.mem_map.mpr ⟨p, hM p hp, rfl⟩
    · intro h
      obtain ⟨p, hp, rfl⟩ := List.mem_map.mp h
      exact ((pm.map (·.2)).mem_iff).mpr (hL2 p hp)
  have hu2 : upd (upd H sa (SetTO P w sa L)) u (.lst (M.map fun q => V.ref q.1)) u = some (.lst (M.map fun q => V.ref q.1)) := upd_same
  refine g_set ?_
  refine nx_in ?_
  refine seq_in ?_
  change tAsg _ _ _ _ (upd (upd H sa (SetTO P w sa L)) u (.lst (M.map fun q => V.ref q.1)))
  clear s2
  generalize upd (upd H sa (SetTO P w sa L)) u (.lst (M.map fun q => V.ref q.1)) = H2 at g2 hu2 ⊢
  refine asg_in ?_
  refine ⟨szl (by show 0 ≤ _; decide), fun kp nkp => ?_⟩
  have s3 := same_new nkp (.lst [])
  have g3 := g2.trans s3
  have hkp3 : upd H2 kp (.lst []) kp = some (.lst []) := upd_same
  have hu3 := s3 _ _ hu2
  have nkpH : H kp = none := Same.gone g2 nkp
  generalize upd H2 kp (.lst []) = H3 at s3 g3 hkp3 hu3 ⊢
  have ht3 : ∀ p ∈ M, LtV H3 (.ref p.1) p.2 := fun p hp => ⟨p.1, rfl, g3 _ _ (hks p (hM p hp))⟩
  refine g_set ?_
  refine nx_in ?_
  refine seq_in ?_
  refine ⟨_, rfl, u, M.map fun q => V.ref q.1, lenK H3, rfl, .of hu3, fun x hx => ?_, fun q nq => ⟨q, rfl, ⟨_, .of upd_same⟩, ?_⟩⟩
  · obtain ⟨p, hp, rfl⟩ := List.mem_map.mp hx
    obtain ⟨c, e, h⟩ := ht3 p hp
    cases e
    refine ⟨_, _, rfl, .of h, ?_⟩
    unfold lenK
    rw [lotK_eq (ht3 p hp), List.length_map]
  have hperm : ((M.map fun q => V.ref q.1).mergeSort (lenLe true (lenK H3))).Perm (M.map fun q => V.ref q.1) := List.mergeSort_perm _ _
  have hsrt : ((M.map fun q => V.ref q.1).mergeSort (lenLe true (lenK H3))).Pairwise fun a b => lenLe true (lenK H3) a b = true := by
    refine List.pairwise_mergeSort (fun a b c h1 h2 => ?_) (fun a b => ?_) _
    · have h1 := of_decide_eq_true h1
      have h2 := of_decide_eq_true h2
      exact decide_eq_true (by omega)
    · show (decide _ || decide _) = true
      rw [Bool.or_eq_true, decide_eq_true_iff, decide_eq_true_iff]
      omega
  generalize (M.map fun q => V.ref q.1).mergeSort (lenLe true (lenK H3)) = ws at hperm hsrt nq ⊢
  have hw : ∀ x ∈ ws, LtV H3 x (lotK H3 x) ∧ lotK H3 x ∈ ks.map (·.2) := fun x hx => by
    obtain ⟨p, hp, rfl⟩ := List.mem_map.mp (hperm.mem_iff.mp hx)
    rw [lotK_eq (ht3 p hp)]
    exact ⟨ht3 p hp, List.mem_map.mpr ⟨p, hM p hp, rfl⟩⟩
  have hwM : (ws.map (lotK H3)).Perm (M.map (·.2)) := by
    have := hperm.map (lotK H3)
    rw [List.map_map] at this
    refine this.trans (List.Perm.of_eq (List.map_congr_left fun p hp => lotK_eq (ht3 p hp)))
  have hwn : (ws.map (lotK H3)).Nodup := hwM.nodup_iff.mpr nd
  have hwl : ws.length < 64 := by rw [hperm.length_eq, List.length_map]; exact few
  have s4 := same_new nq (.lst ws)
  have hq4 : upd H3 q (.lst ws) q = some (.lst ws) := upd_same
  have nqk : q ≠ kp := Ne.symm (ne_of_none hkp3 nq)
  have hkp4 := s4 _ _ hkp3
  generalize upd H3 q (.lst ws) = H4 at s4 hq4 hkp4 ⊢
  refine for_list (K := K) (a := q) (xs := ws) (fun i σ H' => ∃ u3 xs, σ = [some (.ref a), some (.ref u), some (.ref kp), u3, none] ∧ But [kp] H4 H' ∧ TK H3 H' ∧ H' kp = some (.lst xs) ∧ (∀ x ∈ xs, x ∈ ws) ∧ (xs.map (lotK H3)).Nodup ∧ xs.length ≤ i ∧ ∀ l, l ∈ xs.map (lotK H3) ↔ MaxIn ((ws.map (lotK H3)).take i) l) ?_ ?_ ?_ ?_
  · exact ⟨_, [], rfl, But.refl _ _, TK.of s4, hkp4, (fun x h => by cases h), List.nodup_nil, Nat.le_refl _, fun l => ⟨(fun h => by cases h), (fun h => by cases h.1)⟩⟩
  · rintro i σ H' _ ⟨_, _, rfl, g, _⟩
    exact .of (g _ _ (by simpa using nqk) hq4)
  · rintro i x σ H5 hx ⟨u3, xs, rfl, g5, k5, hkp5, hxs, hnd, hxl, hmax⟩
    have hxm := List.mem_of_getElem? hx
    have hil := get_lt hx
    obtain ⟨hxt, hxk⟩ := hw x hxm
    obtain ⟨c, rfl, hc⟩ := hxt.tk k5
    refine g_set ?_
    refine ⟨_, rfl, kp, rfl, ⟨_, .of hkp5⟩, fun D hD => ?_⟩
    refine lc_bools walk_list (fun j => withinB (lotK H3 (.ref c)) ((xs.map (lotK H3)).getD j [])) hD (by omega) (fun H' g => .of (g _ _ hkp5)) (fun j y H6 H7 hj g yy Q4 N kk => ?_) fun H6 g6 h6 => ?_
    · obtain ⟨rfl, hy⟩ := yy
      obtain ⟨d, rfl, hd⟩ := ((hw y (hxs y (List.mem_of_getElem? hy))).1).tk k5
      refine ⟨rfl, yes_in ?_⟩
      refine ⟨_, rfl, _, rfl, c, d, _, _, rfl, g _ _ hc, g _ _ hd, ?_, fun H8 g8 => ?_⟩
      · have := (hok _ hxk).2.2
        omega
      · have e : (xs.map (lotK H3)).getD j [] = lotK H3 (.ref d) := by rw [List.getD_eq_getElem?_getD, List.getElem?_map, hy]; rfl
        rw [e] at kk
        exact kk _ g8
    refine ⟨D, _, rfl, .of h6, _, rfl, ?_⟩
    have hxl2 : xs.length = (xs.map (lotK H3)).length := (List.length_map _).symm
    rw [hxl2, any_within]
    have etk : (ws.map (lotK H3)).take (i + 1) = (ws.map (lotK H3)).take i ++ [lotK H3 (.ref c)] := by
      rw [List.take_add_one, List.getElem?_map, hx]; rfl
    have hTs : ∀ l ∈ (ws.map (lotK H3)).take i, l.Pairwise (· < ·) ∧ l.length ≤ 100 ∧ (lotK H3 (.ref c)).length ≤ l.length := fun l hl => by
      obtain ⟨j, hj⟩ := List.mem_iff_getElem?.mp hl
      rw [List.getElem?_take] at hj
      by_cases cj : j < i
      · rw [if_pos cj, List.getElem?_map] at hj
        obtain ⟨y, hy, rfl⟩ := Option.map_eq_some_iff.mp hj
        have hym := hw y (List.mem_of_getElem? hy)
        have ho := hok _ hym.2
        refine ⟨ho.2.1, ho.2.2, ?_⟩
        have hyl := get_lt hy
        have := List.pairwise_iff_getElem.mp hsrt j i hyl hil cj
        have e1 := (List.getElem?_eq_some_iff.mp hy).2
        have e2 := (List.getElem?_eq_some_iff.mp hx).2
        rw [e1, e2] at this
        have := of_decide_eq_true this
        unfold lenK at this
        omega
      · rw [if_neg cj] at hj; cases hj
    have hnT : lotK H3 (.ref c) ∉ (ws.map (lotK H3)).take i := fun h => by
      have hn2 := hwn.sublist (List.take_sublist (i + 1) (ws.map (lotK H3)))
      rw [etk] at hn2
      exact (List.nodup_append.mp hn2).2.2 _ h _ (by simp) rfl
    have stp := max_step (fun l hl => ⟨(hTs l hl).1, (hTs l hl).2.2⟩) (hok _ hxk).2.1 hnT
    have hov : (∃ m ∈ xs.map (lotK H3), subL (lotK H3 (.ref c)) m) ↔ ∃ m ∈ (ws.map (lotK H3)).take i, subL (lotK H3 (.ref c)) m := by
      constructor
      · rintro ⟨m, hm, s⟩
        exact ⟨m, ((hmax m).mp hm).1, s⟩
      · rintro ⟨m, hm, s⟩
        obtain ⟨n, hn, sn⟩ := max_over' (fun l hl => ⟨(hTs l hl).1, (hTs l hl).2.1⟩) hm
        exact ⟨n, (hmax n).mpr hn, fun x hx => sn x (s x hx)⟩
    have hkp6 := g6 _ _ hkp5
    by_cases cc : ∃ m ∈ xs.map (lotK H3), subL (lotK H3 (.ref c)) m
    · rw [decide_eq_true cc]
      refine iteF ?_
      refine next_in ?_
      refine ⟨_, xs, rfl, g5.trans (.of g6), k5.trans (.of g6), hkp6, hxs, hnd, by omega, fun l => ?_⟩
      rw [etk, stp l, hmax l]
      exact ⟨.inl, fun h => h.elim id fun h => absurd (hov.mp cc) h.2⟩
    · rw [decide_eq_false cc]
      refine iteT ?_
      refine ⟨_, rfl, .inl ⟨rfl, _, .of hkp6⟩, _, rfl, kp, xs, _, rfl, rfl, hkp6, szt (by omega), ?_⟩
      refine ⟨_, xs ++ [.ref c], rfl, (g5.trans (.of g6)).put (by simp), (k5.trans (.of g6)).trans (tk_lst hkp6), upd_same, fun y hy => ?_, ?_, by rw [List.length_append]; simp; omega, fun l => ?_⟩
      · rcases List.mem_append.mp hy with z | z
        · exact hxs y z
        · rw [List.mem_singleton.mp z]; exact hxm
      · rw [List.map_append]
        refine List.nodup_append.mpr ⟨hnd, by simp, fun l hl m hm e => ?_⟩
        have := ((hmax l).mp hl).1
        rw [e, List.mem_singleton.mp hm] at this
        exact hnT this
      · rw [etk, stp l, List.map_append, List.mem_append, hmax l]
        constructor
        · rintro (h | h)
          · exact .inl h
          · exact .inr ⟨List.mem_singleton.mp h, fun z => cc (hov.mpr z)⟩
        · rintro (h | h)
          · exact .inl h
          · exact .inr (List.mem_singleton.mpr h.1)
  · rintro σ H5 ⟨u3, xs, rfl, g5, k5, hkp5, hxs, hnd, hxl, hmax⟩
    rw [show ws.length = (ws.map (lotK H3)).length from (List.length_map _).symm, List.take_length] at hmax
    refine nx_in ?_
    refine ret_in ?_
    have hx5 : ∀ x ∈ xs, LtV H5 x (lotK H3 x) ∧ lotK H3 x ≠ [] := fun x hx => ⟨((hw x (hxs x hx)).1).tk k5, (hok _ (hw x (hxs x hx)).2).1⟩
    refine ⟨_, rfl, kp, xs, lotK H3, rfl, .of hkp5, fun x hx => ?_, fun ys p hs hb np => ⟨p, ys, rfl, .inl ⟨.of upd_same, fun t nt => ?_⟩⟩⟩
    · obtain ⟨⟨c, e, h⟩, ne⟩ := hx5 x hx
      exact ⟨c, e, h, ne⟩
    have s6 := same_new np (.lst ys)
    have s7 := same_new nt (.tup ys)
    have hys : ∀ x ∈ ys, LtV H5 x (lotK H3 x) := fun x hx => (hx5 x (hb.perm.mem_iff.mp hx)).1
    have hG : Paired (LtV (upd (upd H5 p (.lst ys)) t (.tup ys))) ys (ys.map (lotK H3)) := by
      have : ∀ zs : List V, (∀ x ∈ zs, LtV H5 x (lotK H3 x)) → Paired (LtV (upd (upd H5 p (.lst ys)) t (.tup ys))) zs (zs.map (lotK H3)) := fun zs => by
        induction zs with
        | nil => exact fun _ => .nil
        | cons z zs ih => exact fun h => .cons ((h z List.mem_cons_self).tk (.of (s6.trans s7))) (ih fun y hy => h y (List.mem_cons_of_mem _ hy))
      exact this ys hys
    refine k t ys (ys.map (lotK H3)) _ ?_ upd_same hG ⟨?_, ?_, fun l => ?_⟩
    · exact (Same.into (g3.trans s4) g5 nkpH).trans (s6.trans s7)
    · exact List.pairwise_map.mpr hs
    · exact ((hb.perm.map (lotK H3)).nodup_iff).mpr hnd
    · rw [(hb.perm.map (lotK H3)).mem_iff, hmax l]
      exact max_congr (fun l => (hwM.mem_iff).trans (hMl l)) l
end
end Fp
namespace Fp
open PySem PySem.Spec PyProof.Rows L2
def tfl (z : Str) (a b c : V) : List (Str × V) := [("text", .str z), ("lines", a), ("words", b), ("spoken", c)]
structure TC (K : PySem.W.Frag) (C : Addr) : Prop where
  cl : Cls K C
  nT : NoAttr K C "text"
  nL : NoAttr K C "lines"
  nW : NoAttr K C "words"
  nS : NoAttr K C "spoken"
section
variable {z : Str} {a b c : V}
theorem t_text : (tfl z a b c).lookup ("text" : Str) = some (.str z) := by kernel_rfl
theorem t_lines : (tfl z a b c).lookup ("lines" : Str) = some a := by kernel_rfl
theorem t_words : (tfl z a b c).lookup ("words" : Str) = some b := by kernel_rfl
theorem t_spoken : (tfl z a b c).lookup ("spoken" : Str) = some c := by kernel_rfl
theorem t_all : putF "spoken" c (putF "words" b (putF "lines" a (putF "text" (.str z) []))) = tfl z a b c := by kernel_rfl
theorem tn_ends : (tfl z a b c).lookup ("ends" : Str) = none := by kernel_rfl
theorem tn_right : (tfl z a b c).lookup ("right" : Str) = none := by kernel_rfl
end
structure TkIn (C : Addr) (H : Hp) (d : Addr) (z : Str) (ls : List TLn) (dx tl : Addr) (ys : List V) (tw ts : V) : Prop where
  obj : H d = some (.ins C dx (tfl z (.ref tl) tw ts))
  own : H dx = some (.own d)
  lns : H tl = some (.tup ys)
  lnP : Paired (LnV H) ys ls
  wds : LtV H tw (lotM (leftW ls))
  spk : LtV H ts (lotM (spokW ls))
def TaskAt (C : Addr) (H : Hp) (d : Addr) (z : Str) (ls : List TLn) : Prop := ∃ dx tl ys tw ts, TkIn C H d z ls dx tl ys tw ts
theorem TaskAt.same {C : Addr} {H H' : Hp} {d : Addr} {z : Str} {ls : List TLn} (g : Same H H') : TaskAt C H d z ls → TaskAt C H' d z ls := fun ⟨dx, tl, ys, tw, ts, h⟩ =>
  ⟨dx, tl, ys, tw, ts, g _ _ h.obj, g _ _ h.own, g _ _ h.lns, pr_imp (fun _ _ h => LnV.tk (.of g) h) h.lnP, h.wds.tk (.of g), h.spk.tk (.of g)⟩
theorem TaskAt.but {C : Addr} {H H' : Hp} {d : Addr} {z : Str} {ls : List TLn} {S : List Addr} (g : But S H H') (hS : ∀ a ∈ S, ∃ xs, H a = some (.lst xs)) : TaskAt C H d z ls → TaskAt C H' d z ls := fun ⟨dx, tl, ys, tw, ts, h⟩ => by
  have k : TK H H' := TK.but g fun a ha => by obtain ⟨xs, e⟩ := hS a ha; rw [e]; exact fun z => z.elim
  have out : ∀ {b : Addr} {o : HO}, H b = some o → (∀ xs, o ≠ .lst xs) → H' b = some o := fun {b o} e n => g b o (fun hb => by
    obtain ⟨xs, q⟩ := hS b hb
    rw [e] at q
    cases q
    exact n xs rfl) e
  exact ⟨dx, tl, ys, tw, ts, out h.obj (fun _ z => by cases z), out h.own (fun _ z => by cases z), k.t h.lns, pr_imp (fun _ _ h => LnV.tk k h) h.lnP, h.wds.tk k, h.spk.tk k⟩
def lotsFor (ls : List TLn) (lot : List Int) : List (List Int) := (ls.filter fun ln => withinB ln.1 lot).flatMap (·.2)
/-- lines as they are told: lots of words -/
structure LsG (ls : List TLn) : Prop where
  few : ls.length ≤ 30
  left : ∀ ln ∈ ls, LotOk ln.1
  ends : ∀ ln ∈ ls, ∀ e ∈ ln.2, LotOk e
  all : (ls.flatMap (·.2)).length < 64
def spTInit (C : Addr) : Sp := fun vs H Q _ => ∃ (d dx : Addr) (z : Str) (ls : List TLn) (D : List Int), vs = [.ref d, .str z] ∧ TkOk z ls D ∧ H d = some (.ins C dx []) ∧ H dx = some (.own d) ∧ ∀ H', But [d] H H' → TaskAt C H' d z ls → Q .non H'
def spEnds (C : Addr) : Sp := fun vs H Q _ => ∃ (d : Addr) (v : V) (z : Str) (ls : List TLn) (lot : List Int), vs = [.ref d, v] ∧ TaskAt C H d z ls ∧ LsG ls ∧ LtV H v lot ∧ LotOk lot ∧ (∀ x ∈ lot, x ∈ lotM (leftW ls)) ∧
  ∀ t zs G H', Same H H' → H' t = some (.tup zs) → Paired (LtV H') zs G → Great (lotsFor ls lot) G → Q (.ref t) H'
def rightB (ls : List TLn) (lot said : List Int) : Bool := (lotsFor ls lot).any fun e => withinB said e
def spTRight (C : Addr) : Sp := fun vs H Q _ => ∃ (d : Addr) (v u : V) (z : Str) (ls : List TLn) (lot said : List Int), vs = [.ref d, v, u] ∧ TaskAt C H d z ls ∧ LsG ls ∧ LtV H v lot ∧ LotOk lot ∧ (∀ x ∈ lot, x ∈ lotM (leftW ls)) ∧ LtV H u said ∧ said.Pairwise (· < ·) ∧ (∀ x ∈ said, 0 ≤ x) ∧ said.length ≤ 100 ∧
  ∀ H', Same H H' → Q (.bl (rightB ls lot said)) H'
theorem lotB_ok {l : List Int} (h : l.Pairwise (· < ·)) (h0 : ∀ x ∈ l, 0 ≤ x) : lotB (lotD l) = true := by
  show ((l.map Dt.int).all Dt.wnn && adjLt ((l.map Dt.int).map Dt.toInt)) = true
  have e : (l.map Dt.int).map Dt.toInt = l := by rw [List.map_map]; exact List.map_id l
  rw [e, Bool.and_eq_true]
  refine ⟨List.all_eq_true.mpr fun d hd => ?_, adjLt_iff.mpr h⟩
  obtain ⟨i, hi, rfl⟩ := List.mem_map.mp hd
  exact decide_eq_true (h0 i hi)
section
variable {P : Program} {w : World} {K : PySem.W.Frag} {mg : Str → Option Value} {base : Heap} {f : Addr} {fd : FuncData} {C : Addr}
abbrev s_Task_init : Stmt := inClass (top 21) 0
theorem sc_Task_init : FnScope ["self", "text", "lines"] ["self", "text"] (defScope s_Task_init) := ⟨rfl, rfl, rfl, by decide +kernel, rfl, by decide +kernel, by decide +kernel⟩
theorem ok_Task_init (F : Fun K "__init__" "Task.__init__" s_Task_init f fd) (T : RTx mg) (hC : TC K C) (G_lines_in : Fd P w K mg base CX0 "lines_in" 5 ["text"] spLinesIn) (G_left_words : Fd P w K mg base CX0 "left_words" 2 ["lines"] (spLeft K)) (G_spoken_words : Fd P w K mg base CX0 "spoken_words" 2 ["lines"] (spSpok K)) : FnOk P w K mg base CX0 6 f fd ["self", "text"] (spTInit C) := by
  refine F.ok sc_Task_init (fun vs H Q E h => ?_) (fun cdv A outer s H vs Q E hr h => ?_)
  · obtain ⟨d, dx, z, ls, D, rfl, _⟩ := h
    rfl
  obtain ⟨d, dx, z, ls, D, rfl, Z, hd, hdx, k⟩ := h
  refine ⟨_, (pss_cons (ps_if (pt_not (pt_val (pe_callB call_isi rfl T.isinstance (by decide +kernel) (pa_cons (pv 1) (pa_cons (pe_bltn (v := .ty "str") rfl T.str boot_str rfl) pa_nil))))) (pss_one (ps_no)) pss_nil)
  (pss_cons (ps_set (i := 2) sc_Task_init.nd rfl (Or.inl rfl) (pe_fd G_lines_in (hr.mono (by first | decide | omega)) rfl (pa_cons (pv 1) pa_nil)))
  (pss_cons (ps_fld (pv 0) (pv 1) rfl)
  (pss_cons (ps_fld (pv 0) (pv 2) rfl)
  (pss_cons (ps_fld (pv 0) (pe_fd G_left_words (hr.mono (by first | decide | omega)) rfl (pa_cons (pv 2) pa_nil)) rfl)
  (pss_one (ps_fld (pv 0) (pe_fd G_spoken_words (hr.mono (by first | decide | omega)) rfl (pa_cons (pv 2) pa_nil)) rfl))))))), ?_⟩
  refine seq_in ?_
  refine ⟨_, rfl, _, _, _, _, true, rfl, .ty "str", .base (.str z), by first | rfl | decide +kernel | kernel_rfl, _, rfl, iteF ?_⟩
  refine next_in ?_
  refine nx_in ?_
  refine seq_in ?_
  refine asg_in ?_
  refine ⟨_, rfl, z, ls, D, rfl, Z, fun tl ys H1 g1 htl hys => ?_⟩
  refine g_set ?_
  refine nx_in ?_
  refine seq_in ?_
  have hd1 := g1 _ _ hd
  have hdx1 := g1 _ _ hdx
  have ndx : dx ≠ d := fun z => by rw [z, hd] at hdx; cases hdx
  refine ⟨_, rfl, _, rfl, d, C, dx, [], rfl, hd1, hC.cl, hC.nT, by decide, ?_⟩
  refine nx_in ?_
  refine seq_in ?_
  refine ⟨_, rfl, _, rfl, d, C, dx, _, rfl, upd_same, hC.cl, hC.nL, by show 1 < 1000; decide, ?_⟩
  refine nx_in ?_
  refine seq_in ?_
  have ins : ∀ {H : Hp} {o : HO} {fs gs : List (Str × V)}, H d = some (.ins C dx fs) → TK H (upd H d (.ins C dx gs)) := fun h => TK.put h fun z => z.elim
  have b1 : But [d] H1 (upd H1 d (.ins C dx (putF "text" (.str z) []))) := (But.refl _ _).put (by simp)
  have k1 : TK H1 (upd H1 d (.ins C dx (putF "text" (.str z) []))) := TK.put hd1 fun z => z.elim
  have b2 := b1.put (p := d) (o := .ins C dx (putF "lines" (.ref tl) (putF "text" (.str z) []))) (by simp)
  have k2 : TK H1 (upd (upd H1 d (.ins C dx (putF "text" (.str z) []))) d (.ins C dx (putF "lines" (.ref tl) (putF "text" (.str z) [])))) := k1.trans (TK.put upd_same fun z => z.elim)
  have hd2 : upd (upd H1 d (.ins C dx (putF "text" (.str z) []))) d (.ins C dx (putF "lines" (.ref tl) (putF "text" (.str z) []))) d = some (.ins C dx (putF "lines" (.ref tl) (putF "text" (.str z) []))) := upd_same
  generalize upd (upd H1 d (.ins C dx (putF "text" (.str z) []))) d (.ins C dx (putF "lines" (.ref tl) (putF "text" (.str z) []))) = H2 at b2 k2 hd2 ⊢
  have htl2 := k2.t htl
  have hys2 := pr_imp (fun _ _ h => LnV.tk k2 h) hys
  refine ⟨_, rfl, tl, ls, D, rfl, ⟨ys, .inr (.of htl2), hys2⟩, Z.W, fun v3 H3 g3 hv3 => ?_⟩
  refine ⟨_, rfl, d, C, dx, _, rfl, g3 _ _ hd2, hC.cl, hC.nW, by show 2 < 1000; decide, ?_⟩
  refine nx_in ?_
  have hd3 := g3 _ _ hd2
  have k4 : TK H3 (upd H3 d (.ins C dx (putF "words" v3 (putF "lines" (.ref tl) (putF "text" (.str z) []))))) := TK.put hd3 fun z => z.elim
  have b4 := (b2.trans (.of g3)).put (p := d) (o := .ins C dx (putF "words" v3 (putF "lines" (.ref tl) (putF "text" (.str z) [])))) (by simp)
  have hd4 : upd H3 d (.ins C dx (putF "words" v3 (putF "lines" (.ref tl) (putF "text" (.str z) [])))) d = some (.ins C dx (putF "words" v3 (putF "lines" (.ref tl) (putF "text" (.str z) [])))) := upd_same
  generalize upd H3 d (.ins C dx (putF "words" v3 (putF "lines" (.ref tl) (putF "text" (.str z) [])))) = H4 at k4 b4 hd4 ⊢
  have k24 := (TK.of g3).trans k4
  refine ⟨_, rfl, tl, ls, D, rfl, ⟨ys, .inr (.of (k24.t htl2)), pr_imp (fun _ _ h => LnV.tk k24 h) hys2⟩, Z.W, fun v5 H5 g5 hv5 => ?_⟩
  refine ⟨_, rfl, d, C, dx, _, rfl, g5 _ _ hd4, hC.cl, hC.nS, by show 3 < 1000; decide, ?_⟩
  rw [t_all]
  have k6 : TK H5 (upd H5 d (.ins C dx (tfl z (.ref tl) v3 v5))) := TK.put (g5 _ _ hd4) fun z => z.elim
  have kk := (k24.trans (.of g5)).trans k6
  refine k _ ((But.of g1).trans ((b4.trans (.of g5)).put (by simp))) ⟨dx, tl, ys, v3, v5, upd_same, ?_, kk.t htl2, pr_imp (fun _ _ h => LnV.tk kk h) hys2, hv3.tk ((k4.trans (.of g5)).trans k6), hv5.tk k6⟩
  rw [upd_ne ndx]
  exact g5 _ _ (b4 _ _ (by simpa using ndx) hdx1)
abbrev s_Task_ends : Stmt := inClass (top 21) 3
theorem sc_Task_ends : FnScope ["self", "lot", "left", "ends", "end"] ["self", "lot"] (defScope s_Task_ends) := ⟨rfl, rfl, rfl, by decide +kernel, rfl, by decide +kernel, by decide +kernel⟩
theorem ok_Task_ends (F : Fun K "ends" "Task.ends" s_Task_ends f fd) (T : RTx mg) (hC : TC K C) (G_is_lot : Fd P w K mg base CX0 "is_lot" 2 ["value"] spLotD) (G_lies_in : Fd P w K mg base CX0 "lies_in" 1 ["lot", "other"] spLiesD) (G_greatest_lots : Fd P w K mg base CX0 "greatest_lots" 2 ["lots"] (spGreat K)) : FnOk P w K mg base CX0 3 f fd ["self", "lot"] (spEnds C) := by
  refine F.ok sc_Task_ends (fun vs H Q E h => ?_) (fun cdv A outer s H vs Q E hr h => ?_)
  · obtain ⟨d, v, z, ls, lot, rfl, _⟩ := h
    rfl
  obtain ⟨d, v, z, ls, lot, rfl, hT, hG, hv, hlot, hin, k⟩ := h
  refine ⟨_, (pss_cons (ps_if (pt_not (pt_val (pe_fd G_is_lot (hr.mono (by first | decide | omega)) rfl (pa_cons (pv 1) pa_nil)))) (pss_one (ps_no)) pss_nil)
  (pss_cons (ps_if (PW.pt (pw_or (pt_not (pt_truth (pv 1) (by intro _; rfl))) (pw_or1 (pt_not (pt_val (pe_fd G_lies_in (hr.mono (by first | decide | omega)) rfl (pa_cons (pv 1) (pa_cons (pe_fld (pv 0) rfl) pa_nil)))))))) (pss_one (ps_no)) pss_nil)
  (pss_one (ps_ret (pe_fd G_greatest_lots (hr.mono (by first | decide | omega)) rfl (pa_cons (pe_lc2 (own := [("left", 2), ("ends", 3), ("end", 4)]) (vs1 := [4]) (g := (gTup K 2 (gCons (gName 2) (gCons (gName 3) gNil)))) (g1 := (gName 4)) (tt1 := tYes) rfl sc_Task_ends.nd (pi_tup (pe_fld (pv 0) rfl)) (blkOk_by (own := [("left", 2), ("ends", 3), ("end", 4)]) (N := ["self", "lot", "left", "ends", "end"]) (sc := defScope s_Task_ends) (by decide +kernel)) (by decide) (fun _ _ _ _ _ => (pg_tup rfl (pgs_cons (pg_name (i := 2) sc_Task_ends.nd rfl (Or.inl rfl)) (pgs_cons (pg_name (i := 3) sc_Task_ends.nd rfl (Or.inl rfl)) pgs_nil)))) (fun _ _ _ _ _ => (pts_one (pt_val (pe_fd G_lies_in (hr.mono (by first | decide | omega)) rfl (pa_cons (pv 2) (pa_cons (pv 1) pa_nil)))))) (fun _ _ _ _ _ => (pi_tupK' (pv 3))) (fun _ _ _ _ _ => (pg_name (i := 4) sc_Task_ends.nd rfl (Or.inl rfl))) (fun _ _ _ _ _ => pts_nil) (fun _ _ _ _ _ => (pv 4))) pa_nil)))))), ?_⟩
  refine seq_in ?_
  obtain ⟨c, rfl, hc⟩ := hv
  have dv : DV H (.ref c) (lotD lot) := .tup hc (dvs_ints _ _) (by rw [List.length_map]; have := hlot.few; omega)
  refine ⟨_, rfl, .ref c, lotD lot, rfl, dv, fun H1 g1 => ⟨_, rfl, ?_⟩⟩
  rw [lotB_ok hlot.up fun x hx => (hlot.rng x hx).1]
  refine iteF ?_
  refine next_in ?_
  refine nx_in ?_
  refine seq_in ?_
  have hc1 := g1 _ _ hc
  obtain ⟨dx, tl, ys, tw, ts, TI⟩ := hT.same g1
  obtain ⟨cw, rfl, hcw⟩ := TI.wds
  refine ⟨_, rfl, _, .inr (.inl ⟨_, .of hc1, rfl⟩), ?_⟩
  have hne : (lot.map V.int).isEmpty = false := by
    cases e : lot with
    | nil => exact absurd e hlot.ne
    | cons a b => rfl
  rw [hne]
  refine iteF ?_
  refine ⟨_, rfl, _, rfl, d, C, dx, _, _, rfl, TI.obj, hC.cl, hC.nW, t_words, c, cw, lot, lotM (leftW ls), rfl, hc1, hcw, by have := hlot.few; omega, fun H2 g2 => ⟨_, rfl, ?_⟩⟩
  have ew : withinB lot (lotM (leftW ls)) = true := List.all_eq_true.mpr fun x hx => decide_eq_true (hin x hx)
  rw [ew]
  refine iteF ?_
  refine next_in ?_
  refine nx_in ?_
  refine ret_in ?_
  have hc2 := g2 _ _ hc1
  have htl2 := g2 _ _ TI.lns
  have hys2 := pr_imp (fun _ _ h => LnV.tk (.of g2) h) TI.lnP
  have hyl := pr_len hys2
  refine ⟨_, rfl, d, C, dx, _, _, rfl, g2 _ _ TI.obj, hC.cl, hC.nL, t_lines, tl, rfl, ⟨_, .of htl2⟩, fun DD hDD => ?_⟩
  have hlen : ∀ i, i ≤ ls.length → ((List.range i).flatMap fun i => if withinB (ls.getD i ([], [])).1 lot = true then (ls.getD i ([], [])).2 else []).length ≤ 2000 := fun i hi => by
    have hf := hG.few
    refine Nat.le_trans (fm_len (B := 64) i fun j hj => ?_) (by omega)
    have hjl : j < ls.length := by omega
    have h1 : (ls.getD j ([], [])).2.length ≤ 64 := by
      rw [List.getD_eq_getElem?_getD, List.getElem?_eq_getElem hjl]
      have h2 : List.Sublist ((some ls[j]).getD ([], [])).2 (ls.flatMap (·.2)) := by
        have := fm_sub (f := fun ln : TLn => ln.2) (List.singleton_sublist.mpr (List.getElem_mem hjl))
        simpa using this
      have := h2.length_le
      have := hG.all
      omega
    split
    · exact h1
    · exact Nat.zero_le _
  refine lc_coll (R := LtV) (walk_tup (xs := ys)) (fun i => if withinB (ls.getD i ([], [])).1 lot = true then (ls.getD i ([], [])).2 else []) hDD (fun H' g => .of (g _ _ htl2)) ?_ ?_
  · rintro i x H3 H4 hi c3 ⟨rfl, hx⟩ M hM
    obtain ⟨ln, hln, t, v1, v2, rfl, ht, ⟨c1, rfl, hc1'⟩, te, yse, rfl, hte, hyse⟩ := pr_ix hys2 hx
    have g := c3.1
    have hlm := List.mem_of_getElem? hln
    have egd : ls.getD i ([], []) = ln := by rw [List.getD_eq_getElem?_getD, hln]; rfl
    rw [egd] at hM
    refine ⟨t, _, rfl, .of (g _ _ ht), rfl, _, _, rfl, _, _, rfl, rfl, rfl, ?_⟩
    refine ⟨_, rfl, _, rfl, c1, c, ln.1, lot, rfl, g _ _ hc1', g _ _ hc2, by have := (hG.left ln hlm).few; omega, fun H5 g5 => ⟨_, rfl, ?_⟩⟩
    have c5 := c3.on stab_lt g5
    refine ite2 (fun cc => ?_) (fun cc => ?_)
    · rw [if_pos cc] at hM
      refine ⟨_, rfl, te, rfl, ⟨_, .of (c5.1 _ _ hte)⟩, ?_⟩
      have hel := pr_len hyse
      refine turns_rel (R := LtV) (walk_tup (xs := yse)) (fun j => [ln.2.getD j []]) _ (fun H' g2 => .of (g2 _ _ hte)) ?_ (fun H' c' => hM H' ?_) c5
      · rintro j y H6 H7 hj c6 ⟨rfl, hy⟩ M2 hM2
        obtain ⟨e, he, hye⟩ := pr_ix hyse hy
        refine ⟨rfl, yes_in ?_⟩
        refine ⟨_, rfl, coll_app stab_lt hDD c6 (Same.refl _) (a := ln.2.getD j []) ?_ ?_ hM2⟩
        · rw [List.getD_eq_getElem?_getD, he]
          exact hye.tk (.of c6.1)
        · rw [List.length_append, fm_one, List.length_map, List.length_range]
          have h1 := hlen i (by omega)
          have h2 : List.Sublist ln.2 (ls.flatMap (·.2)) := by
            have := fm_sub (f := fun ln : TLn => ln.2) (List.singleton_sublist.mpr hlm)
            simpa using this
          have := h2.length_le
          have := hG.all
          omega
      · rw [hel, fm_getD (fun x => [x]) [] ln.2, fm_one, List.map_id'] at c'
        exact c'
    · rw [if_neg cc, List.append_nil] at hM
      exact hM _ c5
  rintro H3 ⟨g3, acc, hacc, hp⟩
  rw [hyl, fm_getD (fun ln : TLn => if withinB ln.1 lot = true then ln.2 else []) ([], []) ls, fm_if] at hp
  have hall : ∀ l ∈ lotsFor ls lot, LotOk l := fun l hl => by
    obtain ⟨ln, hln, hle⟩ := List.mem_flatMap.mp hl
    exact hG.ends ln (List.mem_filter.mp hln).1 l hle
  have h64 : (lotsFor ls lot).length < 64 := Nat.lt_of_le_of_lt (fm_sub List.filter_sublist).length_le hG.all
  exact ⟨DD, acc, lotsFor ls lot, rfl, .of hacc, hp, h64, fun l hl => ⟨(hall l hl).ne, (hall l hl).up, (hall l hl).few⟩, fun t zs G H' g4 ht hz hgr => k t zs G H' (((g1.trans g2).trans g3).trans g4) ht hz hgr⟩
abbrev s_Task_right : Stmt := inClass (top 21) 4
theorem sc_Task_right : FnScope ["self", "brought", "said", "ends", "end"] ["self", "brought", "said"] (defScope s_Task_right) := ⟨rfl, rfl, rfl, by decide +kernel, rfl, by decide +kernel, by decide +kernel⟩
theorem ok_Task_right (F : Fun K "right" "Task.right" s_Task_right f fd) (T : RTx mg) (hC : TC K C) (G_is_lot : Fd P w K mg base CX0 "is_lot" 2 ["value"] spLotD) (G_lies_in : Fd P w K mg base CX0 "lies_in" 1 ["lot", "other"] spLiesD) (M_ends : Md P w K mg base CX0 C "ends" 3 ["self", "lot"] (spEnds C)) : FnOk P w K mg base CX0 4 f fd ["self", "brought", "said"] (spTRight C) := by
  refine F.ok sc_Task_right (fun vs H Q E h => ?_) (fun cdv A outer s H vs Q E hr h => ?_)
  · obtain ⟨d, v, u, z, ls, lot, said, rfl, _⟩ := h
    rfl
  obtain ⟨d, v, u, z, ls, lot, said, rfl, hT, hG, hv, hlot, hin, hu, hup, h0, hsl, k⟩ := h
  refine ⟨_, (pss_cons (ps_set (i := 3) sc_Task_right.nd rfl (Or.inl rfl) (pe_md (pv 0) hC.cl M_ends (hr.mono (by first | decide | omega)) (pa_cons (pv 1) pa_nil)))
  (pss_cons (ps_if (pt_not (pt_val (pe_fd G_is_lot (hr.mono (by first | decide | omega)) rfl (pa_cons (pv 2) pa_nil)))) (pss_one (ps_no)) pss_nil)
  (pss_one (ps_ret (pe_callB (cr_any rfl) rfl T.any (by decide +kernel) (pa_cons (pe_lc (own := [("end", 4)]) (g := (gName 4)) (tt := tYes) rfl sc_Task_right.nd (pi_tup (pv 3)) (blkOk_by (own := [("end", 4)]) (N := ["self", "brought", "said", "ends", "end"]) (sc := defScope s_Task_right) (by decide +kernel)) (fun _ _ _ _ _ => (pg_name (i := 4) sc_Task_right.nd rfl (Or.inl rfl))) (fun _ _ _ _ _ => pts_nil) (fun _ _ _ _ _ => (pe_fd G_lies_in (hr.mono (by first | decide | omega)) rfl (pa_cons (pv 2) (pa_cons (pv 4) pa_nil))))) pa_nil)))))), ?_⟩
  refine seq_in ?_
  refine asg_in ?_
  obtain ⟨dx, tl, ys, tw, ts, TI⟩ := id hT
  obtain ⟨c, rfl, hc⟩ := hu
  refine ⟨_, rfl, d, dx, _, rfl, TI.obj, tn_ends, _, rfl, d, v, z, ls, lot, rfl, hT, hG, hv, hlot, hin, fun t zs G H1 g1 ht hz hgr => ?_⟩
  refine g_set ?_
  refine nx_in ?_
  refine seq_in ?_
  have hc1 := g1 _ _ hc
  have dv : DV H1 (.ref c) (lotD said) := .tup hc1 (dvs_ints _ _) (by rw [List.length_map]; omega)
  refine ⟨_, rfl, .ref c, lotD said, rfl, dv, fun H2 g2 => ⟨_, rfl, ?_⟩⟩
  rw [lotB_ok hup h0]
  refine iteF ?_
  refine next_in ?_
  refine nx_in ?_
  refine ret_in ?_
  have ht2 := g2 _ _ ht
  have hz2 := pr_imp (fun _ _ h => LtV.tk (.of g2) h) hz
  have hzl := pr_len hz2
  have hlots : ∀ l ∈ lotsFor ls lot, l.Pairwise (· < ·) ∧ l.length ≤ 100 := fun l hl => by
    obtain ⟨ln, hln, hle⟩ := List.mem_flatMap.mp hl
    have := hG.ends ln (List.mem_filter.mp hln).1 l hle
    exact ⟨this.up, this.few⟩
  have hGl : G.length < 64 := by
    have h1 : G.length ≤ (lotsFor ls lot).length := nodup_le hgr.nd fun x hx => ((hgr.mem x).mp hx).1
    have h2 : (lotsFor ls lot).length < 64 := Nat.lt_of_le_of_lt (fm_sub List.filter_sublist).length_le hG.all
    omega
  refine ⟨_, rfl, t, rfl, ⟨_, .of ht2⟩, fun D hD => ?_⟩
  refine lc_bools walk_tup (fun j => withinB said (G.getD j [])) hD (by omega) (fun H' g => .of (g _ _ ht2)) (fun j y H6 H7 hj g yy Q4 N kk => ?_) fun H6 g6 h6 => ?_
  · obtain ⟨rfl, hy⟩ := yy
    obtain ⟨e, he, ce, rfl, hce⟩ := pr_ix hz2 hy
    refine ⟨rfl, yes_in ?_⟩
    refine ⟨_, rfl, _, rfl, c, ce, said, e, rfl, g _ _ (g2 _ _ hc1), g _ _ hce, by omega, fun H8 g8 => ?_⟩
    have eg : G.getD j [] = e := by rw [List.getD_eq_getElem?_getD, he]; rfl
    rw [eg] at kk
    exact kk _ g8
  refine ⟨D, _, rfl, .of h6, ?_⟩
  rw [hzl, any_within]
  have e : decide (∃ m ∈ G, subL said m) = rightB ls lot said := by
    rw [Bool.eq_iff_iff, decide_eq_true_iff, hgr.has hlots said]
    unfold rightB
    rw [List.any_eq_true]
    constructor
    · rintro ⟨e, he, s⟩
      exact ⟨e, he, List.all_eq_true.mpr fun x hx => decide_eq_true (s x hx)⟩
    · rintro ⟨e, he, s⟩
      exact ⟨e, he, fun x hx => of_decide_eq_true (List.all_eq_true.mp s x hx)⟩
  rw [e]
  exact k _ ((g1.trans g2).trans g6)
end
end Fp
namespace Fp
open PySem PySem.Spec PyProof.Rows L2
structure LTx (mg : Str → Option Value) : Prop where
  len : mg "len" = none
  int : mg "int" = none
  sum : mg "sum" = none
  abs : mg "abs" = none
  list : mg "list" = none
  tuple : mg "tuple" = none
  range : mg "range" = none
  max : mg "max" = none
  min : mg "min" = none
  repr : mg "repr" = none
  all : mg "all" = none
  enumerate : mg "enumerate" = none
theorem modNat'' : True := trivial
theorem atI0 {α : Type} {l : List α} {v : α} (h : l[0]? = some v) : atI l 0 = some v := atI_nat (j := 0) h
section
variable {P : Program} {w : World} {K : PySem.W.Frag} {mg : Str → Option Value} {base : Heap} {f : Addr} {fd : FuncData} {C : Addr}
abbrev s_law_take : Stmt := top 30
theorem sc_law_take : FnScope ["pot", "upto", "digit", "prime", "blend"] ["pot", "upto"] (defScope s_law_take) := ⟨rfl, rfl, rfl, by decide +kernel, rfl, by decide +kernel, by decide +kernel⟩
theorem ok_law_take (F : Fun K "_law_take" "_law_take" s_law_take f fd) (T : LTx mg) : FnOk P w K mg base CX0 1 f fd ["pot", "upto"] spTake := by
  refine F.ok sc_law_take (fun vs H Q E h => ?_) (fun cdv A outer s H vs Q E hr h => ?_)
  · obtain ⟨p, u, n, rfl, _⟩ := h
    rfl
  obtain ⟨p, u, n, rfl, h0, h1, hn, hP, q⟩ := h
  obtain ⟨a, b, c, hp, hb0, hb1, hc0, hc1⟩ := hP
  refine ⟨_, (pss_cons (ps_if (pt_cmpR op_gt (pe_ix ix_list (pv 0) pe_int (fun _ _ => rfl)) pe_int (nomark _)) (pss_cons (ps_set (i := 2) sc_law_take.nd rfl (Or.inl rfl) (pe_op op_mod (pe_callTy call_int1 rfl T.int (by decide +kernel) (pa_cons (pe_ix ix_list (pv 0) pe_int (fun _ _ => rfl)) pa_nil)) (pv 1)))
  (pss_cons (ps_asg (pe_op op_fdiv (pe_ix ix_list (pv 0) pe_int (fun _ _ => rfl)) (pv 1)) (pg_sub (pv 0) pe_int set_list))
  (pss_one (ps_ret (pv 2))))) pss_nil)
  (pss_cons (ps_asg (pe_op op_add (pe_ix ix_list (pv 0) pe_int (fun _ _ => rfl)) pe_int) (pg_sub (pv 0) pe_int set_list))
  (pss_cons (ps_set (i := 3) sc_law_take.nd rfl (Or.inl rfl) (pe_ix ix_list (pe_lst (pa_cons pe_int (pa_cons pe_int (pa_cons pe_int (pa_cons pe_int (pa_cons pe_int pa_nil)))))) (pe_op op_mod (pe_callTy call_int1 rfl T.int (by decide +kernel) (pa_cons (pe_ix ix_list (pv 0) pe_int (fun _ _ => rfl)) pa_nil)) pe_int) (fun _ _ => rfl)))
  (pss_cons (ps_set (i := 4) sc_law_take.nd rfl (Or.inl rfl) (pe_op op_mod (pe_callTy call_int1 rfl T.int (by decide +kernel) (pa_cons (pe_op op_pow (pe_callTy call_int1 rfl T.int (by decide +kernel) (pa_cons (pe_op op_add (pe_op op_add (pe_ix ix_list (pv 0) pe_int (fun _ _ => rfl)) (pe_op op_mul (pe_op op_mul pe_int (pe_ix ix_list (pv 0) pe_int (fun _ _ => rfl))) (pe_ix ix_list (pv 0) pe_int (fun _ _ => rfl)))) pe_int) pa_nil)) pe_int) pa_nil)) (pv 3)))
  (pss_one (ps_ret (pe_op op_mod (pe_callTy call_int1 rfl T.int (by decide +kernel) (pa_cons (pe_op op_fdiv (pe_op op_mul (pv 4) (pe_op op_add (pe_op op_mod (pe_callTy call_int1 rfl T.int (by decide +kernel) (pa_cons (pv 4) pa_nil)) pe_int) (pe_op op_mul pe_int (pe_ix ix_list (pv 0) pe_int (fun _ _ => rfl))))) pe_int) pa_nil)) (pv 1)))))))), ?_⟩
  refine ⟨_, rfl, p, _, _, _, rfl, rfl, .of hp, rfl, _, _, rfl, rfl, _, rfl, ?_⟩
  refine ite2 (fun ca => ?_) (fun ca => ?_)
  · refine ⟨_, rfl, p, _, _, _, rfl, rfl, .of hp, rfl, .inl ⟨_, rfl, _, rfl, _, _, rfl, rfl, h0, ?_⟩⟩
    refine ⟨_, rfl, p, _, _, _, rfl, rfl, .of hp, rfl, _, rfl, _, _, rfl, rfl, ⟨h0, by omega⟩, ?_⟩
    refine ⟨_, rfl, p, _, _, _, rfl, rfl, hp, rfl, ?_⟩
    refine ⟨_, rfl, ?_⟩
    obtain ⟨d, hd, hd2⟩ := modNat a h0
    show Q (V.int (a % u)) _
    rw [hd]
    refine q d _ hd2 ((But.refl _ H).put (by simp)) ?_
    exact ⟨a / u, b, c, upd_same, hb0, hb1, hc0, by omega⟩
  · refine ⟨_, rfl, p, _, _, _, rfl, rfl, .of hp, rfl, _, _, rfl, rfl, ?_⟩
    refine ⟨_, rfl, p, _, _, _, rfl, rfl, hp, rfl, ?_⟩
    have hp1 : upd H p (.lst [V.int a, V.int b, V.int (c + 1)]) p = some (.lst [V.int a, V.int b, V.int (c + 1)]) := upd_same
    have g1 : But [p] H (upd H p (.lst [V.int a, V.int b, V.int (c + 1)])) := (But.refl _ H).put (by simp)
    refine ⟨(by show 5 ≤ sizeLine; decide), fun l hl => ?_⟩
    have g2 := g1.new (o := .lst [V.int 2147483647, V.int 2147483629, V.int 2147483587, V.int 2147483579, V.int 2147483563]) hl
    have np : p ≠ l := ne_of_none hp1 hl
    have hp2 : upd (upd H p (.lst [V.int a, V.int b, V.int (c + 1)])) l (.lst [V.int 2147483647, V.int 2147483629, V.int 2147483587, V.int 2147483579, V.int 2147483563]) p = some (.lst [V.int a, V.int b, V.int (c + 1)]) := by
      rw [upd_ne np]; exact hp1
    obtain ⟨i5, hi5, hi5b⟩ := modNat (c + 1) (show (0 : Int) < 5 by decide)
    obtain ⟨pr, hpr, hpr0, hpr1⟩ : ∃ pr : Int, ([V.int 2147483647, V.int 2147483629, V.int 2147483587, V.int 2147483579, V.int 2147483563] : List V)[i5]? = some (.int pr) ∧ 0 < pr ∧ pr < 2147483648 := by
      have : i5 < 5 := by omega
      match i5, this with
      | 0, _ => exact ⟨_, rfl, by decide, by decide⟩
      | 1, _ => exact ⟨_, rfl, by decide, by decide⟩
      | 2, _ => exact ⟨_, rfl, by decide, by decide⟩
      | 3, _ => exact ⟨_, rfl, by decide, by decide⟩
      | 4, _ => exact ⟨_, rfl, by decide, by decide⟩
    refine ⟨_, rfl, p, _, _, _, rfl, rfl, .of hp2, rfl, .inl ⟨_, rfl, _, _, rfl, rfl, (by show (0 : Int) < 5; decide), ?_⟩⟩
    refine ⟨l, _, (c + 1) % 5, _, rfl, rfl, .of upd_same, (by rw [hi5]; exact atI_nat hpr), ?_⟩
    refine ⟨_, rfl, p, _, _, _, rfl, rfl, .of hp2, rfl, _, rfl, p, _, _, _, rfl, rfl, .of hp2, rfl, _, _, rfl, rfl, .inl (by constructor <;> decide), ?_⟩
    refine ⟨_, rfl, p, _, _, _, rfl, rfl, .of hp2, rfl, _, _, rfl, rfl, .inr (by constructor <;> omega), _, _, rfl, rfl, _, _, rfl, rfl, .inl ⟨_, rfl, _, _, rfl, rfl, ⟨by decide, by decide, ?_⟩, .inl ⟨_, rfl, ?_⟩⟩⟩
    · have hq := sq_le 100265 (c := c + 1) (by omega) (by omega)
      generalize 100265 * (c + 1) * (c + 1) = z at hq ⊢
      omega
    refine ⟨_, rfl, _, _, rfl, rfl, hpr0, ?_⟩
    obtain ⟨bl, hbl, hbl2⟩ := modNat ((b + 100265 * (c + 1) * (c + 1) + 1595) ^ 3) hpr0
    refine ⟨_, rfl, _, rfl, .inl ⟨_, rfl, _, _, rfl, rfl, (by show (0 : Int) < 10937; decide), ?_⟩⟩
    refine ⟨_, rfl, p, _, _, _, rfl, rfl, .of hp2, rfl, _, _, rfl, rfl, .inl (by constructor <;> decide), _, _, rfl, rfl, _, _, rfl, rfl, .inl ?_, ?_⟩
    · show -(2 ^ 64) < (b + 100265 * (c + 1) * (c + 1) + 1595) ^ (Int.toNat 3) % pr ∧ (b + 100265 * (c + 1) * (c + 1) + 1595) ^ (Int.toNat 3) % pr < 2 ^ 64
      have e3 : Int.toNat 3 = 3 := rfl
      rw [e3, hbl]; constructor <;> omega
    refine ⟨_, _, rfl, rfl, ⟨by decide, by decide⟩, .inl ⟨_, rfl, _, rfl, _, _, rfl, rfl, h0, ?_⟩⟩
    refine (fun (z : ∀ x : Int, Q (.int (x % u)) (upd (upd H p (.lst [V.int a, V.int b, V.int (c + 1)])) l (.lst [V.int 2147483647, V.int 2147483629, V.int 2147483587, V.int 2147483579, V.int 2147483563]))) => z _) (fun x => ?_)
    obtain ⟨d, hd, hd2⟩ := modNat x h0
    rw [hd]
    exact q d _ hd2 g2 ⟨a, b, c + 1, hp2, hb0, hb1, by omega, by omega⟩
abbrev s_law_of : Stmt := top 31
theorem sc_law_of : FnScope ["pot", "some"] ["pot", "some"] (defScope s_law_of) := ⟨rfl, rfl, rfl, by decide +kernel, rfl, by decide +kernel, by decide +kernel⟩
theorem ok_law_of (F : Fun K "_law_of" "_law_of" s_law_of f fd) (T : LTx mg) (G_law_take : Fd P w K mg base CX0 "_law_take" 1 ["pot", "upto"] spTake) : FnOk P w K mg base CX0 2 f fd ["pot", "some"] (spOf K) := by
  refine F.ok sc_law_of (fun vs H Q E h => ?_) (fun cdv A outer s H vs Q E hr h => ?_)
  · obtain ⟨p, q, xs, n, rfl, _⟩ := h
    rfl
  obtain ⟨p, q, xs, n, rfl, hS, hne, hx, hx1, hn, hP, k⟩ := h
  refine ⟨_, (pss_one (ps_ret (pe_ix ix_list (pv 1) (pe_fd G_law_take (hr.mono (by first | decide | omega)) rfl (pa_cons (pv 0) (pa_cons (pe_callB call_len rfl T.len (by decide +kernel) (pa_cons (pv 1) pa_nil)) pa_nil))) (fun _ _ => rfl)))), ?_⟩
  have hpos : 0 < xs.length := List.length_pos_iff.mpr hx
  refine ⟨_, rfl, _, rfl, _, rfl, _, xs.length, rfl, .inl ⟨xs, hS, rfl⟩, p, _, n, rfl, by omega, by omega, hn, hP, fun d H' hd g hP' => ?_⟩
  have hdl : d < xs.length := by omega
  refine ⟨q, xs, _, xs[d], rfl, rfl, g.seq hS (by simpa using hne), atI_nat (by simp [hdl]), ?_⟩
  exact k d _ H' (by simp [hdl]) g hP'
abbrev s_law_some : Stmt := top 32
theorem sc_law_some : FnScope ["pot", "pool", "many", "left", "found", "lap"] ["pot", "pool", "many"] (defScope s_law_some) := ⟨rfl, rfl, rfl, by decide +kernel, rfl, by decide +kernel, by decide +kernel⟩
theorem ok_law_some (F : Fun K "_law_some" "_law_some" s_law_some f fd) (T : LTx mg) (G_law_take : Fd P w K mg base CX0 "_law_take" 1 ["pot", "upto"] spTake) : FnOk P w K mg base CX0 2 f fd ["pot", "pool", "many"] (spSome K) := by
  refine F.ok sc_law_some (fun vs H Q E h => ?_) (fun cdv A outer s H vs Q E hr h => ?_)
  · obtain ⟨p, q, xs, m, n, rfl, _⟩ := h
    rfl
  obtain ⟨p, q, xs, m, n, rfl, hS, hm, hx1, hn, hP, k⟩ := h
  refine ⟨_, (pss_cons (ps_par (i := 3) (j := 4) (by rfl) sc_law_some.nd rfl rfl (by decide) rfl rfl (pa_cons (pe_callTy call_list_of rfl T.list (by decide +kernel) (pa_cons (pv 1) pa_nil)) (pa_cons (pe_lst pa_nil) pa_nil)) (by rfl))
  (pss_cons (ps_for PassesOwn.never rfl (pi_range1 rfl T.range (pa_cons (pv 2) pa_nil)) (pg_name (i := 5) sc_law_some.nd rfl (Or.inl rfl)) (pss_one (ps_expr (pe_bm PySem.F.plainAttrs_list PySem.F.slot_list_append PySem.F.type_list_append mt_append (pv 4) (pa_cons (pe_bm PySem.F.plainAttrs_list PySem.F.slot_list_pop PySem.F.type_list_pop mt_popAt (pv 3) (pa_cons (pe_fd G_law_take (hr.mono (by first | decide | omega)) rfl (pa_cons (pv 0) (pa_cons (pe_callB call_len rfl T.len (by decide +kernel) (pa_cons (pv 3) pa_nil)) pa_nil))) pa_nil)) pa_nil)))))
  (pss_one (ps_ret (pv 4))))), ?_⟩
  have hp0 := hP.there
  refine ⟨_, rfl, q, xs, rfl, hS, fun l1 n1 => ?_⟩
  refine ⟨(by show 0 ≤ sizeLine; decide), fun l2 n2 => ⟨_, _, rfl, ?_⟩⟩
  have n2' : H l2 = none := (same_new n1 _).free n2
  have d1 : l1 ≠ l2 := ne_of_none upd_same n2
  have e1 : p ≠ l1 := ne_of_none hp0.choose_spec n1
  have e2 : p ≠ l2 := ne_of_none hp0.choose_spec n2'
  have g0 : But [p] H (upd (upd H l1 (.lst xs)) l2 (.lst [])) := ((But.refl [p] H).new n1).new n2
  refine ⟨_, rfl, _, rfl, by omega, by omega, for_range (lo := 0) (n := m) (fun i σ H' => ∃ ys zs v, σ = [some (.ref p), some (.ref q), some (.int m), some (.ref l1), some (.ref l2), v] ∧ H' l1 = some (.lst zs) ∧ H' l2 = some (.lst ys) ∧ ys.length = i ∧ (ys ++ zs).Perm xs ∧ But [p] H H' ∧ PotAt H' p (n + i)) ?_ ?_ ?_⟩
  · refine ⟨[], xs, _, rfl, ?_, upd_same, rfl, List.Perm.refl _, g0, ?_⟩
    · rw [upd_ne d1]; exact upd_same
    · obtain ⟨a, b, c, h1, h2⟩ := hP
      exact ⟨a, b, c, by rw [upd_ne e2, upd_ne e1]; exact h1, h2⟩
  · rintro i σ H1 hi ⟨ys, zs, v, rfl, hz, hy, hl, hperm, g, hP1⟩
    have hlen : ys.length + zs.length = xs.length := by have := hperm.length_eq; rw [List.length_append] at this; exact this
    refine ⟨_, rfl, .inl ⟨rfl, _, .of hy⟩, _, rfl, .inl ⟨rfl, _, .of hz⟩, _, rfl, _, rfl, _, zs.length, rfl, .inl ⟨zs, .of hz, rfl⟩, p, _, n + i, rfl, by omega, by omega, by omega, hP1, fun d H2 hd g2 hP2 => ?_⟩
    have hdl : d < zs.length := by omega
    have hz2 := g2.at hz (by simpa using Ne.symm e1)
    have hy2 := g2.at hy (by simpa using Ne.symm e2)
    refine ⟨l1, zs, _, d, zs[d], rfl, rfl, hz2, by omega, by omega, by rw [PySem.seqIndex_of (by omega) (by omega)]; simp, by simp [hdl], ?_⟩
    refine ⟨l2, ys, _, rfl, rfl, by rw [upd_ne (Ne.symm d1)]; exact hy2, small1000 (by omega), ?_⟩
    refine ⟨ys ++ [zs[d]], zs.eraseIdx d, _, rfl, ?_, upd_same, by rw [List.length_append, List.length_singleton]; omega, ?_, ?_, ?_⟩
    · rw [upd_ne d1]; exact upd_same
    · have e := erase_perm zs d hdl
      rw [List.append_assoc]
      exact (List.Perm.append_left ys e).trans hperm
    · intro b o nb hb
      have b1 : b ≠ l1 := ne_of_none hb n1
      have b2 : b ≠ l2 := ne_of_none hb n2'
      rw [upd_ne b2, upd_ne b1]
      exact g2 b o nb (g b o nb hb)
    · obtain ⟨a, b, c, h1, h2⟩ := hP2
      exact ⟨a, b, c, by rw [upd_ne e2, upd_ne e1]; exact h1, h2⟩
  · rintro σ H1 ⟨ys, zs, v, rfl, hz, hy, hl, hperm, g, hP1⟩
    refine ⟨_, rfl, ?_⟩
    exact k l2 ys zs H1 hl hperm n2' hy g hP1
abbrev s_law_cells : Stmt := top 33
theorem sc_law_cells : FnScope ["script", "limit"] ["script", "limit"] (defScope s_law_cells) := ⟨rfl, rfl, rfl, by decide +kernel, rfl, by decide +kernel, by decide +kernel⟩
theorem ok_law_cells (F : Fun K "_law_cells" "_law_cells" s_law_cells f fd) (T : LTx mg) : FnOk P w K mg base CX0 1 f fd ["script", "limit"] (spCells K) := by
  refine F.ok sc_law_cells (fun vs H Q E h => ?_) (fun cdv A outer s H vs Q E hr h => ?_)
  · obtain ⟨p, xs, m, rfl, _⟩ := h
    rfl
  obtain ⟨p, xs, m, rfl, hS, hl, hm, k⟩ := h
  refine ⟨_, (pss_one (ps_ret (pe_listRg rfl rfl T.list (prg_1 rfl T.range (pe_callB (call_max2 rfl) rfl T.max (by decide +kernel) (pa_cons pe_int (pa_cons (pe_callB (call_min2 rfl) rfl T.min (by decide +kernel) (pa_cons (pv 1) (pa_cons (pe_callB call_len rfl T.len (by decide +kernel) (pa_cons (pv 0) pa_nil)) pa_nil))) pa_nil))))))), ?_⟩
  refine ⟨_, rfl, _, rfl, _, xs.length, rfl, .inl ⟨_, hS, (List.length_map _).symm⟩, _, _, rfl, _, _, rfl, ?_⟩
  generalize hz : (if (if (xs.length : Int) < (m : Int) then (xs.length : Int) else (m : Int)) > 1 then (if (xs.length : Int) < (m : Int) then (xs.length : Int) else (m : Int)) else 1) = z
  have hz1 : 0 ≤ z ∧ z < 1000 := by subst hz; split <;> (try split) <;> omega
  refine ⟨z, rfl, .of_le (by omega) (by omega) (by omega) (by omega), fun l hln => ?_⟩
  refine k l _ z.toNat (by omega) (same_new hln _) hln ?_
  rw [upd_same]
  unfold rgV
  rw [show (z - 0).toNat = z.toNat by omega]
  simp
abbrev s_law_pot : Stmt := top 29
theorem sc_law_pot : FnScope ["script", "place", "cell", "own", "small"] ["script", "place"] (defScope s_law_pot) := ⟨rfl, rfl, rfl, by decide +kernel, rfl, by decide +kernel, by decide +kernel⟩
theorem ok_law_pot (F : Fun K "_law_pot" "_law_pot" s_law_pot f fd) (T : LTx mg) : FnOk P w K mg base CX0 1 f fd ["script", "place"] (spPot K) := by
  refine F.ok sc_law_pot (fun vs H Q E h => ?_) (fun cdv A outer s H vs Q E hr h => ?_)
  · obtain ⟨p, xs, m, rfl, _⟩ := h
    rfl
  obtain ⟨p, xs, m, rfl, hS, hl, hm, k⟩ := h
  refine ⟨_, (C8.pss_cut (ps_set (i := 2) sc_law_pot.nd rfl (Or.inl rfl) (pe_ifExp (pt_cmpR op_lt (pv 1) (pe_callB call_len rfl T.len (by decide +kernel) (pa_cons (pv 0) pa_nil)) (nomark _)) (pe_ix ix_list (pv 0) (pv 1) (fun _ _ => rfl)) (pe_op op_add (pe_op op_add (pe_op op_mod (pe_callTy call_int1 rfl T.int (by decide +kernel) (pa_cons (pe_callB (cr_sum rfl) rfl T.sum (by decide +kernel) (pa_cons (pe_slice sl_list (pv 0) po_none (po_some pe_int)) pa_nil)) pa_nil)) pe_int) (pe_op op_mul pe_int (pv 1))) pe_int)))
  (pss_cons (ps_set (i := 3) sc_law_pot.nd rfl (Or.inl rfl) (pe_op op_mul (pe_op op_mod (pe_callTy call_int1 rfl T.int (by decide +kernel) (pa_cons (pe_callB call_abs rfl T.abs (by decide +kernel) (pa_cons (pv 2) pa_nil)) pa_nil)) (pe_op op_powB (pe_op op_pow pe_int pe_int) pe_int)) (pe_callTy call_int1 rfl T.int (by decide +kernel) (pa_cons (pe_cmpR op_ge (pe_callB call_abs rfl T.abs (by decide +kernel) (pa_cons (pv 2) pa_nil)) (pe_op op_pow pe_int pe_int) (nomark _)) pa_nil))))
  (pss_cons (ps_set (i := 4) sc_law_pot.nd rfl (Or.inl rfl) (pe_op op_mod (pe_callTy call_int1 rfl T.int (by decide +kernel) (pa_cons (pv 2) pa_nil)) pe_int))
  (pss_one (ps_ret (pe_lst (pa_cons (pv 3) (pa_cons (pe_op op_mod (pe_callTy call_int1 rfl T.int (by decide +kernel) (pa_cons (pe_op op_add (pe_op op_add (pe_op op_mul (pv 4) pe_int) (pe_op op_mul (pe_op op_mul pe_int (pv 1)) (pv 1))) pe_int) pa_nil)) pe_int) (pa_cons pe_int pa_nil))))))))), ?_⟩
  refine ⟨fun σ H1 => ∃ c : Int, σ = [some (.ref p), some (.int m), some (.int c), none, none] ∧ Same H H1, ?_, ?_⟩
  · refine ⟨_, rfl, _, rfl, _, xs.length, rfl, .inl ⟨_, hS, (List.length_map _).symm⟩, _, _, rfl, rfl, _, rfl, ?_⟩
    refine ite2 (fun c => ?_) (fun c => ?_)
    · have c' : m < xs.length := by have := of_decide_eq_true c; omega
      refine ⟨_, rfl, _, rfl, p, _, _, _, rfl, rfl, hS, atI_nat (by rw [List.getElem?_map, List.getElem?_eq_getElem c']; rfl), ?_⟩
      exact ⟨_, rfl, Same.refl _⟩
    · refine ⟨_, rfl, 1, rfl, p, _, rfl, hS, fun l hln => ?_⟩
      have hcut : cutV (xs.map V.int) none (some 1) = (xs.take 1).map V.int := by
        have e1 : HT.sIx (xs.map V.int).length 0 none = 0 := rfl
        have e2 := HT.sIx_nat (xs.map V.int).length (xs.map V.int).length 1
        unfold cutV
        rw [e1, show ((1 : Int)) = ((1 : Nat) : Int) from rfl, e2, List.length_map, List.drop_zero, ← List.map_take]
        cases xs <;> simp
      refine ⟨l, xs.take 1, rfl, .of (by rw [hcut]; exact upd_same), .inl ⟨_, rfl, _, _, rfl, rfl, (by show (0 : Int) < 1000003; decide), ?_⟩⟩
      refine ⟨_, rfl, _, _, rfl, rfl, .inl (by constructor <;> decide), _, _, rfl, rfl, _, _, rfl, rfl, ?_⟩
      exact ⟨_, rfl, same_new hln _⟩
  · rintro σ H1 ⟨c, rfl, g⟩
    refine ⟨_, rfl, _, rfl, .inl ⟨_, rfl, _, _, rfl, rfl, ⟨by decide, by decide, by decide⟩, ?_⟩⟩
    refine ⟨_, _, rfl, rfl, ⟨by decide, bits_ok 200 (by decide +kernel) (by decide) (by decide)⟩, ?_⟩
    refine ⟨_, _, rfl, rfl, (by show (0 : Int) < ((10 : Int) ^ Int.toNat 60) ^ Int.toNat 5; decide +kernel), ?_⟩
    refine ⟨_, rfl, _, rfl, _, _, rfl, rfl, ⟨by decide, by decide, by decide⟩, _, _, rfl, rfl, .inr ⟨_, rfl, _, _, rfl, rfl, .inr (b01 _), ?_⟩⟩
    refine ⟨_, rfl, .inl ⟨_, rfl, _, _, rfl, rfl, (by show (0 : Int) < 2305843009213693951; decide), ?_⟩⟩
    obtain ⟨sm, hs1, hs2⟩ := modNat c (u := 2305843009213693951) (by decide)
    refine ⟨_, rfl, _, rfl, _, _, rfl, rfl, .inr (by constructor <;> decide), _, rfl, _, _, rfl, rfl, .inl (by constructor <;> decide), _, rfl, _, _, rfl, rfl, .inr (by constructor <;> omega), ?_⟩
    refine ⟨_, _, rfl, rfl, _, _, rfl, rfl, .inl ⟨_, rfl, _, _, rfl, rfl, (by show (0 : Int) < 2305843009213693921; decide), ?_⟩⟩
    refine ⟨(by show 3 ≤ sizeLine; decide), fun l hln => ?_⟩
    refine k l _ (fun b o q => same_new hln _ b o (g b o q)) (g.free hln) ?_
    refine ⟨_, _, 0, upd_same, ?_, ?_, Int.le_refl 0, Int.le_refl 0⟩
    · exact Int.emod_nonneg _ (by decide)
    · exact Int.lt_trans (Int.emod_lt_of_pos _ (by decide)) (by decide)
end
end Fp
/-! things that stay whatever the pot does; comprehensions with draws -/
namespace Fp
open PySem PySem.Spec PyProof.Rows L2
/-- R N: told by objects outside N -/
structure StN {α : Type} (R : List Addr → Hp → V → α → Prop) : Prop where
  but : ∀ {N : List Addr} {H H' : Hp} {v : V} {a : α}, But N H H' → R N H v a → R N H' v a
  mono : ∀ {N M : List Addr} {H : Hp} {v : V} {a : α}, (∀ x ∈ M, x ∈ N) → R N H v a → R M H v a
  fresh : ∀ {N : List Addr} {x : Addr} {H : Hp} {v : V} {a : α}, H x = none → R N H v a → R (x :: N) H v a
def IntN (_ : List Addr) (_ : Hp) (v : V) (i : Int) : Prop := v = .int i
theorem st_int : StN IntN := ⟨fun _ h => h, fun _ h => h, fun _ h => h⟩
def LtN (N : List Addr) (H : Hp) (v : V) (l : List Int) : Prop := ∃ c, v = .ref c ∧ c ∉ N ∧ H c = some (.tup (l.map V.int))
theorem pr_st {α : Type} {R : List Addr → Hp → V → α → Prop} (S : StN R) {N : List Addr} {H H' : Hp} (g : But N H H') {xs : List V} {ls : List α} (h : Paired (R N H) xs ls) : Paired (R N H') xs ls := pr_imp (fun _ _ h => S.but g h) h
theorem st_lt : StN LtN := ⟨fun g ⟨c, e, n, h⟩ => ⟨c, e, n, g _ _ n h⟩, fun s ⟨c, e, n, h⟩ => ⟨c, e, fun z => n (s _ z), h⟩, fun hx ⟨c, e, n, h⟩ => ⟨c, e, fun z => (List.mem_cons.mp z).elim (fun z => by rw [z, hx] at h; cases h) n, h⟩⟩
theorem LtN.v {N : List Addr} {H : Hp} {v : V} {l : List Int} (h : LtN N H v l) : LtV H v l := by
  obtain ⟨c, e, _, h⟩ := h
  exact ⟨c, e, h⟩
def LsN (N : List Addr) (H : Hp) (v : V) (es : List (List Int)) : Prop := ∃ b ys, v = .ref b ∧ b ∉ N ∧ H b = some (.lst ys) ∧ Paired (LtN N H) ys es
theorem st_ls : StN LsN := ⟨fun g ⟨c, ys, e, n, h, p⟩ => ⟨c, ys, e, n, g _ _ n h, pr_st st_lt g p⟩, fun s ⟨c, ys, e, n, h, p⟩ => ⟨c, ys, e, fun z => n (s _ z), h, pr_imp (fun _ _ h => st_lt.mono s h) p⟩,
  fun hx ⟨c, ys, e, n, h, p⟩ => ⟨c, ys, e, fun z => (List.mem_cons.mp z).elim (fun z => by rw [z, hx] at h; cases h) n, h, pr_imp (fun _ _ h => st_lt.fresh hx h) p⟩⟩
/-- a line as the law has it: a lot, a list of lots -/
def OLn (N : List Addr) (H : Hp) (v : V) (ln : TLn) : Prop := ∃ t a b, v = .ref t ∧ t ∉ N ∧ H t = some (.tup [a, b]) ∧ LtN N H a ln.1 ∧ LsN N H b ln.2
theorem st_ln : StN OLn := ⟨fun g ⟨t, a, b, e, n, h, p, q⟩ => ⟨t, a, b, e, n, g _ _ n h, st_lt.but g p, st_ls.but g q⟩, fun s ⟨t, a, b, e, n, h, p, q⟩ => ⟨t, a, b, e, fun z => n (s _ z), h, st_lt.mono s p, st_ls.mono s q⟩,
  fun hx ⟨t, a, b, e, n, h, p, q⟩ => ⟨t, a, b, e, fun z => (List.mem_cons.mp z).elim (fun z => by rw [z, hx] at h; cases h) n, h, st_lt.fresh hx p, st_ls.fresh hx q⟩⟩
theorem but_drop {S : List Addr} {D : Addr} {H H' : Hp} (g : But (D :: S) H H') (h : H D = none) : But S H H' := fun b o n q => g b o (fun m => (List.mem_cons.mp m).elim (fun z => by rw [z, h] at q; cases q) n) q
theorem but_wide {S : List Addr} {D : Addr} {H H' : Hp} (g : But S H H') : But (D :: S) H H' := g.wide fun x h => List.mem_cons_of_mem _ h
theorem but_new {S : List Addr} {x : Addr} {H H' : Hp} {o : HO} (g : But S H H') (h : H x = none) : But S H (upd H' x o) := fun b u n q => by
  rw [upd_ne (fun z => by rw [z, h] at q; cases q)]; exact g b u n q
section
variable {J : It} {n : Nat} {G : Hp → Prop} {Y : Nat → Hp → V → Hp → Prop}
/-- a comprehension with draws: In says what is known of the things told so far, X of the heap -/
theorem lc_draw {α : Type} (w : Walk J n G Y) {R : List Addr → Hp → V → α → Prop} (SR : StN R) (S : List Addr) (X : Nat → Hp → Prop) (In : Nat → List α → Prop) {g : TG} {tt : L2.TT} {te : TE} {vs : List Nat} {σ : L2.St} {H1 : Hp} {D : Addr} {Qd : Hp → Prop}
    (hX : ∀ i H us zs, H D = some (.lst us) → X i H → X i (upd H D (.lst zs))) (hIl : ∀ i l, In i l → l.length < 10000000) (hD : H1 D = none) (hDS : D ∉ S) (hG : ∀ H, But S H1 H → G H) (h0 : In 0 []) (hx0 : X 0 (upd H1 D (.lst [])))
    (hs : ∀ i x H H' l, i < n → But S H1 H → (∃ us, H D = some (.lst us)) → In i l → X i H → Y i H x H' → ∀ (Q4 : VK) (N : Hp → Prop), (∀ a y H4, In (i + 1) (l ++ [a]) → But S H H4 → X (i + 1) H4 → R (D :: S) H4 y a → Q4 y H4) → (∀ H4, In (i + 1) l → But S H H4 → X (i + 1) H4 → N H4) →
      g x (wipe σ vs) H' fun σ2 H2 => wipe σ2 vs = wipe σ vs ∧ tt σ2 H2 fun b H3 => if b = true then te σ2 H3 Q4 else N H3)
    (hd : ∀ H acc l, But S H1 H → X n H → In n l → H D = some (.lst acc) → Paired (R (D :: S) H) acc l → Qd H) :
    ∃ W : Nat → Nat → Hp → Prop, (∃ m, W 0 m (upd H1 D (.lst []))) ∧ ∀ i m H, W i m H →
      (J.stop i H ∧ Qd H) ∨ (J.go i H ∧ ∃ Nx : Hp → Prop, (∀ H', Nx H' → ∃ m', m' < m ∧ W (i + 1) m' H') ∧ ∀ x H', J.yld i H x H' → g x (wipe σ vs) H' fun σ2 H2 => wipe σ2 vs = wipe σ vs ∧ tt σ2 H2 fun b H3 =>
        if b = true then te σ2 H3 fun y H4 => ∃ acc, H4 D = some (.lst acc) ∧ acc.length < sizeLine ∧ Nx (upd H4 D (.lst (acc ++ [y]))) else Nx H3) := by
  refine lc_it w (fun i H => But S H1 H ∧ X i H ∧ ∃ acc l, In i l ∧ H D = some (.lst acc) ∧ Paired (R (D :: S) H) acc l) ⟨but_new (But.refl _ _) hD, hx0, [], [], h0, upd_same, .nil⟩ (fun i H _ z => hG H z.1) (fun i x H H' hi z y => ?_) fun H z => ?_
  · obtain ⟨g1, x1, acc, l, hin, hacc, hp⟩ := z
    refine hs i x H H' l hi g1 ⟨_, hacc⟩ hin x1 y _ _ (fun a v H4 in4 g4 x4 r4 => ?_) fun H4 in4 g4 x4 => ?_
    · have h4 := g4 _ _ hDS hacc
      refine ⟨acc, h4, szt (by rw [pr_len hp]; exact hIl i l hin), ?_⟩
      have gu : But (D :: S) H4 (upd H4 D (.lst (acc ++ [v]))) := (But.refl _ _).put List.mem_cons_self
      exact ⟨but_new (g1.trans g4) hD, hX _ _ _ _ h4 x4, acc ++ [v], l ++ [a], in4, upd_same, pr_st SR gu (pr_snoc r4 (pr_st SR (but_wide g4) hp))⟩
    · exact ⟨g1.trans g4, x4, acc, l, in4, g4 _ _ hDS hacc, pr_st SR (but_wide g4) hp⟩
  · obtain ⟨g1, x1, acc, l, hin, hacc, hp⟩ := z
    exact hd H acc l g1 x1 hin hacc hp
end
theorem but_none {p x : Addr} {k : Nat} {H H' : Hp} (g : But [p] H H') (hP : PotAt H' p k) (h : H' x = none) : H x = none ∧ x ≠ p := by
  have ne : x ≠ p := fun z => by
    obtain ⟨a, b, c, e, _⟩ := hP
    rw [z, e] at h; cases h
  cases e : H x with
  | none => exact ⟨rfl, ne⟩
  | some o => rw [g x o (by simpa using ne) e] at h; cases h
theorem pot_sm {H H' : Hp} {p : Addr} {n : Nat} (g : Same H H') (h : PotAt H p n) : PotAt H' p n := by
  obtain ⟨a, b, c, e, r⟩ := h
  exact ⟨a, b, c, g _ _ e, r⟩
theorem but_put {p x : Addr} {H H' : Hp} {o : HO} (g : But [p] H H') (h : H x = none) : But [p] H (upd H' x o) := fun b u nb q => by
  rw [upd_ne (ne_of_none q h)]; exact g b u nb q
theorem pot_put {p x : Addr} {H : Hp} {n : Nat} {o : HO} (h : PotAt H p n) (ne : x ≠ p) : PotAt (upd H x o) p n := by
  obtain ⟨a, b, c, e, r⟩ := h
  exact ⟨a, b, c, by rw [upd_ne (Ne.symm ne)]; exact e, r⟩
theorem pot_upd {H : Hp} {p D : Addr} {k : Nat} {o : HO} (h : PotAt H p k) (n : D ≠ p) : PotAt (upd H D o) p k := by
  obtain ⟨a, b, c, e, r⟩ := h
  exact ⟨a, b, c, by rw [upd_ne (Ne.symm n)]; exact e, r⟩
end Fp
namespace Fp
open PySem PySem.Spec PyProof.Rows L2
def spLitL : Sp := fun vs H Q _ => ∃ (v : V) (l : List Int), vs = [v] ∧ LtV H v l ∧ (∀ x ∈ l, 0 ≤ x ∧ x ≤ 99) ∧ l.length ≤ 100 ∧ ∀ H', Same H H' → Q (.str (litL l)) H'
theorem nums_len {l : List Int} (h : ∀ x ∈ l, 0 ≤ x ∧ x ≤ 99) : ((l.map fun i => (toString i : Str)).map (·.length)).sum ≤ l.length * 2 := by
  induction l with
  | nil => exact Nat.le_refl _
  | cons a l ih =>
    have := ih fun x hx => h x (List.mem_cons_of_mem _ hx)
    have := (figs_ok (h a List.mem_cons_self).1 (h a List.mem_cons_self).2).1
    simp only [List.map_cons, List.sum_cons, List.length_cons] at *
    omega
abbrev RS : Hp → V → Str → Prop := fun _ v z => v = .str z
theorem stab_str : Stab RS := ⟨fun _ h => h, fun _ h => h⟩
theorem coll_strs {H1 H : Hp} {D : Addr} {l : List Str} (h : Coll H1 D RS H l) : Same H1 H ∧ H D = some (.lst (l.map V.str)) := by
  obtain ⟨g, acc, e, p⟩ := h
  refine ⟨g, ?_⟩
  have : acc = l.map V.str := by
    clear e
    induction p with
    | nil => rfl
    | cons h _ ih => rw [h, ih]; rfl
  rw [← this]; exact e
def spTaskT : Sp := fun vs H Q _ => ∃ (N : List Addr) (a : Addr) (xs : List V) (ls : List TLn), vs = [.ref a] ∧ H a = some (.lst xs) ∧ Paired (OLn N H) xs ls ∧ (∀ ln ∈ ls, LnOk ln) ∧ ls.length ≤ 30 ∧ ∀ H', Same H H' → Q (.str (taskT ls)) H'
theorem litL_len {l : List Int} (h : ∀ x ∈ l, 0 ≤ x ∧ x ≤ 99) (hl : l.length ≤ 100) : (litL l).length ≤ 300 := by
  unfold litL
  rw [TL.join_eq]
  have := StrLaws.join_length_le (" " : Str) (l.map fun i => (toString i : Str))
  have e1 : (" " : Str).length = 1 := by decide +kernel
  have h2 := nums_len h
  rw [e1, List.length_map] at this
  omega
theorem lits_len {es : List (List Int)} (h : ∀ e ∈ es, (∀ x ∈ e, 0 ≤ x ∧ x ≤ 99) ∧ e.length ≤ 100) : ((es.map litL).map (·.length)).sum ≤ es.length * 300 := by
  induction es with
  | nil => exact Nat.le_refl _
  | cons a l ih =>
    have := ih fun x hx => h x (List.mem_cons_of_mem _ hx)
    have := litL_len (h a List.mem_cons_self).1 (h a List.mem_cons_self).2
    simp only [List.map_cons, List.sum_cons, List.length_cons] at *
    omega
theorem str_alen (a b : Str) : (a ++ b).length = a.length + b.length := by
  rw [len_sg, len_sg, len_sg, str_app, List.length_append]
theorem lineT_len {ln : TLn} (O : LnOk ln) : (lineT ln).length ≤ 20000 := by
  have l1 := litL_len O.left.rng O.left.few
  have es : (" : " : Str).length = 3 := by decide +kernel
  have eb : (" | " : Str).length = 3 := by decide +kernel
  have hfew := O.few
  have hsum : ((ln.2.map litL).map (·.length)).sum ≤ ln.2.length * 300 := lits_len fun e he => ⟨(O.ends e he).rng, (O.ends e he).few⟩
  have hjl : (Txt.join " | " (ln.2.map litL)).length ≤ 10000 := by
    rw [TL.join_eq]
    have := StrLaws.join_length_le (" | " : Str) (ln.2.map litL)
    rw [eb, List.length_map] at this
    omega
  unfold lineT
  rw [str_alen, str_alen, es]
  omega
theorem lines_len {ls : List TLn} (h : ∀ ln ∈ ls, LnOk ln) : ((ls.map lineT).map (·.length)).sum ≤ ls.length * 20000 := by
  induction ls with
  | nil => exact Nat.le_refl _
  | cons a l ih =>
    have := ih fun x hx => h x (List.mem_cons_of_mem _ hx)
    have := lineT_len (h a List.mem_cons_self)
    simp only [List.map_cons, List.sum_cons, List.length_cons] at *
    omega
section
variable {P : Program} {w : World} {K : PySem.W.Frag} {mg : Str → Option Value} {base : Heap} {f : Addr} {fd : FuncData} {C : Addr}
abbrev s_law_lot_text : Stmt := top 34
theorem sc_law_lot_text : FnScope ["lot", "one"] ["lot"] (defScope s_law_lot_text) := ⟨rfl, rfl, rfl, by decide +kernel, rfl, by decide +kernel, by decide +kernel⟩
theorem ok_law_lot_text (F : Fun K "_law_lot_text" "_law_lot_text" s_law_lot_text f fd) (T : RTx mg) : FnOk P w K mg base CX0 1 f fd ["lot"] spLitL := by
  refine F.ok sc_law_lot_text (fun vs H Q E h => ?_) (fun cdv A outer s H vs Q E hr h => ?_)
  · obtain ⟨v, l, rfl, _⟩ := h
    rfl
  obtain ⟨v, l, rfl, ⟨c, rfl, hc⟩, hr99, hl, k⟩ := h
  refine ⟨_, (pss_one (ps_ret (pe_join pe_str (pe_lc (own := [("one", 1)]) (g := (gName 1)) (tt := tYes) rfl sc_law_lot_text.nd (pi_tup (pv 0)) (blkOk_by (own := [("one", 1)]) (N := ["lot", "one"]) (sc := defScope s_law_lot_text) (by decide +kernel)) (fun _ _ _ _ _ => (pg_name (i := 1) sc_law_lot_text.nd rfl (Or.inl rfl))) (fun _ _ _ _ _ => pts_nil) (fun _ _ _ _ _ => (pe_callTy call_str_int rfl T.str (by decide +kernel) (pa_cons (pe_callTy call_int1 rfl T.int (by decide +kernel) (pa_cons (pv 1) pa_nil)) pa_nil))))))), ?_⟩
  refine ret_in ?_
  refine ⟨⟨_, rfl⟩, _, rfl, c, rfl, ⟨_, .of hc⟩, fun D hD => ?_⟩
  refine lc_coll (R := RS) (walk_tup (xs := l.map V.int)) (fun i => [(toString (l.getD i 0) : Str)]) hD (fun H' g => .of (g _ _ hc)) ?_ ?_
  · rintro i x H2 H3 hi cc ⟨rfl, hx⟩ M hM
    rw [List.length_map] at hi
    rw [List.getElem?_map, List.getElem?_eq_getElem hi] at hx
    cases hx
    have hb := hr99 _ (List.getElem_mem hi)
    refine ⟨rfl, yes_in ?_⟩
    refine ⟨_, rfl, .inl ⟨_, rfl, _, rfl, log2_lt (by omega) (by omega), ?_⟩⟩
    refine coll_app stab_str hD cc (Same.refl _) (a := (toString (l.getD i 0) : Str)) ?_ ?_ hM
    · rw [List.getD_eq_getElem?_getD, List.getElem?_eq_getElem hi]; rfl
    · rw [fm_one, List.length_map, List.length_range]; omega
  intro H2 cc
  obtain ⟨g2, hacc⟩ := coll_strs cc
  rw [List.length_map, fm_getD (fun i => [(toString i : Str)]) 0 l, fm_one] at hacc
  refine ⟨" ", D, _, rfl, rfl, .inl (.of hacc), ?_, k _ g2⟩
  have e1 : (" " : Str).length = 1 := by decide +kernel
  have h2 := nums_len hr99
  rw [e1, List.length_map]
  omega
abbrev s_law_task_text : Stmt := top 35
theorem sc_law_task_text : FnScope ["lines", "found", "left", "ends", "one"] ["lines"] (defScope s_law_task_text) := ⟨rfl, rfl, rfl, by decide +kernel, rfl, by decide +kernel, by decide +kernel⟩
theorem ok_law_task_text (F : Fun K "_law_task_text" "_law_task_text" s_law_task_text f fd) (T : RTx mg) (G_law_lot_text : Fd P w K mg base CX0 "_law_lot_text" 1 ["lot"] spLitL) : FnOk P w K mg base CX0 2 f fd ["lines"] spTaskT := by
  refine F.ok sc_law_task_text (fun vs H Q E h => ?_) (fun cdv A outer s H vs Q E hr h => ?_)
  · obtain ⟨N, a, xs, ls, rfl, _⟩ := h
    rfl
  obtain ⟨N, a, xs, ls, rfl, ha, hp, hok, hl, k⟩ := h
  refine ⟨_, (pss_cons (ps_set (i := 1) sc_law_task_text.nd rfl (Or.inl rfl) (pe_lst pa_nil))
  (pss_cons (ps_for PassesOwn.never rfl (pi_list (pv 0)) (pg_tup rfl (pgs_cons (pg_name (i := 2) sc_law_task_text.nd rfl (Or.inl rfl)) (pgs_cons (pg_name (i := 3) sc_law_task_text.nd rfl (Or.inl rfl)) pgs_nil))) (pss_one (ps_expr (pe_bm PySem.F.plainAttrs_list PySem.F.slot_list_append PySem.F.type_list_append mt_append (pv 1) (pa_cons (pe_op op_add_str (pe_op op_add_str (pe_fd G_law_lot_text (hr.mono (by first | decide | omega)) rfl (pa_cons (pv 2) pa_nil)) pe_str) (pe_join pe_str (pe_lc (own := [("one", 4)]) (g := (gName 4)) (tt := tYes) rfl sc_law_task_text.nd (pi_list (pv 3)) (blkOk_by (own := [("one", 4)]) (N := ["lines", "found", "left", "ends", "one"]) (sc := defScope s_law_task_text) (by decide +kernel)) (fun _ _ _ _ _ => (pg_name (i := 4) sc_law_task_text.nd rfl (Or.inl rfl))) (fun _ _ _ _ _ => pts_nil) (fun _ _ _ _ _ => (pe_fd G_law_lot_text (hr.mono (by first | decide | omega)) rfl (pa_cons (pv 4) pa_nil)))))) pa_nil)))))
  (pss_one (ps_ret (pe_join pe_str (pv 1)))))), ?_⟩
  refine seq_in ?_
  refine asg_in ?_
  refine ⟨szl (by show 0 ≤ _; decide), fun fl nfl => ?_⟩
  have s1 := same_new nfl (.lst [])
  have hfl1 : upd H fl (.lst []) fl = some (.lst []) := upd_same
  have hp1 : Paired (OLn (fl :: N) (upd H fl (.lst []))) xs ls := pr_imp (fun _ _ h => st_ln.but ((But.refl _ _).put List.mem_cons_self) (st_ln.fresh nfl h)) hp
  have nfa : a ≠ fl := ne_of_none ha nfl
  have ha1 := s1 _ _ ha
  generalize upd H fl (.lst []) = H1 at s1 hfl1 hp1 ha1 ⊢
  refine g_set ?_
  refine nx_in ?_
  refine seq_in ?_
  have hxl := pr_len hp
  refine ⟨_, rfl, a, rfl, ⟨_, .of ha1⟩, for_list (K := K) (a := a) (xs := xs) (fun i σ H' => ∃ u2 u3 u4, σ = [some (.ref a), some (.ref fl), u2, u3, u4] ∧ But [fl] H1 H' ∧ H' fl = some (.lst (((ls.take i).map lineT).map V.str))) ⟨_, _, _, rfl, But.refl _ _, hfl1⟩ ?_ ?_ ?_⟩
  · rintro i σ H' _ ⟨_, _, _, rfl, g, _⟩
    exact .of (g _ _ (by simpa using nfa) ha1)
  · rintro i x σ H2 hx ⟨u2, u3, u4, rfl, g2, hfl2⟩
    obtain ⟨ln, hln, hv⟩ := pr_ix (pr_st st_ln (g2.wide (T := fl :: N) (by simp)) hp1) hx
    have hlm := List.mem_of_getElem? hln
    have O := hok ln hlm
    obtain ⟨t, v1, v2, rfl, _, ht, hv1, b, ys, rfl, nb, hb, hys⟩ := hv
    have hbf : b ≠ fl := fun z => nb (by rw [z]; exact List.mem_cons_self)
    have hil := get_lt hx
    refine ⟨t, _, rfl, .of ht, rfl, _, _, rfl, _, _, rfl, rfl, ?_⟩
    refine ⟨_, rfl, .inl ⟨rfl, _, .of hfl2⟩, ?_⟩
    have l1 := litL_len O.left.rng O.left.few
    have es : (" : " : Str).length = 3 := by decide +kernel
    have eb : (" | " : Str).length = 3 := by decide +kernel
    refine ⟨_, rfl, v1, ln.1, rfl, hv1.v, O.left.rng, O.left.few, fun H3 g3 => ⟨_, _, rfl, rfl, szl (by rw [es]; omega), ?_⟩⟩
    have hb3 := g3 _ _ hb
    have hel := pr_len hys
    refine ⟨⟨_, rfl⟩, _, rfl, b, rfl, ⟨_, .of hb3⟩, fun D hD => ?_⟩
    refine lc_coll (R := RS) (walk_list (xs := ys)) (fun j => [litL (ln.2.getD j [])]) hD (fun H' g => .of (g _ _ hb3)) ?_ ?_
    · rintro j y H4 H5 hj cc ⟨rfl, hy⟩ M hM
      obtain ⟨e, he, hye⟩ := pr_ix hys hy
      have Oe := O.ends e (List.mem_of_getElem? he)
      refine ⟨rfl, yes_in ?_⟩
      refine ⟨_, rfl, y, e, rfl, (hye.v.tk (.of g3)).tk (.of cc.1), Oe.rng, Oe.few, fun H6 g6 => ?_⟩
      refine coll_app stab_str hD cc g6 (a := litL (ln.2.getD j [])) ?_ ?_ hM
      · rw [List.getD_eq_getElem?_getD, he]; rfl
      · rw [fm_one, List.length_map, List.length_range]
        have := O.few
        omega
    intro H4 cc
    obtain ⟨g4, hacc⟩ := coll_strs cc
    rw [hel, fm_getD (fun e => [litL e]) [] ln.2, fm_one] at hacc
    have hfew := O.few
    have hsum : ((ln.2.map litL).map (·.length)).sum ≤ ln.2.length * 300 := lits_len fun e he => ⟨(O.ends e he).rng, (O.ends e he).few⟩
    have hjl : (Txt.join " | " (ln.2.map litL)).length ≤ 10000 := by
      rw [TL.join_eq]
      have := StrLaws.join_length_le (" | " : Str) (ln.2.map litL)
      rw [eb, List.length_map] at this
      omega
    have hfl4 := g4 _ _ (g3 _ _ hfl2)
    refine ⟨" | ", D, _, rfl, rfl, .inl (.of hacc), by rw [eb, List.length_map]; omega, _, _, rfl, rfl, szl (by rw [str_alen, es]; omega), fl, _, _, rfl, rfl, hfl4, szt (by rw [List.length_map, List.length_map, List.length_take]; omega), ?_⟩
    refine ⟨_, _, _, rfl, (g2.trans (.of (g3.trans g4))).put (by simp), ?_⟩
    rw [upd_same, List.take_add_one, hln, Option.toList_some, List.map_append, List.map_append]
    rfl
  · rintro σ H2 ⟨u2, u3, u4, rfl, g2, hfl2⟩
    rw [hxl, List.take_length] at hfl2
    refine nx_in ?_
    refine ret_in ?_
    have hsum : ((ls.map lineT).map (·.length)).sum ≤ ls.length * 20000 := lines_len hok
    refine ⟨⟨_, rfl⟩, _, rfl, "\n", fl, _, rfl, rfl, .inl (.of hfl2), ?_, k _ (Same.into s1 g2 nfl)⟩
    have e1 : ("\n" : Str).length = 1 := by decide +kernel
    rw [e1, List.length_map]
    omega
end
end Fp
/-! xs.extend(tuple) -/
namespace L2
open PySem PySem.Spec PyProof.Rows
open PySem.AutoSeq1 (wpAny_loadPart' idx_int)
theorem ext_tup (l : Addr) (xs : Array Value) (n : Nat) (b : Addr) (ys : Array Value) (m : Nat) (dd : Option Addr) (sl : Array (Option Value)) (h0 : ¬ (!xs.isEmpty && Builtin.List.listTooLong (xs.size + ys.size)) = true) (h1 : xs.size ≤ sizeLine) (h2 : xs.size + ys.size ≤ sizeLine + 1) :
    Meets (Builtin.«list.extend» ⟨[.ref l, .ref b], []⟩) (fun _ R s => s.heap.get? l = some { cls := .type "list", dict := none, data := .seq xs n, slots := #[] } ∧
      s.heap.get? b = some { cls := .type "tuple", dict := dd, data := .seq ys m, slots := sl } ∧ R (.ok (.ret Value.none)) { s with heap := s.heap.update l (Obj.mapSeq fun x => x ++ ys), toks := s.toks }) :=
  .of_wp fun prog w A R s h => by
    obtain ⟨hp, g, d, tk, os⟩ := s
    obtain ⟨ha, hb, h⟩ := h
    have e1 := idx_int
    have e2 := PySem.AutoSeq1.sub_tuple_tuple
    have e3 := PySem.AutoSeq1.sub_list_list
    have e4 := PySem.AutoSeq1.sub_tuple_list
    have e5 := PySem.AutoSeq1.sub_list_tuple
    have hz : (xs ++ ys).size ≤ sizeLine + 1 := by rw [Array.size_append]; exact h2
    wp_walk using (wpAny_updateSeq ha rfl (hz := h1) (_hz' := hz)), wpAny_loadPart' ha, wpAny_loadPart' hb
    exact ⟨_, rfl, h⟩
def rExtendT (K : PySem.W.Frag) : V → List V → Hp → VK → Prop := fun x vs H Q => ∃ l b xs zs, x = .ref l ∧ vs = [.ref b] ∧ H l = some (.lst xs) ∧ SqT K H b zs ∧ xs.length + zs.length ≤ sizeLine ∧ Q .non (upd H l (.lst (xs ++ zs)))
theorem mt_extendT {X : Cx} : MtM X "list.extend" (rExtendT X.K) := by
  intro pins s σ H x vs v us Q I rx rv h
  obtain ⟨l, b, xs, zs, rfl, rfl, hH, hB, hz, q⟩ := h
  cases rx
  obtain ⟨u, rfl, ru⟩ := rv.one
  cases ru
  obtain ⟨z, its, n, r, hl, e⟩ := I.lstM hH
  obtain ⟨its2, r2, ⟨⟨cls, dd, data, sl⟩, ho, hc, n2, hd⟩, hs2⟩ := I.tuple hB
  simp only at hc hd
  subst hc hd
  have hl2 := r2.length
  have hsz : its.toArray.size + its2.toArray.size ≤ sizeLine := by simp only [List.size_toArray]; omega
  refine call_meets F.slot_list_extend ⟨_, e, rfl⟩ F.entry_list_extend (F.args_list_extend_2 _ _) (ext_tup l its.toArray n b its2.toArray n2 dd sl ?_ (by simp only [List.size_toArray]; omega) (by omega)) ⟨e, ho, ?_⟩
  · rw [notLongL hsz, Bool.and_false]
    exact Bool.false_ne_true
  · refine ⟨.non, _, I.lset (its' := its ++ its2) hH e (by simp) (r.append r2) ?_, rfl, q⟩
    rw [List.length_append]; omega
end L2
/-! rows with hands that have no view; rows that are drawn -/
namespace Fp
open PySem PySem.Spec PyProof.Rows L2
abbrev RowO := List (Option (List Int))
structure OkO (n : Nat) (r : RowO) : Prop where
  len : r.length = n
  up : ∀ (i : Nat) (l : List Int), r[i]? = some (some l) → List.Pairwise (· < ·) l
  rng : ∀ (i : Nat) (l : List Int), r[i]? = some (some l) → ∀ x ∈ l, 0 ≤ x ∧ x < n
  self : ∀ (i : Nat) (l : List Int), r[i]? = some (some l) → (i : Int) ∈ l
  cmp : ∀ (i j : Nat) (l m : List Int), r[i]? = some (some l) → r[j]? = some (some m) → (∀ x ∈ l, x ∈ m) ∨ ∀ x ∈ m, x ∈ l
  fit : ∀ (i j : Nat) (l m : List Int), r[i]? = some (some l) → r[j]? = some (some m) → (i : Int) ∈ m → ∀ x ∈ l, x ∈ m
def oD : Option (List Int) → Dt
  | none => .non
  | some l => lotD l
def rowOD (r : RowO) : Dt := .tup (r.map oD)
theorem oD_some {r : RowO} {i : Nat} {l : List Int} (h : r[i]? = some (some l)) : (r.map oD).getD i .non = lotD l ∧ vwAt (r.map oD) i = l := by
  have e : (r.map oD).getD i .non = lotD l := by rw [List.getD_eq_getElem?_getD, List.getElem?_map, h]; rfl
  exact ⟨e, by unfold vwAt; rw [e, lotOf_lotD]⟩
theorem thr_O {r : RowO} {i : Nat} : i ∈ thr (r.map oD) ↔ ∃ l, r[i]? = some (some l) := by
  rw [mem_thr, List.length_map]
  constructor
  · rintro ⟨h1, h2⟩
    rw [List.getD_eq_getElem?_getD, List.getElem?_map, List.getElem?_eq_getElem h1] at h2
    cases e : r[i] with
    | none => rw [e] at h2; cases h2
    | some l => exact ⟨l, by rw [List.getElem?_eq_getElem h1, e]⟩
  · rintro ⟨l, h⟩
    refine ⟨(List.getElem?_eq_some_iff.mp h).1, ?_⟩
    rw [(oD_some h).1]; rfl
theorem okO_at {n : Nat} (hn : 0 < n) {r : RowO} (R : OkO n r) (h : ∃ (i : Nat) (l : List Int), r[i]? = some (some l)) : atB n (rowOD r) = true := by
  rw [← law_row hn]
  unfold rowOD lawRowB
  dsimp only
  rw [Bool.and_eq_true, Bool.and_eq_true, Bool.and_eq_true, decide_eq_true_eq, List.all_eq_true, List.all_eq_true, List.length_map]
  refine ⟨⟨R.len, ?_⟩, fun i hi => ?_, fun i hi => ?_⟩
  · rw [Bool.not_eq_true', List.all_eq_false]
    obtain ⟨i, l, h⟩ := h
    exact ⟨lotD l, List.mem_map.mpr ⟨some l, List.mem_of_getElem? h, rfl⟩, by simp [lotD, Dt.isNon]⟩
  · obtain ⟨l, h⟩ := thr_O.mp hi
    refine lawVw_iff.mpr ?_
    rw [(oD_some h).1, lotOfB_lotD, lotOf_lotD]
    exact ⟨⟨R.rng i _ h, R.up i _ h⟩, R.self i _ h⟩
  · rw [List.all_eq_true]
    intro j hj
    obtain ⟨l, h⟩ := thr_O.mp hi
    obtain ⟨m, h'⟩ := thr_O.mp hj
    refine pair_iff.mpr ?_
    rw [(oD_some h).2, (oD_some h').2]
    exact ⟨R.cmp i j _ _ h h', R.fit i j _ _ h h'⟩
theorem okO_whole {n : Nat} (hn : 0 < n) {r : RowO} (R : OkO n r) (h : ∀ i, i < n → ∃ l, r[i]? = some (some l)) : wholeB n (rowOD r) = true := by
  unfold wholeB
  rw [okO_at hn R ⟨0, h 0 hn⟩, Bool.true_and, Bool.not_eq_true']
  show (r.map oD).any Dt.isNon = false
  rw [List.any_eq_false]
  intro d hd
  obtain ⟨o, ho, rfl⟩ := List.mem_map.mp hd
  obtain ⟨i, hi⟩ := List.mem_iff_getElem?.mp ho
  obtain ⟨l, hl⟩ := h i (by rw [← R.len]; exact (List.getElem?_eq_some_iff.mp hi).1)
  rw [hi] at hl
  cases hl
  simp [oD, lotD, Dt.isNon]
/-- a row that loses views stays good -/
theorem OkO.less {n : Nat} {r s : RowO} (R : OkO n r) (hl : s.length = n) (h : ∀ (i : Nat) (l : List Int), s[i]? = some (some l) → r[i]? = some (some l)) : OkO n s :=
  ⟨hl, fun i l q => R.up i l (h i l q), fun i l q => R.rng i l (h i l q), fun i l q => R.self i l (h i l q), fun i j l m q q' => R.cmp i j l m (h i l q) (h j m q'), fun i j l m q q' => R.fit i j l m (h i l q) (h j m q')⟩
/-- while a row is drawn: who was seen, and that the views so far are of these -/
structure Drw (n : Nat) (seen left : List Nat) (r : RowO) : Prop where
  ok : OkO n r
  nd : (seen ++ left).Nodup
  lt : ∀ x ∈ seen ++ left, x < n
  sub : ∀ (i : Nat) (l : List Int), r[i]? = some (some l) → ∀ x ∈ l, ∃ a ∈ seen, x = ((a : Nat) : Int)
  has : ∀ i, i ∈ seen ↔ ∃ l, r[i]? = some (some l)
theorem Drw.start {n : Nat} {left : List Nat} (hd : left.Nodup) (lt : ∀ x ∈ left, x < n) : Drw n [] left (List.replicate n none) := by
  have no : ∀ (i : Nat) (l : List Int), (List.replicate n (none : Option (List Int)))[i]? ≠ some (some l) := fun i l h => by
    rw [List.getElem?_replicate] at h
    split at h <;> cases h
  exact ⟨⟨List.length_replicate, fun i l h => (no i l h).elim, fun i l h => (no i l h).elim, fun i l h => (no i l h).elim, fun i j l m h _ => (no i l h).elim, fun i j l m h _ => (no i l h).elim⟩, hd, lt, fun i l h => (no i l h).elim, fun i => ⟨fun h => (by cases h), fun ⟨l, h⟩ => (no i l h).elim⟩⟩
/-- a block of hands gets one view -/
theorem Drw.block {n : Nat} {seen blk left : List Nat} {r s : RowO} {L : List Int} (D : Drw n seen (blk ++ left) r) (hs : s.length = n) (hL : L.Pairwise (· < ·)) (hm : ∀ x : Int, x ∈ L ↔ ∃ a ∈ seen ++ blk, x = ((a : Nat) : Int))
    (h1 : ∀ i ∈ blk, s[i]? = some (some L)) (h2 : ∀ i, i ∉ blk → s[i]? = r[i]?) : Drw n (seen ++ blk) left s := by
  have nd' : ((seen ++ blk) ++ left).Nodup := by rw [List.append_assoc]; exact D.nd
  have lt' : ∀ x ∈ (seen ++ blk) ++ left, x < n := fun x hx => D.lt x (by rw [← List.append_assoc]; exact hx)
  have dis : ∀ i, i ∈ seen → i ∉ blk := fun i hi hb => by
    have := (List.nodup_append.mp (List.nodup_append.mp nd').1).2.2 i hi i hb
    exact this rfl
  have view : ∀ (i : Nat) (l : List Int), s[i]? = some (some l) → (i ∈ blk ∧ l = L) ∨ (i ∉ blk ∧ r[i]? = some (some l)) := fun i l h => by
    by_cases c : i ∈ blk
    · rw [h1 i c] at h
      exact .inl ⟨c, (Option.some.inj (Option.some.inj h)).symm⟩
    · exact .inr ⟨c, (h2 i c) ▸ h⟩
  have old : ∀ (i : Nat) (l : List Int), r[i]? = some (some l) → ∀ x ∈ l, x ∈ L := fun i l h x hx => by
    obtain ⟨a, ha, e⟩ := D.sub i l h x hx
    exact (hm x).mpr ⟨a, List.mem_append_left _ ha, e⟩
  refine ⟨⟨hs, fun i l h => ?_, fun i l h => ?_, fun i l h => ?_, fun i j l m h h' => ?_, fun i j l m h h' hin => ?_⟩, nd', lt', fun i l h => ?_, fun i => ?_⟩
  · rcases view i l h with ⟨_, rfl⟩ | ⟨_, q⟩
    · exact hL
    · exact D.ok.up i l q
  · rcases view i l h with ⟨_, rfl⟩ | ⟨_, q⟩
    · intro x hx
      obtain ⟨a, ha, e⟩ := (hm x).mp hx
      have := lt' a (List.mem_append_left _ ha)
      omega
    · exact D.ok.rng i l q
  · rcases view i l h with ⟨hi, rfl⟩ | ⟨_, q⟩
    · exact (hm _).mpr ⟨i, List.mem_append_right _ hi, rfl⟩
    · exact D.ok.self i l q
  · rcases view i l h with ⟨hi, rfl⟩ | ⟨_, q⟩ <;> rcases view j m h' with ⟨hj, rfl⟩ | ⟨_, q'⟩
    · exact .inl fun x hx => hx
    · exact .inr (old j m q')
    · exact .inl (old i l q)
    · exact D.ok.cmp i j l m q q'
  · rcases view i l h with ⟨hi, rfl⟩ | ⟨_, q⟩ <;> rcases view j m h' with ⟨hj, rfl⟩ | ⟨_, q'⟩
    · exact fun x hx => hx
    · obtain ⟨a, ha, e⟩ := D.sub j m q' _ hin
      have : i = a := by omega
      subst this
      exact absurd hi (dis i ha)
    · exact old i l q
    · exact D.ok.fit i j l m q q' hin
  · rcases view i l h with ⟨_, rfl⟩ | ⟨_, q⟩
    · exact fun x hx => (hm x).mp hx
    · intro x hx
      obtain ⟨a, ha, e⟩ := D.sub i l q x hx
      exact ⟨a, List.mem_append_left _ ha, e⟩
  · rw [List.mem_append, D.has]
    constructor
    · rintro (⟨l, h⟩ | h)
      · by_cases c : i ∈ blk
        · exact ⟨L, h1 i c⟩
        · exact ⟨l, by rw [h2 i c]; exact h⟩
      · exact ⟨L, h1 i h⟩
    · rintro ⟨l, h⟩
      rcases view i l h with ⟨hi, _⟩ | ⟨_, q⟩
      · exact .inr hi
      · exact .inl ⟨l, q⟩
/-- sorted, without doubles -/
theorem srt_lt : ∀ {l : List Int}, l.Pairwise (· ≤ ·) → l.Nodup → l.Pairwise (· < ·)
  | [], _, _ => .nil
  | a :: l, h, d => by
    obtain ⟨h1, h2⟩ := List.pairwise_cons.mp h
    obtain ⟨d1, d2⟩ := List.nodup_cons.mp d
    refine List.pairwise_cons.mpr ⟨fun x hx => ?_, srt_lt h2 d2⟩
    have := h1 x hx
    have ne : a ≠ x := fun e => d1 (by rw [e]; exact hx)
    omega
theorem map_int_nodup {l : List Nat} (h : l.Nodup) : (l.map fun a : Nat => (a : Int)).Nodup := by
  unfold List.Nodup at *
  rw [List.pairwise_map]
  exact h.imp fun h e => h (by omega)
end Fp
namespace Fp
open PySem PySem.Spec PyProof.Rows L2
theorem perm_ints {ys zs : List V} {ps : List Int} (h : (ys ++ zs).Perm (ps.map V.int)) : ∃ ns ms : List Int, ys = ns.map V.int ∧ zs = ms.map V.int ∧ (ns ++ ms).Perm ps := by
  obtain ⟨M, pm, e⟩ := perm_mapF h rfl
  obtain ⟨a, b, rfl, ea, eb⟩ := List.map_eq_append_iff.mp e.symm
  exact ⟨a, b, ea.symm, eb.symm, pm⟩
def spDLot : Sp := fun vs H Q _ => ∃ (p q : Addr) (ps : List Int) (m k : Nat), vs = [.ref p, .ref q, .int m] ∧ H q = some (.lst (ps.map V.int)) ∧ ps.Nodup ∧ ps ≠ [] ∧ ps.length ≤ 12 ∧ (∀ x ∈ ps, 0 ≤ x ∧ x ≤ 99) ∧ 1 ≤ m ∧ m ≤ 100 ∧ k < 100000 ∧ PotAt H p k ∧ q ≠ p ∧
  ∀ (c : Addr) (l : List Int) H', But [p] H H' → PotAt H' p (k + 13) → H c = none → H' c = some (.tup (l.map V.int)) → LotOk l → (∀ x ∈ l, x ∈ ps) → l.length ≤ m → Q (.ref c) H'
def spWordsOf (f : List TLn → List Int) : Sp := fun vs H Q _ => ∃ (N : List Addr) (a : Addr) (xs : List V) (ls : List TLn) (D : List Int), vs = [.ref a] ∧ H a = some (.lst xs) ∧ Paired (OLn N H) xs ls ∧ LsW ls D ∧ ∀ v H', Same H H' → LtV H' v (lotM (f ls)) → Q v H'
def spIsPart : Sp := fun vs H Q _ => ∃ (v u : V) (l m : List Int), vs = [v, u] ∧ LtV H v l ∧ LtV H u m ∧ l.length ≤ 1000 ∧ ∀ H', Same H H' → Q (.bl (withinB l m)) H'
section
variable {P : Program} {w : World} {K : PySem.W.Frag} {mg : Str → Option Value} {base : Heap} {f : Addr} {fd : FuncData} {C : Addr}
abbrev s_law_drawn_lot : Stmt := top 36
theorem sc_law_drawn_lot : FnScope ["pot", "pool", "most"] ["pot", "pool", "most"] (defScope s_law_drawn_lot) := ⟨rfl, rfl, rfl, by decide +kernel, rfl, by decide +kernel, by decide +kernel⟩
theorem ok_law_drawn_lot (F : Fun K "_law_drawn_lot" "_law_drawn_lot" s_law_drawn_lot f fd) (T : RTx mg) (G_law_take : Fd P w K mg base CX0 "_law_take" 1 ["pot", "upto"] spTake) (G_law_some : Fd P w K mg base CX0 "_law_some" 2 ["pot", "pool", "many"] (spSome K)) : FnOk P w K mg base CX0 3 f fd ["pot", "pool", "most"] spDLot := by
  refine F.ok sc_law_drawn_lot (fun vs H Q E h => ?_) (fun cdv A outer s H vs Q E hr h => ?_)
  · obtain ⟨p, q, ps, m, k, rfl, _⟩ := h
    rfl
  obtain ⟨p, q, ps, m, k, rfl, hq, hnd, hne, hl, hrg, h1, hm, hk, hP, nqp, kk⟩ := h
  refine ⟨_, (pss_one (ps_ret (pe_callTy call_tuple_of rfl T.tuple (by decide +kernel) (pa_cons (pe_callB cr_sorted rfl T.sorted (by decide +kernel) (pa_cons (pe_fd G_law_some (hr.mono (by first | decide | omega)) rfl (pa_cons (pv 0) (pa_cons (pv 1) (pa_cons (pe_mid (pe_op op_add pe_int (pe_fd G_law_take (hr.mono (by first | decide | omega)) rfl (pa_cons (pv 0) (pa_cons (pe_callB (call_min2 rfl) rfl T.min (by decide +kernel) (pa_cons (pv 2) (pa_cons (pe_callB call_len rfl T.len (by decide +kernel) (pa_cons (pv 1) pa_nil)) pa_nil))) pa_nil))))) pa_nil)))) pa_nil)) pa_nil)))), ?_⟩
  refine ret_in ?_
  have hl0 : 0 < ps.length := List.length_pos_iff.mpr hne
  refine ⟨_, rfl, _, rfl, fun y H' => ∃ j : Nat, y = .int j ∧ 1 ≤ j ∧ j ≤ m ∧ j ≤ ps.length ∧ But [p] H H' ∧ PotAt H' p (k + 1), ?_, ?_⟩
  · refine ⟨_, rfl, _, rfl, _, rfl, _, ps.length, rfl, .inl ⟨_, .of hq, by rw [List.length_map]⟩, _, _, rfl, p, _, k, rfl, ?_, ?_, by omega, hP, fun d H' hd g hp => ⟨_, _, rfl, rfl, d + 1, ?_, by omega, ?_, ?_, g, hp⟩⟩
    · split <;> omega
    · split <;> omega
    · show V.int (1 + (d : Int)) = V.int ((d + 1 : Nat) : Int)
      congr 1
      omega
    · split at hd <;> omega
    · split at hd <;> omega
  rintro y H1 ⟨j, rfl, hj1, hjm, hjl, g1, hP1⟩
  have hq1 := g1 _ _ (by simpa using nqp) hq
  refine ⟨p, q, ps.map V.int, j, k + 1, rfl, .inl (.of hq1), by rw [List.length_map]; exact hjl, by rw [List.length_map]; omega, by omega, hP1, fun l ys zs H2 hyl hperm nl hl2 g2 hP2 => ?_⟩
  obtain ⟨ns, ms, rfl, rfl, hpm⟩ := perm_ints hperm
  rw [List.length_map] at hyl
  refine ⟨l, ns, rfl, .of hl2, by omega, fun out q1 hzp hzs nq1 => ⟨q1, _, rfl, .inl ⟨.of upd_same, fun tp ntp => ?_⟩⟩⟩
  have hnn : ns.Nodup := (List.nodup_append.mp (hpm.nodup_iff.mpr hnd)).1
  have s1 := same_new nq1 (.lst (out.map V.int))
  have s2 := same_new ntp (.tup (out.map V.int))
  have hin : ∀ x ∈ out, x ∈ ps := fun x hx => hpm.mem_iff.mp (List.mem_append_left _ (hzp.mem_iff.mp hx))
  have hlen : out.length = j := by rw [hzp.length_eq, hyl]
  refine kk tp out _ ((g1.trans g2).trans (.of (s1.trans s2))) ((pot_sm (s1.trans s2) hP2).mono (by omega)) ?_ upd_same ⟨fun z => by rw [z] at hlen; simp at hlen; omega, srt_lt hzs (hzp.nodup_iff.mpr hnn), fun x hx => hrg x (hin x hx), by omega⟩ hin (by omega)
  exact (but_none (g1.trans (g2.trans (.of s1))) (pot_sm s1 hP2) ntp).1
abbrev s_law_words_of : Stmt := top 38
theorem sc_law_words_of : FnScope ["lines", "found", "left", "ends"] ["lines"] (defScope s_law_words_of) := ⟨rfl, rfl, rfl, by decide +kernel, rfl, by decide +kernel, by decide +kernel⟩
theorem ok_law_words_of (F : Fun K "_law_words_of" "_law_words_of" s_law_words_of f fd) (T : RTx mg) : FnOk P w K mg base CX0 1 f fd ["lines"] (spWordsOf leftW) := by
  refine F.ok sc_law_words_of (fun vs H Q E h => ?_) (fun cdv A outer s H vs Q E hr h => ?_)
  · obtain ⟨N, a, xs, ls, D, rfl, _⟩ := h
    rfl
  obtain ⟨N, a, xs, ls, D, rfl, ha, hp, W, k⟩ := h
  refine ⟨_, (pss_cons (ps_set (i := 1) sc_law_words_of.nd rfl (Or.inl rfl) (pe_lst pa_nil))
  (pss_cons (ps_for PassesOwn.never rfl (pi_list (pv 0)) (pg_tup rfl (pgs_cons (pg_name (i := 2) sc_law_words_of.nd rfl (Or.inl rfl)) (pgs_cons (pg_name (i := 3) sc_law_words_of.nd rfl (Or.inl rfl)) pgs_nil))) (pss_one (ps_expr (pe_bm PySem.F.plainAttrs_list PySem.F.slot_list_extend PySem.F.type_list_extend mt_extendT (pv 1) (pa_cons (pv 2) pa_nil)))))
  (pss_one (ps_ret (pe_callTy call_tuple_of rfl T.tuple (by decide +kernel) (pa_cons (pe_callB (cr_sortedSet rfl) rfl T.sorted (by decide +kernel) (pa_cons (pe_callTy (cr_setIW rfl) rfl T.set (by decide +kernel) (pa_cons (pv 1) pa_nil)) pa_nil)) pa_nil)))))), ?_⟩
  refine seq_in ?_
  refine asg_in ?_
  refine ⟨szl (by show 0 ≤ _; decide), fun fl nfl => ?_⟩
  have s1 := same_new nfl (.lst [])
  have hfl1 : upd H fl (.lst []) fl = some (.lst []) := upd_same
  have hp1 : Paired (OLn (fl :: N) (upd H fl (.lst []))) xs ls := pr_imp (fun _ _ h => st_ln.but ((But.refl _ _).put List.mem_cons_self) (st_ln.fresh nfl h)) hp
  have nfa : a ≠ fl := ne_of_none ha nfl
  have ha1 := s1 _ _ ha
  generalize upd H fl (.lst []) = H1 at s1 hfl1 hp1 ha1 ⊢
  refine g_set ?_
  refine nx_in ?_
  refine seq_in ?_
  have hxl := pr_len hp
  refine ⟨_, rfl, a, rfl, ⟨_, .of ha1⟩, for_list (K := K) (a := a) (xs := xs) (fun i σ H' => ∃ u2 u3, σ = [some (.ref a), some (.ref fl), u2, u3] ∧ But [fl] H1 H' ∧ H' fl = some (.lst ((leftW (ls.take i)).map V.int))) ⟨_, _, rfl, But.refl _ _, hfl1⟩ ?_ ?_ ?_⟩
  · rintro i σ H' _ ⟨_, _, rfl, g, _⟩
    exact .of (g _ _ (by simpa using nfa) ha1)
  · rintro i x σ H2 hx ⟨u2, u3, rfl, g2, hfl2⟩
    obtain ⟨ln, hln, t, v1, v2, rfl, _, ht, ⟨c, rfl, _, hc⟩, _⟩ := pr_ix (pr_st st_ln (g2.wide (T := fl :: N) (by simp)) hp1) hx
    have hW := (W.sub (List.take_sublist (i + 1) ls)).lw
    have etk : leftW (ls.take (i + 1)) = leftW (ls.take i) ++ ln.1 := by
      unfold leftW
      rw [List.take_add_one, hln, Option.toList_some, List.flatMap_append]; simp
    rw [etk, List.length_append] at hW
    refine ⟨t, _, rfl, .of ht, rfl, _, _, rfl, _, _, rfl, rfl, ?_⟩
    refine ⟨_, rfl, .inl ⟨rfl, _, .of hfl2⟩, _, rfl, fl, c, _, _, rfl, rfl, hfl2, .of hc, szl (by rw [List.length_map, List.length_map]; omega), ?_⟩
    refine ⟨_, _, rfl, g2.put (by simp), ?_⟩
    rw [upd_same, etk, List.map_append]
  · rintro σ H2 ⟨u2, u3, rfl, g2, hfl2⟩
    rw [hxl, List.take_length] at hfl2
    refine nx_in ?_
    refine ret_in ?_
    have g02 : Same H H2 := Same.into s1 g2 nfl
    refine ⟨_, rfl, fl, leftW ls, D, rfl, .of hfl2, W.lw, W.lD, fun s1 c hc n1 => ?_⟩
    have g1 := same_new n1 (SetO w s1 (fun j => decide (j ∈ leftW ls)) c)
    refine ⟨s1, _, c, rfl, upd_same, by have := W.dl; omega, fun zs p hz hm hzl np => ?_⟩
    have g3 := same_new np (.lst (zs.map V.int))
    refine ⟨p, _, rfl, .inl ⟨.of upd_same, fun l nl => ?_⟩⟩
    have g4 := same_new nl (.tup (zs.map V.int))
    refine k (.ref l) _ (((g02.trans g1).trans g3).trans g4) ?_
    rw [← lotM_of hz (fun x => (hm x).trans decide_eq_true_iff) fun x hx => W.dr x (W.lD x hx)]
    exact ⟨l, rfl, upd_same⟩
abbrev s_law_spoken : Stmt := top 39
theorem sc_law_spoken : FnScope ["lines", "found", "left", "ends", "one"] ["lines"] (defScope s_law_spoken) := ⟨rfl, rfl, rfl, by decide +kernel, rfl, by decide +kernel, by decide +kernel⟩
theorem ok_law_spoken (F : Fun K "_law_spoken" "_law_spoken" s_law_spoken f fd) (T : RTx mg) : FnOk P w K mg base CX0 1 f fd ["lines"] (spWordsOf spokW) := by
  refine F.ok sc_law_spoken (fun vs H Q E h => ?_) (fun cdv A outer s H vs Q E hr h => ?_)
  · obtain ⟨N, a, xs, ls, D, rfl, _⟩ := h
    rfl
  obtain ⟨N, a, xs, ls, D, rfl, ha, hp, W, k⟩ := h
  refine ⟨_, (pss_cons (ps_set (i := 1) sc_law_spoken.nd rfl (Or.inl rfl) (pe_lst pa_nil))
  (pss_cons (ps_for PassesOwn.never rfl (pi_list (pv 0)) (pg_tup rfl (pgs_cons (pg_name (i := 2) sc_law_spoken.nd rfl (Or.inl rfl)) (pgs_cons (pg_name (i := 3) sc_law_spoken.nd rfl (Or.inl rfl)) pgs_nil))) (pss_one (ps_for PassesOwn.never rfl (pi_list (pv 3)) (pg_name (i := 4) sc_law_spoken.nd rfl (Or.inl rfl)) (pss_one (ps_expr (pe_bm PySem.F.plainAttrs_list PySem.F.slot_list_extend PySem.F.type_list_extend mt_extendT (pv 1) (pa_cons (pv 4) pa_nil)))))))
  (pss_one (ps_ret (pe_callTy call_tuple_of rfl T.tuple (by decide +kernel) (pa_cons (pe_callB (cr_sortedSet rfl) rfl T.sorted (by decide +kernel) (pa_cons (pe_callTy (cr_setIW rfl) rfl T.set (by decide +kernel) (pa_cons (pv 1) pa_nil)) pa_nil)) pa_nil)))))), ?_⟩
  refine seq_in ?_
  refine asg_in ?_
  refine ⟨szl (by show 0 ≤ _; decide), fun fl nfl => ?_⟩
  have s1 := same_new nfl (.lst [])
  have hfl1 : upd H fl (.lst []) fl = some (.lst []) := upd_same
  have hp1 : Paired (OLn (fl :: N) (upd H fl (.lst []))) xs ls := pr_imp (fun _ _ h => st_ln.but ((But.refl _ _).put List.mem_cons_self) (st_ln.fresh nfl h)) hp
  have nfa : a ≠ fl := ne_of_none ha nfl
  have ha1 := s1 _ _ ha
  generalize upd H fl (.lst []) = H1 at s1 hfl1 hp1 ha1 ⊢
  refine g_set ?_
  refine nx_in ?_
  refine seq_in ?_
  have hxl := pr_len hp
  refine ⟨_, rfl, a, rfl, ⟨_, .of ha1⟩, for_list (K := K) (a := a) (xs := xs) (fun i σ H' => ∃ u2 u3 u4, σ = [some (.ref a), some (.ref fl), u2, u3, u4] ∧ But [fl] H1 H' ∧ H' fl = some (.lst ((spokW (ls.take i)).map V.int))) ⟨_, _, _, rfl, But.refl _ _, hfl1⟩ ?_ ?_ ?_⟩
  · rintro i σ H' _ ⟨_, _, _, rfl, g, _⟩
    exact .of (g _ _ (by simpa using nfa) ha1)
  · rintro i x σ H2 hx ⟨u2, u3, u4, rfl, g2, hfl2⟩
    obtain ⟨ln, hln, t, v1, v2, rfl, _, ht, _, b, ys, rfl, nb, hb, hys⟩ := pr_ix (pr_st st_ln (g2.wide (T := fl :: N) (by simp)) hp1) hx
    have hbf : b ≠ fl := fun z => nb (by rw [z]; exact List.mem_cons_self)
    have hel := pr_len hys
    have hW := (W.sub (List.take_sublist (i + 1) ls)).sw
    have etk : spokW (ls.take (i + 1)) = spokW (ls.take i) ++ ln.2.flatMap id := by
      unfold spokW
      rw [List.take_add_one, hln, Option.toList_some, List.flatMap_append]; simp
    rw [etk, List.length_append] at hW
    refine ⟨t, _, rfl, .of ht, rfl, _, _, rfl, _, _, rfl, rfl, ?_⟩
    refine ⟨_, rfl, b, rfl, ⟨_, .of hb⟩, for_list (K := K) (a := b) (xs := ys) (fun j σ H' => ∃ u4, σ = [some (.ref a), some (.ref fl), some v1, some (.ref b), u4] ∧ But [fl] H2 H' ∧ H' fl = some (.lst ((spokW (ls.take i) ++ (ln.2.take j).flatMap id).map V.int))) ⟨_, rfl, But.refl _ _, by rw [List.take_zero, List.flatMap_nil, List.append_nil]; exact hfl2⟩ ?_ ?_ ?_⟩
    · rintro j σ H' _ ⟨_, rfl, g, _⟩
      exact .of (g _ _ (by simpa using hbf) hb)
    · rintro j y σ H3 hy ⟨u4, rfl, g3, hfl3⟩
      obtain ⟨e, he, c, rfl, _, hc⟩ := pr_ix (pr_st st_lt (g3.wide (T := fl :: N) (by simp)) hys) hy
      have etk2 : (ln.2.take (j + 1)).flatMap id = (ln.2.take j).flatMap id ++ e := by
        rw [List.take_add_one, he, Option.toList_some, List.flatMap_append]; simp
      have hsub : ((ln.2.take (j + 1)).flatMap id).length ≤ (ln.2.flatMap id).length := (fm_sub (List.take_sublist _ _)).length_le
      rw [etk2, List.length_append] at hsub
      refine g_set ?_
      refine ⟨_, rfl, .inl ⟨rfl, _, .of hfl3⟩, _, rfl, fl, c, _, _, rfl, rfl, hfl3, .of hc, szl (by rw [List.length_map, List.length_map, List.length_append]; omega), ?_⟩
      refine ⟨_, rfl, g3.put (by simp), ?_⟩
      rw [upd_same, etk2, ← List.append_assoc]
      simp only [List.map_append]
    · rintro σ H3 ⟨u4, rfl, g3, hfl3⟩
      rw [hel, List.take_length, ← etk] at hfl3
      exact ⟨_, _, _, rfl, g2.trans g3, hfl3⟩
  · rintro σ H2 ⟨u2, u3, u4, rfl, g2, hfl2⟩
    rw [hxl, List.take_length] at hfl2
    refine nx_in ?_
    refine ret_in ?_
    have g02 : Same H H2 := Same.into s1 g2 nfl
    refine ⟨_, rfl, fl, spokW ls, D, rfl, .of hfl2, W.sw, W.sD, fun s1 c hc n1 => ?_⟩
    have g1 := same_new n1 (SetO w s1 (fun j => decide (j ∈ spokW ls)) c)
    refine ⟨s1, _, c, rfl, upd_same, by have := W.dl; omega, fun zs p hz hm hzl np => ?_⟩
    have g3 := same_new np (.lst (zs.map V.int))
    refine ⟨p, _, rfl, .inl ⟨.of upd_same, fun l nl => ?_⟩⟩
    have g4 := same_new nl (.tup (zs.map V.int))
    refine k (.ref l) _ (((g02.trans g1).trans g3).trans g4) ?_
    rw [← lotM_of hz (fun x => (hm x).trans decide_eq_true_iff) fun x hx => W.dr x (W.sD x hx)]
    exact ⟨l, rfl, upd_same⟩
abbrev s_law_is_part : Stmt := top 40
theorem sc_law_is_part : FnScope ["one", "other", "thing"] ["one", "other"] (defScope s_law_is_part) := ⟨rfl, rfl, rfl, by decide +kernel, rfl, by decide +kernel, by decide +kernel⟩
theorem ok_law_is_part (F : Fun K "_law_is_part" "_law_is_part" s_law_is_part f fd) (T : RTx mg) : FnOk P w K mg base CX0 1 f fd ["one", "other"] spIsPart := by
  refine F.ok sc_law_is_part (fun vs H Q E h => ?_) (fun cdv A outer s H vs Q E hr h => ?_)
  · obtain ⟨v, u, l, m, rfl, _⟩ := h
    rfl
  obtain ⟨v, u, l, m, rfl, ⟨c, rfl, hc⟩, ⟨d, rfl, hd⟩, hl, k⟩ := h
  refine ⟨_, (pss_one (ps_ret (pe_callB (cr_all rfl) rfl T.all (by decide +kernel) (pa_cons (pe_lc (own := [("thing", 2)]) (g := (gName 2)) (tt := tYes) rfl sc_law_is_part.nd (pi_tup (pv 0)) (blkOk_by (own := [("thing", 2)]) (N := ["one", "other", "thing"]) (sc := defScope s_law_is_part) (by decide +kernel)) (fun _ _ _ _ _ => (pg_name (i := 2) sc_law_is_part.nd rfl (Or.inl rfl))) (fun _ _ _ _ _ => pts_nil) (fun _ _ _ _ _ => (pe_cmpR op_in_seqK (pv 2) (pv 1) rfl))) pa_nil)))), ?_⟩
  refine ret_in ?_
  refine ⟨_, rfl, c, rfl, ⟨_, .of hc⟩, fun D hD => ?_⟩
  refine lc_bools walk_tup (fun j => decide (l.getD j 0 ∈ m)) hD (by rw [List.length_map]; omega) (fun H' g => .of (g _ _ hc)) (fun j y H6 H7 hj g yy Q4 N kk => ?_) fun H6 g6 h6 => ?_
  · obtain ⟨rfl, hy⟩ := yy
    rw [List.length_map] at hj
    rw [List.getElem?_map, List.getElem?_eq_getElem hj] at hy
    cases hy
    have eg : l.getD j 0 = l[j] := by rw [List.getD_eq_getElem?_getD, List.getElem?_eq_getElem hj]; rfl
    rw [eg] at kk
    refine ⟨rfl, yes_in ?_⟩
    refine ⟨_, rfl, _, rfl, d, m.map V.int, rfl, .inr (.of (g _ _ hd)), rfl, int_flat m, ?_⟩
    show Q4 (V.bl (inV (.int l[j]) (m.map V.int))) _
    rw [inV_int]
    exact kk _ (Same.refl _)
  refine ⟨D, _, rfl, .of h6, ?_⟩
  have e : ((List.range (l.map V.int).length).map fun j => decide (l.getD j 0 ∈ m)).all id = withinB l m := by
    rw [all_id_map, List.length_map]
    unfold withinB
    have := all_getD (l := l) (x := 0) (p := fun x => decide (x ∈ m))
    exact this
  rw [e]
  exact k _ g6
end
end Fp
/-! len of a set of integers -/
namespace L2
open PySem PySem.Spec PyProof.Rows
def rLenSetO (w : World) : List V → Hp → VK → Prop := fun vs H Q => ∃ (a : Addr) (S : Int → Bool) (n : Nat), vs = [V.ref a] ∧ H a = some (SetO w a S n) ∧ ((∀ ns : List Int, ns.Nodup → (∀ k : Int, k ∈ ns ↔ S k = true) → ns.length = n) → Q (.int n) H)
theorem cr_lenSetO {X : Cx} : CallR X (.builtin "len") (rLenSetO X.w) := by
  intro pins s σ H vs us Q I r h
  obtain ⟨a, S, n, rfl, ha, q⟩ := h
  rw [Vals.ref1 r]
  obtain ⟨o, es, ep, t, ho, hex, hd, _, hnd, hm, hb, hf, hn, _⟩ := setO_get I ha
  have hsb : es.size < 2 ^ 63 := by unfold scanBound at hb; omega
  refine call_len_set ho hex hd hf (by omega) ⟨.int n, H, I.tok _, ⟨_, by rw [hn]⟩, q fun ns h1 h2 => ?_⟩
  have hl : es.size = (es.toList.map keyOf).length := by simp
  have a1 := Fp.nodup_le h1 fun x hx => (hm x).mp ((h2 x).mp hx)
  have a2 := Fp.nodup_le hnd fun x hx => (h2 x).mpr ((hm x).mpr hx)
  omega
end L2
namespace Fp
open PySem PySem.Spec PyProof.Rows L2
theorem op_notInDK {X : Cx} {K : PySem.W.Frag} (hu : X.A.units + 65 < cLine) (e : X.K = K := by rfl) : OpR X (compareOp .NotIn) (rNotInD K) := by subst e; exact op_notInD hu
def osc_law_task : Scope := { kind := .function, names := [(".0", .local), ("word", .local), ("range", .globalImplicit), ("_law_take", .globalImplicit), ("pool", .cell), ("pot", .cell)], isGenerator := false, isCoroutine := false }
theorem blkOk_x {N M : List Str} {sc sc' scope : Scope} {own : List (Str × Nat)} (h : blkC N sc scope own = true) (e : M = N) (e2 : sc' = sc) : BlkOk M sc' scope own := by subst e e2; exact blkOk_by h
/-- a task as it is drawn -/
def EndsD (es : List (List Int)) : Prop := es ≠ [] ∧ es.length ≤ 3 ∧ ∀ e ∈ es, LotOk e ∧ e.length ≤ 3
structure TaskD (ls : List TLn) : Prop where
  ok : ∀ ln ∈ ls, LotOk ln.1 ∧ ln.1.length ≤ 4 ∧ EndsD ln.2
  few : ls.length ≤ 8
  nd : (ls.map (·.1)).Nodup
  one : ∀ x ∈ leftW ls, [x] ∈ ls.map (·.1)
  ne : ls ≠ []
  ws : ∃ ws : List Int, ws.length ≤ 5 ∧ (∀ x ∈ leftW ls, x ∈ ws) ∧ ∀ x ∈ ws, 0 ≤ x ∧ x < 100
  ps : ∃ ps : List Int, ps.length ≤ 4 ∧ (∀ x ∈ spokW ls, x ∈ ps) ∧ ∀ x ∈ ps, 0 ≤ x ∧ x < 100
theorem mem_left {ls : List TLn} {x : Int} : x ∈ leftW ls ↔ ∃ ln ∈ ls, x ∈ ln.1 := List.mem_flatMap
theorem mem_spok {ls : List TLn} {x : Int} : x ∈ spokW ls ↔ ∃ ln ∈ ls, ∃ e ∈ ln.2, x ∈ e := by
  unfold spokW
  rw [List.mem_flatMap]
  exact ⟨fun ⟨ln, h, g⟩ => ⟨ln, h, List.mem_flatMap.mp g⟩, fun ⟨ln, h, g⟩ => ⟨ln, h, List.mem_flatMap.mpr g⟩⟩
theorem TaskD.perm {ls ms : List TLn} (h : ls.Perm ms) (T : TaskD ls) : TaskD ms := by
  have el : ∀ {x : Int}, x ∈ leftW ms → x ∈ leftW ls := fun hx => by
    obtain ⟨ln, h1, h2⟩ := mem_left.mp hx
    exact mem_left.mpr ⟨ln, h.mem_iff.mpr h1, h2⟩
  refine ⟨fun ln hl => T.ok ln (h.mem_iff.mpr hl), by rw [← h.length_eq]; exact T.few, (h.map _).nodup_iff.mp T.nd, fun x hx => (h.map _).mem_iff.mp (T.one x (el hx)), fun z => T.ne (List.length_eq_zero_iff.mp (by rw [h.length_eq, z]; rfl)), ?_, ?_⟩
  · obtain ⟨ws, a, b, c⟩ := T.ws
    exact ⟨ws, a, fun x hx => b x (el hx), c⟩
  · obtain ⟨ws, a, b, c⟩ := T.ps
    refine ⟨ws, a, fun x hx => ?_, c⟩
    obtain ⟨ln, h1, h2⟩ := mem_spok.mp hx
    exact b x (mem_spok.mpr ⟨ln, h.mem_iff.mpr h1, h2⟩)
theorem task_d {l0 l1 : List TLn} {ws ps : List Int} {lf : List (List Int)} (e1 : l0.map (fun x => x.1) = ws.map fun x => [x]) (e2 : ∀ ln ∈ l0, EndsD ln.2 ∧ ∀ e ∈ ln.2, ∀ x ∈ e, x ∈ ps) (e3 : l1.map (fun x => x.1) = lf) (e4 : ∀ ln ∈ l1, EndsD ln.2 ∧ ∀ e ∈ ln.2, ∀ x ∈ e, x ∈ ps)
    (nws : ws.Nodup) (wrg : ∀ x ∈ ws, 0 ≤ x ∧ x ≤ 99) (lw : 1 ≤ ws.length) (lw5 : ws.length ≤ 5) (ndf : lf.Nodup) (okf : ∀ l ∈ lf, LotOk l ∧ 2 ≤ l.length ∧ l.length ≤ 4 ∧ ∀ x ∈ l, x ∈ ws) (prg : ∀ x ∈ ps, 0 ≤ x ∧ x ≤ 99) (lp : ps.length ≤ 4) (ll : lf.length ≤ 3) : TaskD (l0 ++ l1) := by
  have m0 : ∀ ln ∈ l0, ∃ w ∈ ws, ln.1 = [w] := fun ln h => by
    have : ln.1 ∈ l0.map (fun x => x.1) := List.mem_map_of_mem h
    rw [e1] at this
    obtain ⟨w, hw, e⟩ := List.mem_map.mp this
    exact ⟨w, hw, e.symm⟩
  have m1 : ∀ ln ∈ l1, ln.1 ∈ lf := fun ln h => by rw [← e3]; exact List.mem_map_of_mem (f := fun x : TLn => x.1) h
  have inw : ∀ x ∈ leftW (l0 ++ l1), x ∈ ws := fun x hx => by
    obtain ⟨ln, h1, h2⟩ := mem_left.mp hx
    rcases List.mem_append.mp h1 with h | h
    · obtain ⟨w, hw, e⟩ := m0 ln h
      rw [e] at h2
      rw [List.mem_singleton.mp h2]
      exact hw
    · exact (okf _ (m1 ln h)).2.2.2 x h2
  have em : (l0 ++ l1).map (fun x => x.1) = (ws.map fun x => [x]) ++ lf := by rw [List.map_append, e1, e3]
  have ln0 := congrArg List.length e1
  have ln1 := congrArg List.length e3
  rw [List.length_map, List.length_map] at ln0
  rw [List.length_map] at ln1
  refine ⟨fun ln h => ?_, by rw [List.length_append]; omega, ?_, fun x hx => ?_, fun z => ?_, ⟨ws, lw5, inw, fun x hx => ⟨(wrg x hx).1, by have := (wrg x hx).2; omega⟩⟩, ⟨ps, lp, fun x hx => ?_, fun x hx => ⟨(prg x hx).1, by have := (prg x hx).2; omega⟩⟩⟩
  · rcases List.mem_append.mp h with h | h
    · obtain ⟨w, hw, e⟩ := m0 ln h
      rw [e]
      exact ⟨⟨by simp, List.pairwise_singleton _ _, fun x hx => by rw [List.mem_singleton.mp hx]; exact wrg w hw, by simp⟩, by simp, (e2 ln h).1⟩
    · have := okf _ (m1 ln h)
      exact ⟨this.1, this.2.2.1, (e4 ln h).1⟩
  · show ((l0 ++ l1).map (fun x => x.1)).Nodup
    rw [em, List.nodup_append]
    refine ⟨?_, ndf, fun a ha b hb => ?_⟩
    · exact List.Pairwise.map _ (fun a b h z => h (by injection z)) nws
    · obtain ⟨w, hw, rfl⟩ := List.mem_map.mp ha
      intro z
      have := (okf b hb).2.1
      rw [← z] at this
      simp at this
  · show [x] ∈ (l0 ++ l1).map (fun x => x.1)
    rw [em]
    exact List.mem_append_left _ (List.mem_map_of_mem (f := fun x => [x]) (inw x hx))
  · have : (l0 ++ l1).length = 0 := by rw [z]; rfl
    rw [List.length_append] at this
    omega
  · obtain ⟨ln, h1, e, he, h2⟩ := mem_spok.mp hx
    rcases List.mem_append.mp h1 with h | h
    · exact (e2 ln h).2 e he x h2
    · exact (e4 ln h).2 e he x h2
def spTask : Sp := fun vs H Q _ => ∃ (p : Addr) (m : Int) (k : Nat), vs = [.ref p, .int m] ∧ PotAt H p k ∧ 1 ≤ m ∧ m ≤ 5 ∧ k < 50000 ∧
  ∀ (l : Addr) (xs : List V) (ls : List TLn) H', But [p] H H' → PotAt H' p (k + 1000) → H l = none → H' l = some (.lst xs) → Paired (OLn [p] H') xs ls → TaskD ls → Q (.ref l) H'
def W7 : List Int := [0, 1, 2, 3, 7, 12, 99]
def F5 : List Int := [0, 1, 2, 5, 40]
def W9 : List Int := W7 ++ [5, 40]
theorem st_add {α : Type} {R : List Addr → Hp → V → α → Prop} (S : StN R) (D : Addr) : StN (fun N => R (D :: N)) := ⟨fun g h => S.but (g.wide fun x hx => List.mem_cons_of_mem _ hx) h, fun s h => S.mono (fun x hx => (List.mem_cons.mp hx).elim (fun z => by rw [z]; exact List.mem_cons_self) fun z => List.mem_cons_of_mem _ (s x z)) h,
  fun hx h => S.mono (fun y hy => by simp only [List.mem_cons] at hy ⊢; rcases hy with r | r | r <;> simp [r]) (S.fresh hx h)⟩
theorem pr_app {α β : Type} {R : α → β → Prop} {ys : List α} {ms : List β} (h2 : Paired R ys ms) : ∀ {xs : List α} {ls : List β}, Paired R xs ls → Paired R (xs ++ ys) (ls ++ ms)
  | _, _, .nil => h2
  | _, _, .cons h t => .cons h (pr_app h2 t)
theorem pr_perm {α β : Type} {R : α → β → Prop} {xs ys : List α} (h : ys.Perm xs) : ∀ {ls : List β}, Paired R xs ls → ∃ ms : List β, ms.Perm ls ∧ Paired R ys ms := by
  induction h with
  | nil => intro ls p; exact ⟨ls, List.Perm.refl _, p⟩
  | cons x h ih =>
    intro ls p
    cases p with
    | cons r t =>
      obtain ⟨ms, hm, q⟩ := ih t
      exact ⟨_ :: ms, hm.cons _, .cons r q⟩
  | swap x y l =>
    intro ls p
    cases p with
    | cons r t =>
      cases t with
      | cons r2 t => exact ⟨_ :: _ :: _, List.Perm.swap _ _ _, .cons r2 (.cons r t)⟩
  | trans h1 h2 ih1 ih2 =>
    intro ls p
    obtain ⟨m1, p1, q1⟩ := ih2 p
    obtain ⟨m2, p2, q2⟩ := ih1 q1
    exact ⟨m2, p2.trans p1, q2⟩
theorem lots_dp {K : PySem.W.Frag} {N : List Addr} {H : Hp} : ∀ {acc : List V} {ls : List (List Int)}, Paired (LtN N H) acc ls → DpAll K H acc ((ls.map fun l => some l).map resP)
  | _, _, .nil => .nil
  | _, _, .cons h t => .cons (lt_dp h.v) (lots_dp t)
/-- some drawn ends -/
theorem ends_draw {H : Hp} {Q : VK} {p lp D0 : Addr} {a1 a2 a4 a5 a6 a7 a8 : Option V} {ps : List Int} {k m : Nat} (hP : PotAt H p k) (hk : k < 90000) (hm : 2 ≤ m ∧ m ≤ 3) (hps : H lp = some (.lst (ps.map V.int))) (nlp : lp ≠ p) (hD0 : ∃ o, H D0 = some o) (pD0 : D0 ≠ p)
    (pnd : ps.Nodup) (pne : ps ≠ []) (pl : ps.length ≤ 12) (prg : ∀ x ∈ ps, 0 ≤ x ∧ x ≤ 99)
    (kq : ∀ (b : Addr) (es : List (List Int)) H', But [p] H H' → PotAt H' p (k + 40) → H b = none → LsN [D0, p] H' (.ref b) es → EndsD es → (∀ e ∈ es, ∀ x ∈ e, x ∈ ps) → Q (.ref b) H') :
    tLc (iRng1 (tCons (tOp (rI0 fun i j => V.int (i + j)) (tC (V.int 1)) (tCall spTake [] E0 (tCons (tVar 0) (tCons (tC (V.int (m : Int))) tNil)))) tNil)) (gName 4) tYes (tCall spDLot [] E0 (tCons (tVar 0) (tCons (tVar 3) (tCons (tC (V.int (m : Int))) tNil)))) [4]
      [some (.ref p), a1, a2, some (.ref lp), a4, a5, a6, a7, a8] H Q := by
  refine ⟨_, rfl, p, _, k, rfl, by omega, by omega, by omega, hP, fun d H1 hd g1 hP1 => ⟨_, _, rfl, rfl, 1 + (d : Int), rfl, by omega, by omega, fun D nD => ?_⟩⟩
  obtain ⟨o0, ho0⟩ := hD0
  have h01 := g1 _ _ (by simpa using pD0) ho0
  obtain ⟨nDH, Dp⟩ := but_none g1 hP1 nD
  have en : (1 + (d : Int)).toNat = d + 1 := by omega
  rw [en]
  refine lc_draw (R := fun N => LtN (D0 :: N)) (walk_range (lo := 0) (n := d + 1)) (st_add st_lt D0) [p] (fun j H' => PotAt H' p (k + 1 + 13 * j)) (fun j l => l.length = j ∧ j ≤ 3 ∧ ∀ e ∈ l, LotOk e ∧ e.length ≤ 3 ∧ ∀ x ∈ e, x ∈ ps)
    (fun _ _ _ _ _ h => pot_upd h Dp) (fun i l h => by have := h.1; have := h.2.1; omega) nD (by simpa using Dp) (fun _ _ => True.intro) ⟨rfl, by omega, (fun _ h => nomatch h)⟩ (pot_upd (by simpa using hP1) Dp) ?_ ?_
  · rintro i x H2 H3 l hi g2 ⟨us, hus⟩ ⟨hl, hl3, hin⟩ hP2 ⟨rfl, rfl⟩ Q4 N k4 _
    refine ⟨rfl, yes_in ?_⟩
    have hps2 := g2 _ _ (by simpa using nlp) (g1 _ _ (by simpa using nlp) hps)
    refine ⟨_, rfl, _, rfl, p, lp, ps, m, k + 1 + 13 * i, rfl, hps2, pnd, pne, pl, prg, by omega, by omega, by omega, hP2, nlp, fun c e H4 g4 hP4 nc hc he hein hel => ?_⟩
    refine k4 e _ H4 ⟨by rw [List.length_append, hl]; rfl, by omega, fun e' h => ?_⟩ g4 (hP4.mono (by omega)) ⟨c, rfl, ?_, hc⟩
    · rcases List.mem_append.mp h with h | h
      · exact hin e' h
      · rw [List.mem_singleton.mp h]
        exact ⟨he, by omega, hein⟩
    · have h02 := g2 _ _ (by simpa using pD0) h01
      simp only [List.mem_cons, List.not_mem_nil, or_false, not_or]
      exact ⟨(fun z => by rw [z, h02] at nc; cases nc), (fun z => by rw [z, hus] at nc; cases nc), (but_none (But.refl _ _) hP2 nc).2⟩
  · rintro H2 acc l g2 hP2 ⟨hl, hl3, hin⟩ hacc hp
    have b12 := g1.trans g2
    refine kq D l H2 b12 (hP2.mono (by omega)) nDH ⟨D, acc, rfl, ?_, hacc, pr_imp (fun _ _ h => st_lt.mono (by simp) h) hp⟩ ⟨(fun z => by rw [z] at hl; cases hl), by omega, fun e he => ⟨(hin e he).1, (hin e he).2.1⟩⟩ fun e he => (hin e he).2.2
    simp only [List.mem_cons, List.not_mem_nil, or_false, not_or]
    exact ⟨(fun z => by rw [z, ho0] at nDH; cases nDH), Dp⟩
section
variable {P : Program} {w : World} {K : PySem.W.Frag} {mg : Str → Option Value} {base : Heap} {f : Addr} {fd : FuncData} {C : Addr}
abbrev s_law_task : Stmt := top 37
theorem sc_law_task : FnScope ["pot", "most", "words", "pool", "lap", "lines", "lefts", "left", "word"] ["pot", "most"] (defScope s_law_task) := ⟨rfl, rfl, rfl, by decide +kernel, rfl, by decide +kernel, by decide +kernel⟩
theorem ok_law_task (F : Fun K "_law_task" "_law_task" s_law_task f fd) (T : RTx mg) (G_law_take : Fd P w K mg base CX0 "_law_take" 1 ["pot", "upto"] spTake) (G_law_some : Fd P w K mg base CX0 "_law_some" 2 ["pot", "pool", "many"] (spSome K)) (G_law_drawn_lot : Fd P w K mg base CX0 "_law_drawn_lot" 3 ["pot", "pool", "most"] spDLot) : FnOk P w K mg base CX0 4 f fd ["pot", "most"] spTask := by
  refine F.ok sc_law_task (fun vs H Q E h => ?_) (fun cdv A outer s H vs Q E hr h => ?_)
  · obtain ⟨p, m, k, rfl, _⟩ := h
    rfl
  obtain ⟨p, m, k, rfl, hP, h1, h5, hk, kk⟩ := h
  refine ⟨_, (pss_cons (ps_set (i := 2) sc_law_task.nd rfl (Or.inl rfl) (pe_callB cr_sorted rfl T.sorted (by decide +kernel) (pa_cons (pe_fd G_law_some (hr.mono (by first | decide | omega)) rfl (pa_cons (pv 0) (pa_cons (pe_lst (pa_cons pe_int (pa_cons pe_int (pa_cons pe_int (pa_cons pe_int (pa_cons pe_int (pa_cons pe_int (pa_cons pe_int pa_nil)))))))) (pa_cons (pe_op op_add pe_int (pe_fd G_law_take (hr.mono (by first | decide | omega)) rfl (pa_cons (pv 0) (pa_cons (pv 1) pa_nil)))) pa_nil)))) pa_nil)))
  (pss_cons (ps_set (i := 3) sc_law_task.nd rfl (Or.inr rfl) (pe_fd G_law_some (hr.mono (by first | decide | omega)) rfl (pa_cons (pv 0) (pa_cons (pe_mid (pe_callB (cr_sortedSet rfl) rfl T.sorted (by decide +kernel) (pa_cons (pe_callTy (cr_setIW rfl) rfl T.set (by decide +kernel) (pa_cons (pe_op op_cat (pv 2) (pe_lst (pa_cons pe_int (pa_cons pe_int (pa_cons pe_int (pa_cons pe_int (pa_cons pe_int pa_nil))))))) pa_nil)) pa_nil))) (pa_cons (pe_mid (pe_callB (call_min2 rfl) rfl T.min (by decide +kernel) (pa_cons pe_int (pa_cons (pe_callB cr_lenSetO rfl T.len (by decide +kernel) (pa_cons (pe_callTy (cr_setIW rfl) rfl T.set (by decide +kernel) (pa_cons (pe_op op_cat (pv 2) (pe_lst (pa_cons pe_int (pa_cons pe_int (pa_cons pe_int (pa_cons pe_int (pa_cons pe_int pa_nil))))))) pa_nil)) pa_nil)) pa_nil)))) pa_nil)))))
  (pss_cons (ps_setLc (i := 5) (own := [("word", 8)]) (g := (gName 8)) (tt := tYes) rfl sc_law_task.nd rfl rfl (sw_true rfl rfl rfl (by decide +kernel)) (pi_list (pv 2)) (blkOk_by (own := [("word", 8)]) (N := ["pot", "most", "words", "pool", "lap", "lines", "lefts", "left", "word"]) (sc := defScope s_law_task) (by decide +kernel)) (fun _ _ _ _ _ => (pg_name (i := 8) sc_law_task.nd rfl (Or.inl rfl))) (fun _ _ _ _ _ => pts_nil) (fun _ _ _ _ _ => (pe_tup (pa_cons (pe_tup (pa_cons (pv 8) pa_nil)) (pa_cons (pe_lc (own := [("lap", 4)]) (g := (gName 4)) (tt := tYes) rfl sc_law_task.nd (pi_range1 rfl T.range (pa_cons (pe_op op_add pe_int (pe_fd G_law_take (hr.mono (by first | decide | omega)) rfl (pa_cons (pv 0) (pa_cons pe_int pa_nil)))) pa_nil)) (blkOk_by (own := [("lap", 4)]) (N := ["pot", "most", "words", "pool", "lap", "lines", "lefts", "left", "word"]) (sc := osc_law_task) (by decide +kernel)) (fun _ _ _ _ _ => (pg_name (i := 4) sc_law_task.nd rfl (Or.inl rfl))) (fun _ _ _ _ _ => pts_nil) (fun _ _ _ _ _ => (pe_fd G_law_drawn_lot (hr.mono (by first | decide | omega)) rfl (pa_cons (pv 0) (pa_cons (pv 3) (pa_cons pe_int pa_nil)))))) pa_nil)))))
  (pss_cons (ps_set (i := 6) sc_law_task.nd rfl (Or.inl rfl) (pe_lst pa_nil))
  (pss_cons (ps_for PassesOwn.never rfl (pi_range1 rfl T.range (pa_cons (pe_mid (pe_ifExp (pt_cmpR op_gt (pe_callB call_len rfl T.len (by decide +kernel) (pa_cons (pv 2) pa_nil)) pe_int (nomark _)) (pe_fd G_law_take (hr.mono (by first | decide | omega)) rfl (pa_cons (pv 0) (pa_cons pe_int pa_nil))) pe_int)) pa_nil)) (pg_name (i := 4) sc_law_task.nd rfl (Or.inl rfl)) (pss_cons (ps_set (i := 7) sc_law_task.nd rfl (Or.inl rfl) (pe_callTy call_tuple_of rfl T.tuple (by decide +kernel) (pa_cons (pe_callB cr_sorted rfl T.sorted (by decide +kernel) (pa_cons (pe_fd G_law_some (hr.mono (by first | decide | omega)) rfl (pa_cons (pv 0) (pa_cons (pv 2) (pa_cons (pe_mid (pe_op op_add pe_int (pe_fd G_law_take (hr.mono (by first | decide | omega)) rfl (pa_cons (pv 0) (pa_cons (pe_callB (call_min2 rfl) rfl T.min (by decide +kernel) (pa_cons pe_int (pa_cons (pe_op op_sub (pe_callB call_len rfl T.len (by decide +kernel) (pa_cons (pv 2) pa_nil)) pe_int) pa_nil))) pa_nil))))) pa_nil)))) pa_nil)) pa_nil)))
  (pss_one (ps_expr (pe_bm PySem.F.plainAttrs_list PySem.F.slot_list_extend PySem.F.type_list_extend mt_extend (pv 6) (pa_cons (pe_ifExp (pt_cmpR (op_notInDK (u65 hr)) (pv 7) (pv 6) rfl) (pe_lst (pa_cons (pv 7) pa_nil)) (pe_lst pa_nil)) pa_nil))))))
  (pss_cons (ps_for PassesOwn.never rfl (pi_list (pv 6)) (pg_name (i := 7) sc_law_task.nd rfl (Or.inl rfl)) (pss_one (ps_expr (pe_bm PySem.F.plainAttrs_list PySem.F.slot_list_append PySem.F.type_list_append mt_append (pv 5) (pa_cons (pe_tup (pa_cons (pv 7) (pa_cons (pe_lc (own := [("lap", 4)]) (g := (gName 4)) (tt := tYes) rfl sc_law_task.nd (pi_range1 rfl T.range (pa_cons (pe_op op_add pe_int (pe_fd G_law_take (hr.mono (by first | decide | omega)) rfl (pa_cons (pv 0) (pa_cons pe_int pa_nil)))) pa_nil)) (blkOk_by (own := [("lap", 4)]) (N := ["pot", "most", "words", "pool", "lap", "lines", "lefts", "left", "word"]) (sc := defScope s_law_task) (by decide +kernel)) (fun _ _ _ _ _ => (pg_name (i := 4) sc_law_task.nd rfl (Or.inl rfl))) (fun _ _ _ _ _ => pts_nil) (fun _ _ _ _ _ => (pe_fd G_law_drawn_lot (hr.mono (by first | decide | omega)) rfl (pa_cons (pv 0) (pa_cons (pv 3) (pa_cons pe_int pa_nil)))))) pa_nil))) pa_nil)))))
  (pss_one (ps_ret (pe_fd G_law_some (hr.mono (by first | decide | omega)) rfl (pa_cons (pv 0) (pa_cons (pv 5) (pa_cons (pe_callB call_len rfl T.len (by decide +kernel) (pa_cons (pv 5) pa_nil)) pa_nil)))))))))))), ?_⟩
  refine seq_in ?_
  refine asg_in ?_
  refine ⟨_, rfl, szl (by show 7 ≤ _; decide), fun q0 nq0 => ?_⟩
  have hq0 : upd H q0 (.lst [V.int 0, V.int 1, V.int 2, V.int 3, V.int 7, V.int 12, V.int 99]) q0 = some (.lst [V.int 0, V.int 1, V.int 2, V.int 3, V.int 7, V.int 12, V.int 99]) := upd_same
  have b0 : But [p] H (upd H q0 (.lst [V.int 0, V.int 1, V.int 2, V.int 3, V.int 7, V.int 12, V.int 99])) := .of (same_new nq0 _)
  have hP0 := pot_sm (same_new nq0 (.lst [V.int 0, V.int 1, V.int 2, V.int 3, V.int 7, V.int 12, V.int 99])) hP
  have nq0p : q0 ≠ p := (but_none (But.refl _ _) hP nq0).2
  generalize upd H q0 (.lst [V.int 0, V.int 1, V.int 2, V.int 3, V.int 7, V.int 12, V.int 99]) = H1 at hq0 b0 hP0 ⊢
  refine ⟨_, rfl, _, rfl, p, _, k, rfl, by omega, by omega, by omega, hP0, fun d H2 hd g2 hP2 => ?_⟩
  have hq2 := g2 _ _ (by simpa using nq0p) hq0
  refine ⟨_, _, rfl, rfl, p, q0, W7.map V.int, d + 1, k + 1, by show [_, _, V.int (1 + (d : Int))] = _; rw [show (1 : Int) + (d : Int) = ((d + 1 : Nat) : Int) by omega], .inl (.of hq2), by show d + 1 ≤ 7; omega, by show 7 < 1000; decide, by omega, hP2, fun l ys zs H3 hyl hperm nl hl3 g3 hP3 => ?_⟩
  obtain ⟨ns, ms, rfl, rfl, hpm⟩ := perm_ints hperm
  rw [List.length_map] at hyl
  refine ⟨l, ns, rfl, .of hl3, by omega, fun ws q1 hws hsrt nq1 => ?_⟩
  have lws : ws.length = d + 1 := by rw [hws.length_eq, hyl]
  have nws : ws.Nodup := hws.nodup_iff.mpr (List.nodup_append.mp (hpm.nodup_iff.mpr (by decide))).1
  have inW : ∀ x ∈ ws, x ∈ W7 := fun x hx => hpm.mem_iff.mp (List.mem_append_left _ (hws.mem_iff.mp hx))
  have b3 := (b0.trans g2).trans g3
  obtain ⟨nq1H, q1p⟩ := but_none b3 hP3 nq1
  have b4 : But [p] H (upd H3 q1 (.lst (ws.map V.int))) := but_put b3 nq1H
  have hP4 : PotAt (upd H3 q1 (.lst (ws.map V.int))) p (k + 8) := (pot_put hP3 q1p).mono (by omega)
  have hw4 : upd H3 q1 (.lst (ws.map V.int)) q1 = some (.lst (ws.map V.int)) := upd_same
  generalize upd H3 q1 (.lst (ws.map V.int)) = H4 at b4 hP4 hw4 ⊢
  clear hl3 hP3 nq1 b3 b0 hq0 g2 hP2 hq2 g3 hP0
  refine g_set ?_
  refine nx_in ?_
  refine seq_in ?_
  refine asg_in ?_
  have lF : (ws ++ F5).length ≤ 1000 := by rw [List.length_append, lws]; show d + 1 + 5 ≤ 1000; omega
  have inD : ∀ x ∈ ws ++ F5, x ∈ W9 := fun x hx => by
    rcases List.mem_append.mp hx with h | h
    · exact List.mem_append_left _ (inW x h)
    · exact (by decide : ∀ x ∈ F5, x ∈ W9) x h
  refine ⟨_, rfl, fun y H' => ∃ (q5 : Addr) (zs : List Int), y = .ref q5 ∧ Same H4 H' ∧ H' q5 = some (.lst (zs.map V.int)) ∧ zs.Pairwise (· < ·) ∧ (∀ x, x ∈ zs ↔ x ∈ ws ++ F5), ?_, ?_⟩
  · refine ⟨_, rfl, szl (by show 5 ≤ _; decide), fun q2 nq2 => ⟨q1, q2, _, _, rfl, rfl, same_new nq2 _ _ _ hw4, upd_same, szl (by rw [List.length_map]; show ws.length + 5 ≤ _; omega), fun q3 nq3 => ⟨q3, ws ++ F5, W9, rfl, .of (by rw [upd_same, List.map_append]; rfl), lF, inD, fun s4 c hc n4 => ⟨s4, _, c, rfl, upd_same, Nat.lt_of_le_of_lt hc (by decide), fun zs q5 hz hm hzl n5 => ?_⟩⟩⟩⟩
    have g := (((same_new nq2 (.lst _)).trans (same_new nq3 (.lst _))).trans (same_new n4 _)).trans (same_new n5 (.lst (zs.map V.int)))
    exact ⟨q5, zs, rfl, g, upd_same, hz, fun x => (hm x).trans decide_eq_true_iff⟩
  rintro y H5 ⟨q5, zs, rfl, g5, hz5, hz, hm⟩
  have hw5 := g5 _ _ hw4
  refine ⟨fun y H' => y = .int ((min 4 zs.length : Nat)) ∧ Same H5 H', ?_, ?_⟩
  · refine ⟨_, rfl, szl (by show 5 ≤ _; decide), fun q2 nq2 => ⟨q1, q2, _, _, rfl, rfl, same_new nq2 _ _ _ hw5, upd_same, szl (by rw [List.length_map]; show ws.length + 5 ≤ _; omega), fun q3 nq3 => ⟨q3, ws ++ F5, W9, rfl, .of (by rw [upd_same, List.map_append]; rfl), lF, inD, fun s4 c hc n4 => ⟨s4, _, c, rfl, upd_same, fun hlen => ⟨_, _, rfl, ?_, ?_⟩⟩⟩⟩⟩
    · have e := hlen zs (srt_nodup hz) fun x => (hm x).trans decide_eq_true_iff.symm
      rw [e]
      congr 1
      split <;> omega
    · exact ((same_new nq2 (.lst _)).trans (same_new nq3 (.lst _))).trans (same_new n4 _)
  rintro y H6 ⟨rfl, g6⟩
  have lzs : zs.length ≤ 9 := nodup_le (srt_nodup hz) fun x hx => inD x ((hm x).mp hx)
  have lz1 : 1 ≤ zs.length := List.length_pos_iff.mpr fun e => by
    have : (0 : Int) ∈ zs := (hm 0).mpr (List.mem_append_right _ (by decide))
    rw [e] at this
    cases this
  refine ⟨p, q5, zs.map V.int, min 4 zs.length, k + 8, rfl, .inl (.of (g6 _ _ hz5)), by rw [List.length_map]; omega, by rw [List.length_map]; omega, by omega, pot_sm (g5.trans g6) hP4, fun l2 ys zs2 H7 hyl2 hperm2 nl2 hl7 g7 hP7 => ?_⟩
  obtain ⟨ps, ms2, rfl, rfl, hpm2⟩ := perm_ints hperm2
  rw [List.length_map] at hyl2
  have pnd : ps.Nodup := (List.nodup_append.mp (hpm2.nodup_iff.mpr (srt_nodup hz))).1
  have pin : ∀ x ∈ ps, x ∈ W9 := fun x hx => inD x ((hm x).mp (hpm2.mem_iff.mp (List.mem_append_left _ hx)))
  have prg : ∀ x ∈ ps, 0 ≤ x ∧ x ≤ 99 := fun x hx => (by decide : ∀ x ∈ W9, 0 ≤ x ∧ x ≤ 99) x (pin x hx)
  have wrg : ∀ x ∈ ws, 0 ≤ x ∧ x ≤ 99 := fun x hx => (by decide : ∀ x ∈ W7, 0 ≤ x ∧ x ≤ 99) x (inW x hx)
  have pne : ps ≠ [] := fun z => by rw [z] at hyl2; simp at hyl2; omega
  have b6 : But [p] H H6 := b4.trans (.of (g5.trans g6))
  have b7 := b6.trans g7
  have lp := (but_none b6 (pot_sm (g5.trans g6) hP4) nl2).2
  have hw7 := g7 _ _ (by simpa using q1p) (g6 _ _ hw5)
  have hP7' : PotAt H7 p (k + 12) := hP7.mono (by omega)
  clear hP7 g7 nl2 hz5 g6 g5 hw4 hw5 b4 b6 hP4
  refine g_set ?_
  refine nx_in ?_
  refine seq_in ?_
  refine asg_in ?_
  refine ⟨_, rfl, q1, rfl, ⟨_, .of hw7⟩, fun D nD => ?_⟩
  obtain ⟨nDH, Dp⟩ := but_none b7 hP7' nD
  refine lc_draw (R := OLn) (walk_list (xs := ws.map V.int)) st_ln [p] (fun i H' => PotAt H' p (k + 12 + 40 * i)) (fun i l => l.map (·.1) = (ws.take i).map (fun x => [x]) ∧ ∀ ln ∈ l, EndsD ln.2 ∧ ∀ e ∈ ln.2, ∀ x ∈ e, x ∈ ps)
    (fun _ _ _ _ _ h => pot_upd h Dp) (fun i l h => ?_) nD (by simpa using Dp) (fun H' g => .of (g _ _ (by simpa using q1p) hw7)) ⟨rfl, (fun _ h => nomatch h)⟩ (pot_upd (by simpa using hP7') Dp) ?_ ?_
  · have := congrArg List.length h.1
    rw [List.length_map, List.length_map, List.length_take] at this
    omega
  · rintro i x H9 H8 l hi g8 ⟨us, hus⟩ ⟨e1, e2⟩ hP8 ⟨rfl, hx⟩ Q4 N kk4 _
    rw [List.length_map] at hi
    rw [List.getElem?_map, List.getElem?_eq_getElem hi] at hx
    cases hx
    refine ⟨rfl, yes_in ?_⟩
    refine ⟨_, rfl, szl (by show 1 ≤ _; decide), fun tw ntw => ?_⟩
    have s9 := same_new ntw (.tup [V.int ws[i]])
    have hps8 := g8 _ _ (by simpa using lp) hl7
    refine ends_draw (m := 2) (D0 := D) (k := k + 12 + 40 * i) (pot_sm s9 hP8) (by omega) (by omega) (s9 _ _ hps8) lp ⟨_, s9 _ _ hus⟩ Dp pnd pne (by omega) prg fun b es H10 g10 hP10 nb hb hes hep => ?_
    have twn : tw ∉ [D, p] := by
      simp only [List.mem_cons, List.not_mem_nil, or_false, not_or]
      exact ⟨(fun z => by rw [z, hus] at ntw; cases ntw), (but_none (But.refl _ _) hP8 ntw).2⟩
    have htw := g10 _ _ (fun z => twn (List.mem_cons_of_mem _ z)) (upd_same : upd H8 tw (.tup [V.int ws[i]]) tw = _)
    refine ⟨szl (by show 2 ≤ _; decide), fun tl ntl => ?_⟩
    have s11 := same_new ntl (.tup [V.ref tw, V.ref b])
    have b8 : But [p] H8 H10 := (But.of s9).trans g10
    obtain ⟨ntl8, tlp⟩ := but_none b8 hP10 ntl
    refine kk4 ([ws[i]], es) _ _ ⟨?_, fun ln hln => ?_⟩ (b8.trans (.of s11)) ((pot_sm s11 hP10).mono (by omega)) ⟨tl, _, _, rfl, ?_, upd_same, ⟨tw, rfl, twn, s11 _ _ htw⟩, st_ls.but (.of s11) hb⟩
    · rw [List.map_append, e1, List.take_add_one, List.getElem?_eq_getElem hi, Option.toList_some, List.map_append]
      rfl
    · rcases List.mem_append.mp hln with h | h
      · exact e2 ln h
      · rw [List.mem_singleton.mp h]
        exact ⟨hes, hep⟩
    · simp only [List.mem_cons, List.not_mem_nil, or_false, not_or]
      exact ⟨(fun z => by rw [z, hus] at ntl8; cases ntl8), tlp⟩
  rintro H8 acc l0 g8 hP8 ⟨e1, e2⟩ hacc hp8
  rw [List.length_map] at hP8 e1
  rw [List.take_length] at e1
  have b8 := b7.trans g8
  have hw8 := g8 _ _ (by simpa using q1p) hw7
  have hps8 := g8 _ _ (by simpa using lp) hl7
  have hP8' : PotAt H8 p (k + 12 + 200) := hP8.mono (by omega)
  clear b7 hP7' hl7 hw7 nD g8 hP8
  refine g_set ?_
  refine nx_in ?_
  refine seq_in ?_
  refine asg_in ?_
  refine ⟨szl (by show 0 ≤ _; decide), fun L6 n6 => ?_⟩
  have s9 := same_new n6 (.lst [])
  have h69 : upd H8 L6 (.lst []) L6 = some (.lst []) := upd_same
  obtain ⟨n6H, L6p⟩ := but_none b8 hP8' n6
  have L6D : L6 ≠ D := fun z => by rw [z, hacc] at n6; cases n6
  have L6q : L6 ≠ q1 := fun z => by rw [z, hw8] at n6; cases n6
  have hp9 : Paired (OLn [L6, D, p] (upd H8 L6 (.lst []))) acc l0 := pr_imp (fun _ _ h => st_ln.but ((But.refl _ _).put List.mem_cons_self) (st_ln.fresh n6 h)) hp8
  have hacc9 := s9 _ _ hacc
  have hw9 := s9 _ _ hw8
  have hps9 := s9 _ _ hps8
  have hP9 := pot_sm s9 hP8'
  have b9 : But [p] H (upd H8 L6 (.lst [])) := b8.trans (.of s9)
  generalize upd H8 L6 (.lst []) = H9 at h69 hp9 hacc9 hw9 hps9 hP9 b9 ⊢
  clear b8 hP8' n6 s9 hp8 hacc hw8 hps8
  refine g_set ?_
  refine nx_in ?_
  refine seq_in ?_
  refine ⟨fun y H' => ∃ n : Nat, y = .int n ∧ n ≤ 3 ∧ (n = 0 ∨ 1 < ws.length) ∧ But [p] H9 H' ∧ PotAt H' p (k + 213), ?_, ?_⟩
  · refine ⟨_, rfl, _, ws.length, rfl, .inl ⟨_, .of hw9, by rw [List.length_map]⟩, _, _, rfl, rfl, _, rfl, ?_⟩
    refine ite2 (fun c => ?_) (fun c => ?_)
    · have c' := of_decide_eq_true c
      exact ⟨_, rfl, p, _, _, rfl, by omega, by omega, by omega, hP9, fun d H10 hd g10 hP10 => ⟨d, rfl, by omega, .inr (by omega), g10, hP10.mono (by omega)⟩⟩
    · exact ⟨0, rfl, by omega, .inl rfl, But.refl _ _, hP9.mono (by omega)⟩
  rintro y H10 ⟨n, rfl, hn3, hn1, g10, hP10⟩
  have h6_10 := g10 _ _ (by simpa using L6p) h69
  have hp10 := pr_st st_ln (g10.wide (T := [L6, D, p]) (by simp)) hp9
  have hacc10 := g10 _ _ (by simpa using Dp) hacc9
  have hw10 := g10 _ _ (by simpa using q1p) hw9
  have hps10 := g10 _ _ (by simpa using lp) hps9
  have b10 := b9.trans g10
  clear b9 hP9 h69 hp9 hacc9 hw9 hps9 g10
  refine ⟨n, rfl, by omega, by omega, for_range (lo := 0) (n := n) (fun i σ H' => ∃ u4 u7 ys lf, σ = [some (.ref p), some (.int m), some (.ref q1), some (.ref l2), u4, some (.ref D), some (.ref L6), u7, none] ∧ But [L6, p] H10 H' ∧ PotAt H' p (k + 213 + 10 * i) ∧ H' L6 = some (.lst ys) ∧ Paired (LtN [L6, D, p] H') ys lf ∧ lf.Nodup ∧ lf.length ≤ i ∧ ∀ l ∈ lf, LotOk l ∧ 2 ≤ l.length ∧ l.length ≤ 4 ∧ ∀ x ∈ l, x ∈ ws) ⟨none, none, [], [], rfl, But.refl _ _, hP10, h6_10, .nil, List.nodup_nil, Nat.le_refl _, (fun _ h => nomatch h)⟩ ?_ ?_⟩
  · rintro i σ H11 hi ⟨u4, u7, ys, lf, rfl, g11, hP11, h11, hlf, ndf, lef, okf⟩
    have hw11 := g11 _ _ (by simp only [List.mem_cons, List.not_mem_nil, or_false, not_or]; exact ⟨Ne.symm L6q, q1p⟩) hw10
    have hD11 := g11 _ _ (by simp only [List.mem_cons, List.not_mem_nil, or_false, not_or]; exact ⟨Ne.symm L6D, Dp⟩) hacc10
    refine g_set ?_
    refine seq_in ?_
    refine asg_in ?_
    refine ⟨_, rfl, _, rfl, fun y H' => ∃ j : Nat, y = .int j ∧ 2 ≤ j ∧ j ≤ 4 ∧ j ≤ ws.length ∧ But [p] H11 H' ∧ PotAt H' p (k + 214 + 10 * i), ?_, ?_⟩
    · refine ⟨_, rfl, _, rfl, _, ws.length, rfl, .inl ⟨_, .of hw11, by rw [List.length_map]⟩, _, _, rfl, rfl, _, _, rfl, p, _, _, rfl, ?_, ?_, by omega, hP11, fun d2 H12 hd2 g12 hP12 => ⟨_, _, rfl, rfl, d2 + 2, ?_, by omega, ?_, ?_, g12, hP12.mono (by omega)⟩⟩
      · split <;> omega
      · split <;> omega
      · show V.int (2 + (d2 : Int)) = V.int ((d2 + 2 : Nat) : Int)
        congr 1
        omega
      · split at hd2 <;> omega
      · split at hd2 <;> omega
    rintro y H12 ⟨j, rfl, hj2, hj4, hjl, g12, hP12⟩
    have hw12 := g12 _ _ (by simpa using q1p) hw11
    have hD12 := g12 _ _ (by simpa using Dp) hD11
    have h12 := g12 _ _ (by simpa using L6p) h11
    refine ⟨p, q1, ws.map V.int, j, _, rfl, .inl (.of hw12), by rw [List.length_map]; exact hjl, by rw [List.length_map]; omega, by omega, hP12, fun l3 ys3 zs3 H13 hyl3 hperm3 nl3 hl3 g13 hP13 => ?_⟩
    obtain ⟨ns3, ms3, rfl, rfl, hpm3⟩ := perm_ints hperm3
    rw [List.length_map] at hyl3
    refine ⟨l3, ns3, rfl, .of hl3, by omega, fun out q3 hzp hzs nq3 => ⟨q3, _, rfl, .inl ⟨.of upd_same, fun tp ntp => ?_⟩⟩⟩
    have hnn : ns3.Nodup := (List.nodup_append.mp (hpm3.nodup_iff.mpr nws)).1
    have hD13 := g13 _ _ (by simpa using Dp) hD12
    have h13 := g13 _ _ (by simpa using L6p) h12
    have s1 := same_new nq3 (.lst (out.map V.int))
    have s2 := same_new ntp (.tup (out.map V.int))
    have s12 := s1.trans s2
    have hin : ∀ x ∈ out, x ∈ ws := fun x hx => hpm3.mem_iff.mp (List.mem_append_left _ (hzp.mem_iff.mp hx))
    have hlen : out.length = j := by rw [hzp.length_eq, hyl3]
    have hok : LotOk out := ⟨(fun z => by rw [z] at hlen; simp at hlen; omega), srt_lt hzs (hzp.nodup_iff.mpr hnn), fun x hx => wrg x (hin x hx), by omega⟩
    have tpn : tp ∉ [L6, D, p] := by
      have a1 := s1 _ _ h13
      have a2 := s1 _ _ hD13
      simp only [List.mem_cons, List.not_mem_nil, or_false, not_or]
      exact ⟨(fun z => by rw [z, a1] at ntp; cases ntp), (fun z => by rw [z, a2] at ntp; cases ntp), (but_none (But.refl _ _) (pot_sm s1 hP13) ntp).2⟩
    have g13' : But [L6, p] H11 (upd (upd H13 q3 (.lst (out.map V.int))) tp (.tup (out.map V.int))) := ((g12.trans g13).trans (.of s12)).wide (by simp)
    have hP14 : PotAt (upd (upd H13 q3 (.lst (out.map V.int))) tp (.tup (out.map V.int))) p (k + 213 + 10 * (i + 1)) := (pot_sm s12 hP13).mono (by omega)
    have h14 := s12 _ _ h13
    have ht14 : LtN [L6, D, p] (upd (upd H13 q3 (.lst (out.map V.int))) tp (.tup (out.map V.int))) (.ref tp) out := ⟨tp, rfl, tpn, upd_same⟩
    have hlf14 := pr_st st_lt (g13'.wide (T := [L6, D, p]) (by simp)) hlf
    have g14 := g11.trans g13'
    generalize upd (upd H13 q3 (.lst (out.map V.int))) tp (.tup (out.map V.int)) = H14 at hP14 h14 ht14 hlf14 g14 ⊢
    clear s1 s2 s12 nq3 ntp g13' h13 hD13 hl3 nl3 hP13 g13 h12 hD12 hw12 hP12 g12 hP11 h11 hlf g11 hw11 hD11
    refine g_set ?_
    refine nx_in ?_
    refine ⟨_, rfl, .inl ⟨rfl, _, .of h14⟩, _, rfl, _, rfl, lotP out, (lf.map fun l => some l).map resP, lt_dp ht14.v, .lst (.of h14) (lots_dp hlf14), lotP_shaped _, res_shaped _, _, rfl, ?_⟩
    have ea : (((lf.map fun l => some l).map resP).any fun z => PyData.eqv z (lotP out)) = decide (out ∈ lf) := by
      rw [List.any_map, List.any_map, Bool.eq_iff_iff, List.any_eq_true, decide_eq_true_iff]
      exact ⟨fun ⟨x, hx, e⟩ => by rw [← of_decide_eq_true ((lotP_eqv x out).symm.trans e)]; exact hx, fun h => ⟨out, h, (lotP_eqv out out).trans (decide_eq_true rfl)⟩⟩
    rw [ea]
    refine ite2 (fun c => ?_) (fun c => ?_)
    · refine ⟨_, rfl, szl (by show 1 ≤ _; decide), fun e ne => ?_⟩
      have s := same_new ne (.lst [V.ref tp])
      refine ⟨L6, e, _, _, rfl, rfl, s _ _ h14, upd_same, szl (by rw [pr_len hlf14]; show lf.length + 1 ≤ _; omega), ?_⟩
      refine ⟨_, _, ys ++ [V.ref tp], lf ++ [out], rfl, (g14.trans (.of s)).put (by simp), pot_upd (pot_sm s hP14) L6p, upd_same, ?_, ?_, ?_, ?_⟩
      · have gu : But [L6, D, p] H14 (upd (upd H14 e (.lst [V.ref tp])) L6 (.lst (ys ++ [V.ref tp]))) := (But.of s).put (by simp)
        exact pr_snoc (st_lt.but gu ht14) (pr_st st_lt gu hlf14)
      · have c' : out ∉ lf := by simpa using c
        rw [List.nodup_append]
        exact ⟨ndf, by simp, fun a ha b hb => by rw [List.mem_singleton.mp hb]; exact fun z => c' (z ▸ ha)⟩
      · rw [List.length_append]
        exact Nat.succ_le_succ lef
      · intro l hl
        rcases List.mem_append.mp hl with h | h
        · exact okf l h
        · rw [List.mem_singleton.mp h]
          exact ⟨hok, by omega, by omega, hin⟩
    · refine ⟨szl (by show 0 ≤ _; decide), fun e ne => ?_⟩
      have s := same_new ne (.lst [])
      refine ⟨L6, e, _, _, rfl, rfl, s _ _ h14, upd_same, szl (by rw [pr_len hlf14]; show lf.length + 0 ≤ _; omega), ?_⟩
      rw [List.append_nil]
      have gu : But [L6, D, p] H14 (upd (upd H14 e (.lst [])) L6 (.lst ys)) := (But.of s).put (by simp)
      exact ⟨_, _, ys, lf, rfl, (g14.trans (.of s)).put (by simp), pot_upd (pot_sm s hP14) L6p, upd_same, pr_st st_lt gu hlf14, ndf, by omega, okf⟩
  rintro σ H11 ⟨u4, u7, ys, lf, rfl, g11, hP11, h11, hlf, ndf, lef, okf⟩
  refine nx_in ?_
  refine seq_in ?_
  have hll := pr_len hlf
  have l6n : L6 ∉ [D, p] := by
    simp only [List.mem_cons, List.not_mem_nil, or_false, not_or]
    exact ⟨L6D, L6p⟩
  have hp11 : Paired (OLn [D, p] H11) acc l0 := pr_imp (fun _ _ h => st_ln.mono (by simp) h) (pr_st st_ln (g11.wide (T := [L6, D, p]) (by simp)) hp10)
  have hlf11 : Paired (LtN [D, p] H11) ys lf := pr_imp (fun _ _ h => st_lt.mono (by simp) h) hlf
  have hacc11 := g11 _ _ (by simp only [List.mem_cons, List.not_mem_nil, or_false, not_or]; exact ⟨Ne.symm L6D, Dp⟩) hacc10
  have l2L : l2 ≠ L6 := fun z => by rw [z, h6_10] at hps10; simp at hps10; exact pne hps10
  have hps11 := g11 _ _ (by simp only [List.mem_cons, List.not_mem_nil, or_false, not_or]; exact ⟨l2L, lp⟩) hps10
  have b11 : But [p] H H11 := but_drop ((b10.wide (T := [L6, p]) (by simp)).trans g11) n6H
  have hP11' : PotAt H11 p (k + 243) := hP11.mono (by omega)
  clear g11 hP11 b10 hp10 hacc10 hlf h6_10 hP10 hps10 hw10
  refine ⟨_, rfl, L6, rfl, ⟨_, .of h11⟩, for_list (K := K) (a := L6) (xs := ys) (fun i σ H' => ∃ u4 u7 ac2 l1, σ = [some (.ref p), some (.int m), some (.ref q1), some (.ref l2), u4, some (.ref D), some (.ref L6), u7, none] ∧ But [D, p] H11 H' ∧ PotAt H' p (k + 243 + 40 * i) ∧ H' D = some (.lst (acc ++ ac2)) ∧ Paired (OLn [D, p] H') ac2 l1 ∧ l1.map (·.1) = lf.take i ∧ ∀ ln ∈ l1, EndsD ln.2 ∧ ∀ e ∈ ln.2, ∀ x ∈ e, x ∈ ps)
    ⟨_, _, [], [], rfl, But.refl _ _, hP11', by rw [List.append_nil]; exact hacc11, .nil, rfl, (fun _ h => nomatch h)⟩ ?_ ?_ ?_⟩
  · rintro i σ H' _ ⟨_, _, _, _, rfl, g, _⟩
    exact .of (g _ _ l6n h11)
  · rintro i x σ H12 hx ⟨u4, u7, ac2, l1, rfl, g12, hP12, hD12, hp12, e3, e4⟩
    obtain ⟨lt, hlt, c, rfl, nc, hc⟩ := pr_ix (pr_st st_lt g12 hlf11) hx
    have hil := get_lt hx
    have l2D : l2 ≠ D := fun z => by
      have := hps11
      rw [z, hacc11] at this
      cases hp11 with
      | nil => simp at this; exact pne this
      | cons h t =>
        obtain ⟨_, _, _, rfl, _⟩ := h
        cases ps with
        | nil => exact pne rfl
        | cons a b => injection this with this; injection this with this; injection this with this; cases this
    have hps12 := g12 _ _ (by simp only [List.mem_cons, List.not_mem_nil, or_false, not_or]; exact ⟨l2D, lp⟩) hps11
    refine g_set ?_
    refine ⟨_, rfl, .inl ⟨rfl, _, .of hD12⟩, _, rfl, ?_⟩
    refine ends_draw (m := 3) (D0 := D) (k := k + 243 + 40 * i) hP12 (by omega) (by omega) hps12 lp ⟨_, hD12⟩ Dp pnd pne (by omega) prg fun b es H13 g13 hP13 nb hb hes hep => ?_
    refine ⟨szl (by show 2 ≤ _; decide), fun tl ntl => ?_⟩
    have s := same_new ntl (.tup [V.ref c, V.ref b])
    have hD13 := g13 _ _ (by simpa using Dp) hD12
    have hc13 := g13 _ _ (fun z => nc (List.mem_cons_of_mem _ z)) hc
    have tln : tl ∉ [D, p] := by
      simp only [List.mem_cons, List.not_mem_nil, or_false, not_or]
      exact ⟨(fun z => by rw [z, hD13] at ntl; cases ntl), (but_none (But.refl _ _) hP13 ntl).2⟩
    have l1l := congrArg List.length e3
    rw [List.length_map, List.length_take] at l1l
    refine ⟨D, _, _, rfl, rfl, s _ _ hD13, szt (by rw [List.length_append, pr_len hp11, pr_len hp12]; have := congrArg List.length e1; rw [List.length_map, List.length_map] at this; omega), ?_⟩
    have gs : But [D, p] H13 (upd (upd H13 tl (.tup [V.ref c, V.ref b])) D (.lst (acc ++ ac2 ++ [V.ref tl]))) := (But.of s).put (by simp)
    have gu : But [D, p] (upd H13 tl (.tup [V.ref c, V.ref b])) (upd (upd H13 tl (.tup [V.ref c, V.ref b])) D (.lst (acc ++ ac2 ++ [V.ref tl]))) := (But.refl _ _).put (by simp)
    have gw : But [D, p] H12 H13 := g13.wide (by simp)
    refine ⟨_, _, ac2 ++ [V.ref tl], l1 ++ [(lt, es)], rfl, (g12.trans gw).trans gs, pot_upd ((pot_sm s hP13).mono (by omega)) Dp, by rw [upd_same, List.append_assoc], pr_snoc ?_ (pr_st st_ln (gw.trans gs) hp12), ?_, ?_⟩
    · exact st_ln.but gu ⟨tl, _, _, rfl, tln, upd_same, ⟨c, rfl, nc, s _ _ hc13⟩, st_ls.but (.of s) hb⟩
    · rw [List.map_append, e3, List.take_add_one, hlt]
      rfl
    · intro ln hln
      rcases List.mem_append.mp hln with h | h
      · exact e4 ln h
      · rw [List.mem_singleton.mp h]
        exact ⟨hes, hep⟩
  rintro σ H12 ⟨u4, u7, ac2, l1, rfl, g12, hP12, hD12, hp12, e3, e4⟩
  rw [hll, List.take_length] at e3
  have e3l := congrArg List.length e3
  rw [List.length_map] at e3l
  have e1l := congrArg List.length e1
  rw [List.length_map, List.length_map] at e1l
  have lal := pr_len hp11
  have lcl := pr_len hp12
  refine nx_in ?_
  refine ret_in ?_
  refine ⟨_, rfl, _, rfl, _, rfl, _, (acc ++ ac2).length, rfl, .inl ⟨_, .of hD12, rfl⟩, p, D, acc ++ ac2, (acc ++ ac2).length, k + 243 + 40 * ys.length, rfl, .inl (.of hD12), Nat.le_refl _, by rw [List.length_append]; omega, by rw [List.length_append]; omega, hP12, fun l ys2 zs2 H13 hyl hperm nl hl g13 hP13 => ?_⟩
  have ez : zs2 = [] := by
    have := hperm.length_eq
    rw [List.length_append] at this
    exact List.length_eq_zero_iff.mp (by omega)
  subst ez
  rw [List.append_nil] at hperm
  have b12 : But [p] H H12 := but_drop ((b11.wide (T := [D, p]) (by simp)).trans g12) nDH
  have hpall : Paired (OLn [p] H13) (acc ++ ac2) (l0 ++ l1) := pr_imp (fun _ _ h => st_ln.but g13 (st_ln.mono (by simp) h)) (pr_app hp12 (pr_st st_ln g12 hp11))
  obtain ⟨ls2, hpm2', hp2⟩ := pr_perm hperm hpall
  refine kk l ys2 ls2 H13 (b12.trans g13) (hP13.mono (by rw [List.length_append]; omega)) (but_none b12 hP12 nl).1 hl hp2 (TaskD.perm hpm2'.symm (task_d e1 e2 e3 e4 nws wrg (by omega) (by omega) ndf okf prg (by omega) (by omega)))
end
end Fp
/-! sorted(tuple of integers) -/
namespace L2
open PySem PySem.Spec PyProof.Rows
section
variable {P : Program} {w : World} {A : Around} {E : Value → Shared → Prop} {s : Shared}
theorem sorted_tupI {u : Addr} {o : Obj} {items : Array Value} {n : Nat} {ns : List Int} {Q : Value → Shared → Prop} (ho : s.heap.get? u = some o) (hc : o.cls = .type "tuple") (hd : o.data = .seq items n) (hi : IntsAre items.toList ns) (h64 : items.size < 64)
    (hQ : ∀ (h' z : Heap) (out : Array Value) (ns' : List Int) (c : Nat), (∀ b o, s.heap.get? b = some o → h'.get? b = some o) → (∀ b o, h'.get? b = some o → z.get? b = some o) → z.get? h'.objs.size = some (seqObj "list" out c) → IntsAre out.toList ns' → ns'.Perm ns → ns'.Pairwise (· ≤ ·) → Q (.ref h'.objs.size) { s with heap := z }) :
    wpAny (model P w) A (call (.builtin "sorted") [.ref u]) Q E s := by
  refine Calls.call_function_entry kind_sorted plain_sorted entry_sorted (args_sorted1 _) ?_
  unfold Builtin.«sorted»
  refine wpAny_bind (m := checkCount "sorted" 1 1 _) (wpAny_pure ?_)
  have gz : items.toList.length ≤ sizeLine := by rw [sizeLine_eq, Array.length_toList]; omega
  refine wpAny_bind (wpAny_collect_seq (A := A.in1) u (.inr rfl) ho hc hd (fun h' kp => ?_) (by rw [sizeLine_eq]; omega))
  refine wpAny_bind (wpAny_newList ?_ gz)
  have hLst : (h'.push (seqObj "list" items.toList.toArray 0)).get? h'.objs.size = some (seqObj "list" items.toList.toArray 0) := Heap.get?_push_size _ rfl
  refine wpAny_bind (wpAny_holding (wpAny_call_entry slot_list_sort ⟨_, hLst, rfl⟩ entry_list_sort (list_sort_tree (s := { s with heap := h'.push (seqObj "list" items.toList.toArray 0) }) hLst hi (by rw [Array.length_toList]; exact h64) fun out ns' h1 h2 h3 => ⟨_, rfl, ?_⟩) (args_list_sort _)))
  obtain ⟨c, hc⟩ := sortedHeap_at (vs := items.toList) (out := out) hLst
  refine wpAny_pure ⟨_, rfl, hQ h' _ out ns' c kp (fun b o e2 => ?_) hc h1 h2 h3⟩
  exact (sortedHeap_old (Nat.ne_of_lt (Heap.lt_size e2)) (Heap.lt_size (Heap.get?_push_of_some _ e2))).trans (Heap.get?_push_of_some _ e2)
end
def rSortedTI (K : PySem.W.Frag) : List V → Hp → VK → Prop := fun vs H Q => ∃ (a : Addr) (ns : List Int), vs = [V.ref a] ∧ SqT K H a (ns.map V.int) ∧ ns.length < 64 ∧
  ∀ (ns' : List Int) (p : Addr), ns'.Perm ns → ns'.Pairwise (· ≤ ·) → H p = none → Q (.ref p) (upd H p (.lst (ns'.map V.int)))
section
variable {X : Cx}
theorem cr_sortedTI : CallR X (.builtin "sorted") (rSortedTI X.K) := by
  intro pins s σ H vs us Q I r h
  obtain ⟨a, ns, rfl, hs, h64, q⟩ := h
  rw [Vals.ref1 r]
  obtain ⟨its, rv, ⟨o, ho, hc, m, hd⟩, hz⟩ := I.tuple hs
  have hl := rv.length
  rw [List.length_map] at hl
  refine sorted_tupI ho hc hd (by simpa using rv.ints) (by rw [List.size_toArray]; omega) fun h' z out ns' c kp kp2 hout h1 h2 h3 => ?_
  have I1 : Inv X pins σ H { s with heap := h' } := I.kept (t' := s.toks) kp
  have hn : H h'.objs.size = none := I1.hok.fresh (Nat.le_refl _)
  have hlen : (ns'.map V.int).length ≤ sizeLine := by rw [List.length_map, h2.length_eq]; exact small64 h64
  exact ⟨.ref h'.objs.size, _, I1.laid (t' := s.toks) kp2 (Nat.le_refl _) (show ObjOk X.prog X.w _ z _ (.lst (ns'.map V.int)) from ⟨hlen, out.toList, c, vals_of_ints h1, hout⟩), rfl, q ns' _ h2 h3 hn⟩
end
end L2
namespace Fp
open PySem PySem.Spec PyProof.Rows L2
/-- lots that lie in one another -/
structure ChainD (some : List Int) (cs : List (List Int)) : Prop where
  ok : ∀ c ∈ cs, LotOk c ∧ ∀ x ∈ c, x ∈ some
  up : cs.Pairwise fun a b => subL a b
  len : cs.length = some.length
def spChain (K : PySem.W.Frag) : Sp := fun vs H Q _ => ∃ (p a : Addr) (ns : List Int) (k : Nat), vs = [.ref p, .ref a] ∧ PotAt H p k ∧ k < 60000 ∧ H a = some (.tup (ns.map V.int)) ∧ ns.Nodup ∧ (∀ x ∈ ns, 0 ≤ x ∧ x ≤ 99) ∧ ns.length ≤ 12 ∧ a ≠ p ∧
  ∀ (l : Addr) (xs : List V) (cs : List (List Int)) H', But [p] H H' → PotAt H' p (k + 20) → H l = none → H' l = some (.lst xs) → Paired (LtN [p] H') xs cs → ChainD ns cs → Q (.ref l) H'
theorem eqv_nil (l : List PyData) : PyData.eqv (.list l) (.list []) = l.isEmpty := by
  cases l <;> simp [PyData.eqv, PyData.eqvAll]
section
variable {P : Program} {w : World} {K : PySem.W.Frag} {mg : Str → Option Value} {base : Heap} {f : Addr} {fd : FuncData} {C : Addr}
abbrev s_law_chain : Stmt := top 41
theorem sc_law_chain : FnScope ["pot", "some", "found", "left", "one"] ["pot", "some"] (defScope s_law_chain) := ⟨rfl, rfl, rfl, by decide +kernel, rfl, by decide +kernel, by decide +kernel⟩
theorem ok_law_chain (F : Fun K "_law_chain" "_law_chain" s_law_chain f fd) (T : RTx mg) (G_law_take : Fd P w K mg base CX0 "_law_take" 1 ["pot", "upto"] spTake) (G_law_some : Fd P w K mg base CX0 "_law_some" 2 ["pot", "pool", "many"] (spSome K)) : FnOk P w K mg base CX0 3 f fd ["pot", "some"] (spChain K) := by
  refine F.ok sc_law_chain (fun vs H Q E h => ?_) (fun cdv A outer s H vs Q E hr h => ?_)
  · obtain ⟨p, a, ns, k, rfl, _⟩ := h
    rfl
  obtain ⟨p, a, ns, k, rfl, hP, hk, ha, nd, rg, ln, nap, kk⟩ := h
  refine ⟨_, (pss_cons (ps_par (i := 2) (j := 3) (by rfl) sc_law_chain.nd rfl rfl (by decide) rfl rfl (pa_cons (pe_lst pa_nil) (pa_cons (pe_callTy call_list_of rfl T.list (by decide +kernel) (pa_cons (pv 1) pa_nil)) pa_nil)) (by rfl))
  (pss_cons (ps_for PassesOwn.never rfl (pi_list (pe_fd G_law_some (hr.mono (by first | decide | omega)) rfl (pa_cons (pv 0) (pa_cons (pv 3) (pa_cons (pe_callB call_len rfl T.len (by decide +kernel) (pa_cons (pv 3) pa_nil)) pa_nil))))) (pg_name (i := 4) sc_law_chain.nd rfl (Or.inl rfl)) (pss_one (ps_expr (pe_bm PySem.F.plainAttrs_list PySem.F.slot_list_append PySem.F.type_list_append mt_append (pv 2) (pa_cons (pe_callTy call_tuple_of rfl T.tuple (by decide +kernel) (pa_cons (pe_callB cr_sortedTI rfl T.sorted (by decide +kernel) (pa_cons (pe_mid (pe_op op_catA (pe_ifExp (pt_cmpR (op_neD hr.units) (pv 2) (pe_lst pa_nil) (nomark _)) (pe_ix ix_list (pv 2) (pe_un un_neg pe_int) (fun _ _ => rfl)) (pe_tup pa_nil)) (pe_tup (pa_cons (pv 4) pa_nil)))) pa_nil)) pa_nil)) pa_nil)))))
  (pss_one (ps_ret (pv 2))))), ?_⟩
  refine seq_in ?_
  refine ⟨szl (by show 0 ≤ _; decide), fun l1 n1 => ⟨_, rfl, a, _, rfl, .inr (.of (same_new n1 _ _ _ ha)), fun l2 n2 => ⟨_, _, rfl, ?_⟩⟩⟩
  have s1 := same_new n1 (.lst [])
  have s2 := same_new n2 (.lst (ns.map V.int))
  have h1 := s2 _ _ (upd_same : upd H l1 (.lst []) l1 = _)
  have h2 : upd (upd H l1 (.lst [])) l2 (.lst (ns.map V.int)) l2 = some (.lst (ns.map V.int)) := upd_same
  have hP2 := pot_sm (s1.trans s2) hP
  have b2 : But [p] H (upd (upd H l1 (.lst [])) l2 (.lst (ns.map V.int))) := .of (s1.trans s2)
  have l1p := (but_none (But.refl _ _) hP n1).2
  generalize upd (upd H l1 (.lst [])) l2 (.lst (ns.map V.int)) = H2 at h1 h2 hP2 b2 ⊢
  clear s1 s2 n2
  refine nx_in ?_
  refine seq_in ?_
  refine ⟨_, rfl, _, rfl, _, rfl, _, ns.length, rfl, .inl ⟨_, .of h2, by rw [List.length_map]⟩, p, l2, ns.map V.int, ns.length, k, rfl, .inl (.of h2), by rw [List.length_map]; exact Nat.le_refl _, by rw [List.length_map]; omega, by omega, hP2, fun l ys zs H3 hyl hperm nl hl g3 hP3 => ?_⟩
  obtain ⟨ms, ms2, rfl, rfl, hpm⟩ := perm_ints hperm
  rw [List.length_map] at hyl
  have ez : ms2 = [] := by
    have := hpm.length_eq
    rw [List.length_append] at this
    exact List.length_eq_zero_iff.mp (by omega)
  subst ez
  rw [List.append_nil] at hpm
  have h13 := g3 _ _ (by simpa using l1p) h1
  have nll : l ≠ l1 := fun z => by rw [z, h1] at nl; cases nl
  have lp := (but_none (But.refl _ _) hP2 nl).2
  have b3 := b2.trans g3
  have nms := hpm.nodup_iff.mpr nd
  refine ⟨l, rfl, ⟨_, .of hl⟩, for_list (K := K) (a := l) (xs := ms.map V.int) (fun i σ H' => ∃ u4 acc cs, σ = [some (.ref p), some (.ref a), some (.ref l1), some (.ref l2), u4] ∧ But [l1, p] H3 H' ∧ PotAt H' p (k + 12) ∧ H' l1 = some (.lst acc) ∧ Paired (LtN [l1, p] H') acc cs ∧ cs.length = i ∧ (∀ c ∈ cs, LotOk c ∧ ∀ x ∈ c, x ∈ ms.take i) ∧ cs.Pairwise (fun a b => subL a b))
    ⟨_, [], [], rfl, But.refl _ _, hP3.mono (by omega), h13, .nil, rfl, (fun _ h => nomatch h), .nil⟩ ?_ ?_ ?_⟩
  · rintro i σ H' _ ⟨_, _, _, rfl, g, _⟩
    exact .of (g _ _ (by simp only [List.mem_cons, List.not_mem_nil, or_false, not_or]; exact ⟨nll, lp⟩) hl)
  · rintro i x σ H4 hx ⟨u4, acc, cs, rfl, g4, hP4, h14, hcs, hcl, hok, hup⟩
    have hi := get_lt hx
    rw [List.length_map] at hi
    rw [List.getElem?_map, List.getElem?_eq_getElem hi] at hx
    cases hx
    have hal := pr_len hcs
    refine g_set ?_
    refine ⟨_, rfl, .inl ⟨rfl, _, .of h14⟩, ?_⟩
    refine ⟨fun y H' => ∃ t : Addr, y = .ref t ∧ Same H4 H' ∧ H' t = some (.tup ((cs.getLastD [] ++ [ms[i]]).map V.int)), ?_, ?_⟩
    · refine ⟨_, rfl, szl (by show 0 ≤ _; decide), fun e ne => ?_⟩
      have s := same_new ne (.lst [])
      refine ⟨.list ((cs.map some).map resP), .list [], .lst (.of (s _ _ h14)) (lots_dp (pr_st st_lt (But.of s) hcs)), .lst (.of upd_same) .nil, res_shaped _, by decide, ?_⟩
      refine ⟨_, rfl, ?_⟩
      rw [eqv_nil]
      have hcase : cs = [] ∨ ∃ c0 b, cs = c0 ++ [b] := by
        cases e : cs.reverse with
        | nil => exact .inl (by simpa using e)
        | cons b r => exact .inr ⟨r.reverse, b, by have := congrArg List.reverse e; simpa using this⟩
      rcases hcase with rfl | ⟨c0, b, rfl⟩
      · refine iteF ?_
        refine ⟨szl (by show 0 ≤ _; decide), fun e2 ne2 => ⟨_, rfl, szl (by show 1 ≤ _; decide), fun e3 ne3 => ?_⟩⟩
        have s2 := same_new ne2 (.tup [])
        have s3 := same_new ne3 (.tup [V.int ms[i]])
        exact ⟨e2, e3, [], [V.int ms[i]], rfl, rfl, .of (s3 _ _ upd_same), .of upd_same, szl (by show 0 + 1 ≤ _; omega), fun _ => ⟨e3, rfl, (s.trans s2).trans s3, upd_same⟩, fun z => absurd rfl z, fun z => absurd rfl z⟩
      · have ef : (!((c0 ++ [b]).map some |>.map resP).isEmpty) = true := by cases c0 <;> rfl
        rw [ef]
        refine iteT ?_
        obtain ⟨ac0, v, rfl, hc0, c, rfl, nc, hc⟩ := pr_snoc_inv hcs
        refine ⟨_, rfl, _, rfl, l1, _, -1, _, rfl, rfl, .of (s _ _ h14), atI_last ac0 _, _, rfl, szl (by show 1 ≤ _; decide), fun e3 ne3 => ?_⟩
        have s3 := same_new ne3 (.tup [V.int ms[i]])
        have hbl := ((hok b (by simp)).1).few
        have hbn : b.map V.int ≠ [] := fun z => (hok b (by simp)).1.ne (List.map_eq_nil_iff.mp z)
        refine ⟨c, e3, b.map V.int, [V.int ms[i]], rfl, rfl, .of (s3 _ _ (s _ _ hc)), .of upd_same, szl (by rw [List.length_map]; show b.length + 1 ≤ _; omega), fun z => absurd z hbn, (fun _ z => nomatch z), fun _ _ t nt => ⟨t, rfl, (s.trans s3).trans (same_new nt _), ?_⟩⟩
        rw [upd_same, List.getLastD_concat, List.map_append]
        rfl
    rintro y H5 ⟨t, rfl, s5, ht⟩
    have hlast : (∀ x ∈ cs.getLastD [], x ∈ ms.take i ∧ 0 ≤ x) ∧ (cs.getLastD []).Nodup ∧ ∀ c ∈ cs, subL c (cs.getLastD []) := by
      have hcase : cs = [] ∨ ∃ c0 b, cs = c0 ++ [b] := by
        cases e : cs.reverse with
        | nil => exact .inl (by simpa using e)
        | cons b r => exact .inr ⟨r.reverse, b, by have := congrArg List.reverse e; simpa using this⟩
      rcases hcase with rfl | ⟨c0, b, rfl⟩
      · exact ⟨(fun _ h => nomatch h), .nil, (fun _ h => nomatch h)⟩
      · rw [List.getLastD_concat]
        have hb := hok b (by simp)
        refine ⟨fun x hx => ⟨hb.2 x hx, (hb.1.rng x hx).1⟩, srt_nodup hb.1.up, fun c hc => ?_⟩
        rcases List.mem_append.mp hc with h | h
        · exact (List.pairwise_append.mp hup).2.2 c h b (by simp)
        · rw [List.mem_singleton.mp h]
          exact fun x hx => hx
    have hnew : ms[i] ∉ ms.take i := fun h => by
      obtain ⟨j, hj, e⟩ := List.getElem_of_mem h
      rw [List.length_take] at hj
      rw [List.getElem_take] at e
      exact List.pairwise_iff_getElem.mp nms j i (by omega) hi (by omega) e
    have ndl : (cs.getLastD [] ++ [ms[i]]).Nodup := by
      rw [List.nodup_append]
      exact ⟨hlast.2.1, by simp, fun a ha b hb => by rw [List.mem_singleton.mp hb]; exact fun z => hnew (z ▸ (hlast.1 a ha).1)⟩
    have inl : ∀ x ∈ cs.getLastD [] ++ [ms[i]], x ∈ ms.take (i + 1) := fun x hx => by
      rw [List.take_add_one, List.getElem?_eq_getElem hi]
      rcases List.mem_append.mp hx with h | h
      · exact List.mem_append_left _ (hlast.1 x h).1
      · exact List.mem_append_right _ (by simpa using h)
    have lenl : (cs.getLastD [] ++ [ms[i]]).length ≤ 12 := by
      have := nodup_le ndl fun x hx => List.mem_of_mem_take (inl x hx)
      omega
    refine ⟨t, _, rfl, .of ht, by omega, fun out q3 hzp hzs nq3 => ⟨q3, _, rfl, .inl ⟨.of upd_same, fun tp ntp => ?_⟩⟩⟩
    have s6 := same_new nq3 (.lst (out.map V.int))
    have s7 := same_new ntp (.tup (out.map V.int))
    have h17 := (s6.trans s7) _ _ (s5 _ _ h14)
    have hin : ∀ x ∈ out, x ∈ ms.take (i + 1) := fun x hx => inl x (hzp.mem_iff.mp hx)
    have hlot : LotOk out := ⟨(fun z => by have := hzp.length_eq; rw [z, List.length_append] at this; simp at this), srt_lt hzs (hzp.nodup_iff.mpr ndl), fun x hx => rg x (hpm.mem_iff.mp (List.mem_of_mem_take (hin x hx))), by rw [hzp.length_eq]; omega⟩
    have s57 := s5.trans (s6.trans s7)
    refine ⟨l1, acc, _, rfl, rfl, h17, szt (by omega), ?_⟩
    have gu : But [l1, p] H4 (upd (upd (upd H5 q3 (.lst (out.map V.int))) tp (.tup (out.map V.int))) l1 (.lst (acc ++ [V.ref tp]))) := (But.of s57).put (by simp)
    have gv : But [l1, p] (upd (upd H5 q3 (.lst (out.map V.int))) tp (.tup (out.map V.int))) (upd (upd (upd H5 q3 (.lst (out.map V.int))) tp (.tup (out.map V.int))) l1 (.lst (acc ++ [V.ref tp]))) := (But.refl _ _).put (by simp)
    have tpn : tp ∉ [l1, p] := by
      simp only [List.mem_cons, List.not_mem_nil, or_false, not_or]
      have a1 := s6 _ _ (s5 _ _ h14)
      exact ⟨(fun z => by rw [z, a1] at ntp; cases ntp), (but_none (But.refl _ _) (pot_sm (s5.trans s6) hP4) ntp).2⟩
    refine ⟨_, _, cs ++ [out], rfl, g4.trans gu, pot_upd (pot_sm s57 hP4) l1p, upd_same, pr_snoc (st_lt.but gv ⟨tp, rfl, tpn, upd_same⟩) (pr_st st_lt gu hcs), by rw [List.length_append, hcl]; rfl, fun c hc => ?_, ?_⟩
    · rcases List.mem_append.mp hc with h | h
      · exact ⟨(hok c h).1, fun x hx => by rw [List.take_add_one]; exact List.mem_append_left _ ((hok c h).2 x hx)⟩
      · rw [List.mem_singleton.mp h]
        exact ⟨hlot, hin⟩
    · rw [List.pairwise_append]
      refine ⟨hup, List.pairwise_singleton _ _, fun a ha b hb => ?_⟩
      rw [List.mem_singleton.mp hb]
      exact fun x hx => hzp.mem_iff.mpr (List.mem_append_left _ (hlast.2.2 a ha x hx))
  rintro σ H4 ⟨u4, acc, cs, rfl, g4, hP4, h14, hcs, hcl, hok, hup⟩
  rw [List.length_map] at hcl hok
  rw [List.take_length] at hok
  refine nx_in ?_
  refine ret_in ?_
  have b4 : But [p] H H4 := but_drop ((b3.wide (T := [l1, p]) (by simp)).trans g4) n1
  exact ⟨_, rfl, kk l1 acc cs H4 b4 (hP4.mono (by omega)) n1 h14 (pr_imp (fun _ _ h => st_lt.mono (by simp) h) hcs) ⟨fun c hc => ⟨(hok c hc).1, fun x hx => hpm.mem_iff.mp ((hok c hc).2 x hx)⟩, hup, by rw [hcl, hyl]⟩⟩
end
end Fp
namespace Fp
open PySem PySem.Spec PyProof.Rows L2
/-- the same line, a part of an end more or not -/
def AgR (ln mn : TLn) : Prop := mn.1 = ln.1 ∧ ∃ more, mn.2 = ln.2 ++ more ∧ more.length ≤ 1 ∧ ∀ m ∈ more, LotOk m ∧ m.length ≤ 3 ∧ ∃ e ∈ ln.2, subL m e
abbrev AgainL (ls ms : List TLn) : Prop := Paired AgR ls ms
theorem ints_of {N : List Addr} {H : Hp} : ∀ {acc : List V} {l : List Int}, Paired (IntN N H) acc l → acc = l.map V.int
  | _, _, .nil => rfl
  | _, _, .cons h t => by rw [ints_of t, show _ = V.int _ from h]; rfl
def spAgain63 : Sp := fun vs H Q _ => ∃ (p a : Addr) (xs : List V) (ls : List TLn) (k : Nat), vs = [.ref p, .ref a] ∧ PotAt H p k ∧ k < 60000 ∧ H a = some (.lst xs) ∧ Paired (OLn [p] H) xs ls ∧ TaskD ls ∧ a ≠ p ∧
  ∀ (l : Addr) (ys : List V) (ps ms : List TLn) H', But [p] H H' → PotAt H' p (k + 200) → H' l = some (.lst ys) → Paired (OLn [p] H') ys ms → ps.Perm ls → AgainL ps ms → Q (.ref l) H'
section
variable {P : Program} {w : World} {K : PySem.W.Frag} {mg : Str → Option Value} {base : Heap} {f : Addr} {fd : FuncData} {C : Addr}
abbrev s_law_again : Stmt := top 42
theorem sc_law_again : FnScope ["pot", "lines", "found", "left", "ends", "end", "more", "one"] ["pot", "lines"] (defScope s_law_again) := ⟨rfl, rfl, rfl, by decide +kernel, rfl, by decide +kernel, by decide +kernel⟩
theorem ok_law_again (F : Fun K "_law_again" "_law_again" s_law_again f fd) (T : RTx mg) (G_law_take : Fd P w K mg base CX0 "_law_take" 1 ["pot", "upto"] spTake) (G_law_of : Fd P w K mg base CX0 "_law_of" 2 ["pot", "some"] (spOf K)) (G_law_some : Fd P w K mg base CX0 "_law_some" 2 ["pot", "pool", "many"] (spSome K)) : FnOk P w K mg base CX0 3 f fd ["pot", "lines"] spAgain63 := by
  refine F.ok sc_law_again (fun vs H Q E h => ?_) (fun cdv A outer s H vs Q E hr h => ?_)
  · obtain ⟨p, a, xs, ls, k, rfl, _⟩ := h
    rfl
  obtain ⟨p, a, xs, ls, k, rfl, hP, hk, ha, hxs, TD, nap, kk⟩ := h
  refine ⟨_, (pss_cons (ps_set (i := 2) sc_law_again.nd rfl (Or.inl rfl) (pe_lst pa_nil))
  (pss_cons (ps_for PassesOwn.never rfl (pi_list (pe_fd G_law_some (hr.mono (by first | decide | omega)) rfl (pa_cons (pv 0) (pa_cons (pv 1) (pa_cons (pe_callB call_len rfl T.len (by decide +kernel) (pa_cons (pv 1) pa_nil)) pa_nil))))) (pg_tup rfl (pgs_cons (pg_name (i := 3) sc_law_again.nd rfl (Or.inl rfl)) (pgs_cons (pg_name (i := 4) sc_law_again.nd rfl (Or.inl rfl)) pgs_nil))) (pss_cons (ps_set (i := 5) sc_law_again.nd rfl (Or.inl rfl) (pe_fd G_law_of (hr.mono (by first | decide | omega)) rfl (pa_cons (pv 0) (pa_cons (pv 4) pa_nil))))
  (pss_cons (ps_set (i := 6) sc_law_again.nd rfl (Or.inl rfl) (pe_callTy call_tuple_of rfl T.tuple (by decide +kernel) (pa_cons (pe_lc (own := [("one", 7)]) (g := (gName 7))  rfl sc_law_again.nd (pi_tup (pv 5)) (blkOk_by (own := [("one", 7)]) (N := ["pot", "lines", "found", "left", "ends", "end", "more", "one"]) (sc := defScope s_law_again) (by decide +kernel)) (fun _ _ _ _ _ => (pg_name (i := 7) sc_law_again.nd rfl (Or.inl rfl))) (fun _ _ _ _ _ => (pts_one (pt_cmpR op_eq (pe_fd G_law_take (hr.mono (by first | decide | omega)) rfl (pa_cons (pv 0) (pa_cons pe_int pa_nil))) pe_int (nomark _)))) (fun _ _ _ _ _ => (pv 7))) pa_nil)))
  (pss_one (ps_expr (pe_bm PySem.F.plainAttrs_list PySem.F.slot_list_append PySem.F.type_list_append mt_append (pv 2) (pa_cons (pe_tup (pa_cons (pv 3) (pa_cons (pe_mid (pe_op op_cat (pv 4) (pe_ifExp (pt_cmpR (op_neD hr.units) (pv 6) (pe_tup pa_nil) (nomark _)) (pe_lst (pa_cons (pv 6) pa_nil)) (pe_lst pa_nil)))) pa_nil))) pa_nil)))))))
  (pss_one (ps_ret (pv 2))))), ?_⟩
  refine seq_in ?_
  refine asg_in ?_
  refine ⟨szl (by show 0 ≤ _; decide), fun fl nfl => ?_⟩
  have s1 := same_new nfl (.lst [])
  have flp := (but_none (But.refl _ _) hP nfl).2
  have hfl1 : upd H fl (.lst []) fl = some (.lst []) := upd_same
  have ha1 := s1 _ _ ha
  have hx1 : Paired (OLn [fl, p] (upd H fl (.lst []))) xs ls := pr_imp (fun _ _ h => st_ln.but (.of s1) (st_ln.fresh nfl h)) hxs
  have hP1 := pot_sm s1 hP
  have b1 : But [p] H (upd H fl (.lst [])) := .of s1
  generalize upd H fl (.lst []) = H1 at hfl1 ha1 hx1 hP1 b1 ⊢
  have hxl := pr_len hxs
  have hfew := TD.few
  refine g_set ?_
  refine nx_in ?_
  refine seq_in ?_
  refine ⟨_, rfl, _, rfl, _, rfl, _, xs.length, rfl, .inl ⟨_, .of ha1, rfl⟩, p, a, xs, xs.length, k, rfl, .inl (.of ha1), Nat.le_refl _, by omega, by omega, hP1, fun l ys zs H2 hyl hperm nl hl g2 hP2 => ?_⟩
  have ez : zs = [] := by
    have := hperm.length_eq
    rw [List.length_append] at this
    exact List.length_eq_zero_iff.mp (by omega)
  subst ez
  rw [List.append_nil] at hperm
  obtain ⟨ps, hps, hys⟩ := pr_perm hperm (pr_st st_ln (g2.wide (T := [fl, p]) (by simp)) hx1)
  have TP := TaskD.perm hps.symm TD
  have hfl2 := g2 _ _ (by simpa using flp) hfl1
  have nll : l ≠ fl := fun z => by rw [z, hfl1] at nl; cases nl
  have lp := (but_none (But.refl _ _) hP1 nl).2
  have b2 := b1.trans g2
  have hylen := pr_len hys
  have hpl := hps.length_eq
  refine ⟨l, rfl, ⟨_, .of hl⟩, for_list (K := K) (a := l) (xs := ys) (fun i σ H' => ∃ u3 u4 u5 u6 acc ms, σ = [some (.ref p), some (.ref a), some (.ref fl), u3, u4, u5, u6, none] ∧ But [fl, p] H2 H' ∧ PotAt H' p (k + 8 + 5 * i) ∧ H' fl = some (.lst acc) ∧ Paired (OLn [fl, p] H') acc ms ∧ AgainL (ps.take i) ms)
    ⟨_, _, _, _, [], [], rfl, But.refl _ _, hP2.mono (by omega), hfl2, .nil, .nil⟩ ?_ ?_ ?_⟩
  · rintro i σ H' _ ⟨_, _, _, _, _, _, rfl, g, _⟩
    exact .of (g _ _ (by simp only [List.mem_cons, List.not_mem_nil, or_false, not_or]; exact ⟨nll, lp⟩) hl)
  · rintro i x σ H3 hx ⟨u3, u4, u5, u6, acc, ms, rfl, g3, hP3, hfl3, hms, hag⟩
    obtain ⟨ln, hln, t, v1, v2, rfl, nt, ht, hv1, b, yse, rfl, nb, hb, hyse⟩ := pr_ix (pr_st st_ln g3 hys) hx
    have hil := get_lt hx
    obtain ⟨okl, okl4, ene, el3, eok⟩ := TP.ok ln (List.mem_of_getElem? hln)
    have hyl2 := pr_len hyse
    have hal := pr_len hms
    have hagl := pr_len hag
    rw [List.length_take] at hagl
    have bp : b ≠ p := fun z => nb (by rw [z]; simp)
    have bfl : b ≠ fl := fun z => nb (by rw [z]; simp)
    refine ⟨t, _, rfl, .of ht, rfl, _, _, rfl, _, _, rfl, rfl, ?_⟩
    refine seq_in ?_
    refine asg_in ?_
    refine ⟨_, rfl, _, rfl, p, b, yse, _, rfl, .of hb, bp, (fun z => ene (List.length_eq_zero_iff.mp (by rw [← hyl2, z]; rfl))), by omega, by omega, hP3, fun d v H4 hd g4 hP4 => ?_⟩
    obtain ⟨e, he, c, rfl, nc, hc⟩ := pr_ix hyse hd
    have hem := List.mem_of_getElem? he
    have cp : c ≠ p := fun z => nc (by rw [z]; simp)
    have hc4 := g4 _ _ (by simpa using cp) hc
    refine g_set ?_
    refine nx_in ?_
    refine seq_in ?_
    refine asg_in ?_
    refine ⟨_, rfl, c, rfl, ⟨_, .of hc4⟩, fun D5 nD5 => ?_⟩
    have Dp := (but_none (But.refl _ _) hP4 nD5).2
    refine lc_draw (R := IntN) (walk_tup (xs := e.map V.int)) st_int [p] (fun j H' => PotAt H' p (k + 8 + 5 * i + 1 + j)) (fun j l => List.Sublist l (e.take j)) (fun _ _ _ _ _ h => pot_upd h Dp) (fun j l h => ?_) nD5 (by simpa using Dp) (fun H' g => .of (g _ _ (by simpa using cp) hc4)) (List.nil_sublist _) (pot_upd hP4 Dp) ?_ ?_
    · have := h.length_le
      rw [List.length_take] at this
      have := (eok e hem).2
      omega
    · rintro j y H5 H6 l5 hj g5 _ hin hP5 ⟨rfl, hy⟩ Q4 N k4 kn
      rw [List.length_map] at hj
      rw [List.getElem?_map, List.getElem?_eq_getElem hj] at hy
      cases hy
      have := (eok e hem).2
      refine ⟨rfl, ?_⟩
      refine ⟨_, rfl, p, _, _, rfl, by omega, by omega, by omega, hP5, fun d6 H7 hd6 g7 hP7 => ?_⟩
      have hin2 : List.Sublist (l5 ++ [e[j]]) (e.take (j + 1)) := by
        rw [List.take_add_one, List.getElem?_eq_getElem hj]
        exact hin.append (List.Sublist.refl _)
      have hin1 : List.Sublist l5 (e.take (j + 1)) := (List.sublist_append_left _ _).trans hin2
      refine ⟨rfl, _, rfl, ite2 (fun c => ?_) (fun c => ?_)⟩
      · exact ⟨_, rfl, k4 e[j] _ H7 hin2 g7 (hP7.mono (by omega)) rfl⟩
      · exact kn H7 hin1 g7 (hP7.mono (by omega))
    rintro H5 acc5 more g5 hP5 hsub hacc5 hp5
    obtain rfl := ints_of hp5
    rw [List.length_map, List.take_length] at hsub
    rw [List.length_map] at hP5
    have g35 : But [p] H3 H5 := g4.trans g5
    refine ⟨D5, _, rfl, .inl ⟨.of hacc5, fun tp ntp => ?_⟩⟩
    have s6 := same_new ntp (.tup (more.map V.int))
    have ht6 : upd H5 tp (.tup (more.map V.int)) tp = some (.tup (more.map V.int)) := upd_same
    have hfl5 := g35 _ _ (by simpa using flp) hfl3
    have tpn : tp ∉ [fl, p] := by
      simp only [List.mem_cons, List.not_mem_nil, or_false, not_or]
      exact ⟨(fun z => by rw [z, hfl5] at ntp; cases ntp), (but_none (But.refl _ _) hP5 ntp).2⟩
    have g36 : But [p] H3 (upd H5 tp (.tup (more.map V.int))) := g35.trans (.of s6)
    have hP6 := pot_sm s6 hP5
    have hfl6 := s6 _ _ hfl5
    have hb6 := g36 _ _ (by simpa using bp) hb
    have gw : But [fl, p] H3 (upd H5 tp (.tup (more.map V.int))) := g36.wide (by simp)
    have hyse6 := pr_st st_lt gw hyse
    have hms6 := pr_st st_ln gw hms
    have hv6 := st_lt.but gw hv1
    generalize upd H5 tp (.tup (more.map V.int)) = H6 at ht6 hP6 hfl6 hb6 gw hyse6 hms6 hv6 ⊢
    clear g36 hfl5 s6 ntp hacc5 hP5 g35 g5 hc4 g4 hp5
    obtain ⟨ve, rfl, nve, hve⟩ := id hv6
    refine g_set ?_
    refine nx_in ?_
    refine ⟨_, rfl, .inl ⟨rfl, _, .of hfl6⟩, _, rfl, fun y H' => ∃ (e9 : Addr) (vs : List V) (mr : List (List Int)), y = .ref e9 ∧ e9 ∉ [fl, p] ∧ Same H6 H' ∧ H' e9 = some (.lst (yse ++ vs)) ∧ Paired (LtN [fl, p] H') vs mr ∧ mr.length ≤ 1 ∧ ∀ m ∈ mr, LotOk m ∧ m.length ≤ 3 ∧ ∃ e ∈ ln.2, subL m e, ?_, ?_⟩
    · refine ⟨_, rfl, _, rfl, szl (by show 0 ≤ _; decide), fun e7 ne7 => ?_⟩
      have s7 := same_new ne7 (.tup [])
      have fre : ∀ {H' : Hp} {e9 : Addr}, Same H6 H' → H' e9 = none → e9 ∉ [fl, p] := fun {H'} {e9} g ne => by
        simp only [List.mem_cons, List.not_mem_nil, or_false, not_or]
        exact ⟨(fun z => by rw [z, g _ _ hfl6] at ne; cases ne), (but_none (But.refl _ _) (pot_sm g hP6) ne).2⟩
      refine ⟨lotP more, .tuple [], lt_dp ⟨tp, rfl, s7 _ _ ht6⟩, .tup (.of upd_same) .nil, lotP_shaped _, by decide, _, rfl, ?_⟩
      rw [show PyData.eqv (lotP more) (.tuple []) = decide (more = []) from lotP_eqv more []]
      refine ite2 (fun c => ?_) (fun c => ?_)
      · refine ⟨_, rfl, szl (by show 1 ≤ _; decide), fun e8 ne8 => ?_⟩
        have s8 := same_new ne8 (.lst [V.ref tp])
        have s78 := s7.trans s8
        refine ⟨b, e8, yse, [V.ref tp], rfl, rfl, s78 _ _ hb6, upd_same, szl (by rw [hyl2]; show ln.2.length + 1 ≤ _; omega), fun e9 ne9 => ?_⟩
        have s9 := same_new ne9 (.lst (yse ++ [V.ref tp]))
        have oke := eok e hem
        exact ⟨e9, [V.ref tp], [more], rfl, fre s78 ne9, s78.trans s9, upd_same, .cons ⟨tp, rfl, tpn, (s78.trans s9) _ _ ht6⟩ .nil, Nat.le_refl _, fun m hm => by
          rw [List.mem_singleton.mp hm]
          have hl := hsub.length_le
          exact ⟨⟨by simpa using c, oke.1.up.sublist hsub, fun x hx => oke.1.rng x (hsub.subset hx), by have := oke.1.few; omega⟩, by omega, e, hem, fun x hx => hsub.subset hx⟩⟩
      · refine ⟨szl (by show 0 ≤ _; decide), fun e8 ne8 => ?_⟩
        have s8 := same_new ne8 (.lst [])
        have s78 := s7.trans s8
        refine ⟨b, e8, yse, [], rfl, rfl, s78 _ _ hb6, upd_same, szl (by rw [hyl2]; show ln.2.length + 0 ≤ _; omega), fun e9 ne9 => ?_⟩
        exact ⟨e9, [], [], rfl, fre s78 ne9, s78.trans (same_new ne9 _), upd_same, .nil, Nat.zero_le _, (fun _ h => nomatch h)⟩
    rintro y H7 ⟨e9, vs, mr, rfl, e9n, s7, h9, hvs, hml, hmo⟩
    refine ⟨szl (by show 2 ≤ _; decide), fun tl ntl => ?_⟩
    have s8 := same_new ntl (.tup [V.ref ve, V.ref e9])
    have s78 := s7.trans s8
    have tln : tl ∉ [fl, p] := by
      simp only [List.mem_cons, List.not_mem_nil, or_false, not_or]
      exact ⟨(fun z => by rw [z, s7 _ _ hfl6] at ntl; cases ntl), (but_none (But.refl _ _) (pot_sm s7 hP6) ntl).2⟩
    refine ⟨fl, acc, _, rfl, rfl, s78 _ _ hfl6, szt (by omega), ?_⟩
    have gu : But [fl, p] H6 (upd (upd H7 tl (.tup [V.ref ve, V.ref e9])) fl (.lst (acc ++ [V.ref tl]))) := (But.of s78).put (by simp)
    have gv : But [fl, p] H7 (upd (upd H7 tl (.tup [V.ref ve, V.ref e9])) fl (.lst (acc ++ [V.ref tl]))) := (But.of s8).put (by simp)
    have gx : But [fl, p] (upd H7 tl (.tup [V.ref ve, V.ref e9])) (upd (upd H7 tl (.tup [V.ref ve, V.ref e9])) fl (.lst (acc ++ [V.ref tl]))) := (But.refl _ _).put (by simp)
    refine ⟨_, _, _, _, _, ms ++ [(ln.1, ln.2 ++ mr)], rfl, (g3.trans gw).trans gu, pot_upd ((pot_sm s78 hP6).mono (by have := (eok e hem).2; omega)) flp, upd_same, pr_snoc ?_ (pr_st st_ln gu hms6), ?_⟩
    · refine st_ln.but gx ⟨tl, _, _, rfl, tln, upd_same, ⟨ve, rfl, nve, s78 _ _ hve⟩, e9, yse ++ vs, rfl, e9n, s8 _ _ h9, ?_⟩
      exact pr_app (pr_st st_lt (.of s8) hvs) (pr_st st_lt (.of s78) hyse6)
    · rw [List.take_add_one, hln]
      exact pr_snoc ⟨rfl, mr, rfl, hml, hmo⟩ hag
  rintro σ H3 ⟨u3, u4, u5, u6, acc, ms, rfl, g3, hP3, hfl3, hms, hag⟩
  refine nx_in ?_
  refine ret_in ?_
  rw [hylen, List.take_length] at hag
  have b3 : But [p] H H3 := but_drop ((b2.wide (T := [fl, p]) (by simp)).trans g3) nfl
  exact ⟨_, rfl, kk fl acc ps ms H3 b3 (hP3.mono (by omega)) hfl3 (pr_imp (fun _ _ h => st_ln.mono (by simp) h) hms) hps hag⟩
end
end Fp
/-! sorted(truth values) -/
namespace L2
open PySem PySem.Spec PyProof.Rows PySem.W
def biI (b : Bool) : Int := if b = true then 1 else 0
theorem dataLe_bl : dataLe false (fun b : Bool => PyData.bool b) = fun a b => decide (biI a ≤ biI b) := by
  rw [← dataLe_int biI]
  rfl
theorem bls_alike (l : List Bool) : AllAlike (l.map fun x => PyData.bool x) := fun d hd d' hd' => by
  obtain ⟨x, _, rfl⟩ := List.mem_map.mp hd
  obtain ⟨y, _, rfl⟩ := List.mem_map.mp hd'
  rfl
theorem bls_of_each {out : List Value} {ys : List Bool} (h : EachIs (fun v b => RelV (V.bl b) v) out ys) : Vals (ys.map V.bl) out := by
  induction h with
  | nil => exact .nil
  | cons h _ ih => exact .cons h ih
theorem each_of_bls {out : List Value} : ∀ {ys : List Bool}, Vals (ys.map V.bl) out → EachIs (fun v b => RelV (V.bl b) v) out ys := by
  intro ys h
  generalize e : ys.map V.bl = xs at h
  induction h generalizing ys with
  | nil => cases ys with
    | nil => exact .nil
    | cons a b => cases e
  | cons h _ ih => cases ys with
    | nil => cases e
    | cons a b =>
      injection e with e1 e2
      subst e1
      exact .cons h (ih e2)
def rSortedB (K : PySem.W.Frag) : List V → Hp → VK → Prop := fun vs H Q => ∃ (a : Addr) (bs : List Bool), vs = [V.ref a] ∧ SqL K H a (bs.map V.bl) ∧ ∀ p, H p = none → Q (.ref p) (upd H p (.lst ((bs.mergeSort fun a b => decide (biI a ≤ biI b)).map V.bl)))
theorem cr_sortedB {X : Cx} (hu : X.A.units + 64 < cLine) : CallR X (.builtin "sorted") (rSortedB X.K) := by
  intro pins s σ H vs us Q I r h
  obtain ⟨a, bs, rfl, hs, q⟩ := h
  rw [Vals.ref1 r]
  obtain ⟨its, rv, hl, hz⟩ := I.list hs
  rw [List.length_map] at hz
  refine sorted_data (enc := fun b : Bool => PyData.bool b) (R := fun v b => RelV (V.bl b) v) hl.isList (each_of_bls rv) ?_ (bls_alike bs) (.inr fun d hd => ?_) hz (fun x _ => ?_) fun out hlen eo => ?_
  · refine (each_of_bls rv).mono fun v b h => ⟨[], ?_⟩
    obtain rfl : v = Value.bool b := h
    exact .bool b
  · obtain ⟨x, _, rfl⟩ := List.mem_map.mp hd
    exact ⟨fun z => (by cases z), fun ys z => (by cases z)⟩
  · have : (PyData.bool x).depth ≤ 1 := by simp [PyData.depth]
    omega
  · rw [dataLe_bl] at eo
    have r2 := bls_of_each eo
    have nd : H (s.heap.objs.size + 1) = none := I.hok.fresh (Nat.le_succ _)
    obtain ⟨c, hc⟩ := PyProof.Rows.sortedAll_at s.heap its out.toArray
    refine ⟨.ref (s.heap.objs.size + 1), _, I.laid (t' := s.toks) (fun _ _ => PyProof.Rows.sortedAll_old) (Nat.le_succ _) (show ObjOk X.prog X.w _ _ _ (.lst ((bs.mergeSort fun a b => decide (biI a ≤ biI b)).map V.bl)) from ⟨?_, out, c, r2, hc⟩), rfl, q _ nd⟩
    rw [List.length_map, List.length_mergeSort]; exact hz
end L2
namespace Fp
open PySem PySem.Spec PyProof.Rows L2
/-- a task that stands -/
structure TaskG (ls : List TLn) (D : List Int) : Prop where
  ok : ∀ ln ∈ ls, LotOk ln.1 ∧ ln.1.length ≤ 4 ∧ ln.2 ≠ [] ∧ ln.2.length ≤ 4 ∧ ∀ e ∈ ln.2, LotOk e ∧ e.length ≤ 3
  few : ls.length ≤ 8
  nd : (ls.map (·.1)).Nodup
  one : ∀ x ∈ leftW ls, [x] ∈ ls.map (·.1)
  ne : ls ≠ []
  ws : ∃ ws : List Int, ws.length ≤ 5 ∧ (∀ x ∈ leftW ls, x ∈ ws) ∧ ∀ x ∈ ws, x ∈ D
  ps : ∃ ps : List Int, ps.length ≤ 4 ∧ (∀ x ∈ spokW ls, x ∈ ps) ∧ ∀ x ∈ ps, x ∈ D
  dl : D.length ≤ 9
  dr : ∀ x ∈ D, 0 ≤ x ∧ x < 100
theorem split_part {x y : Str} (hy : 1 ≤ y.length) {a : Str} (h : a ∈ Txt.split x y) : a.length ≤ x.length + 1 ∧ (Txt.split x y).length ≤ x.length + 1 := by
  have := split_weight x y hy
  have h2 : a.length ≤ ((Txt.split x y).map (·.length)).sum := by
    generalize Txt.split x y = l at h
    induction l with
    | nil => cases h
    | cons b l ih =>
      rw [List.map_cons, List.sum_cons]
      rcases List.mem_cons.mp h with z | z
      · rw [z]; omega
      · have := ih z; omega
  omega
theorem litL_short {l : List Int} (h : ∀ x ∈ l, 0 ≤ x ∧ x ≤ 99) : (litL l).length ≤ l.length * 3 := by
  unfold litL
  rw [TL.join_eq]
  have := StrLaws.join_length_le (" " : Str) (l.map fun i => (toString i : Str))
  have e1 : (" " : Str).length = 1 := by decide +kernel
  have h2 := nums_len h
  rw [e1, List.length_map] at this
  omega
theorem lits_short {es : List (List Int)} (h : ∀ e ∈ es, LotOk e ∧ e.length ≤ 3) : ((es.map litL).map (·.length)).sum ≤ es.length * 9 := by
  induction es with
  | nil => exact Nat.le_refl _
  | cons a l ih =>
    have := ih fun x hx => h x (List.mem_cons_of_mem _ hx)
    have h3 := h a List.mem_cons_self
    have := litL_short h3.1.rng
    simp only [List.map_cons, List.sum_cons, List.length_cons] at *
    omega
theorem line_short {ln : TLn} (h : LotOk ln.1 ∧ ln.1.length ≤ 4 ∧ ln.2 ≠ [] ∧ ln.2.length ≤ 4 ∧ ∀ e ∈ ln.2, LotOk e ∧ e.length ≤ 3) : (lineT ln).length ≤ 100 := by
  obtain ⟨a, b, c, d, e⟩ := h
  have l1 := litL_short a.rng
  have es : (" : " : Str).length = 3 := by decide +kernel
  have eb : (" | " : Str).length = 3 := by decide +kernel
  have hs := lits_short e
  have hjl : (Txt.join " | " (ln.2.map litL)).length ≤ 60 := by
    rw [TL.join_eq]
    have := StrLaws.join_length_le (" | " : Str) (ln.2.map litL)
    rw [eb, List.length_map] at this
    omega
  unfold lineT
  rw [str_alen, str_alen, es]
  omega
theorem wsok_short {z : Str} (h : z.length ≤ 600) : WsOk z := by
  have e1 : 1 ≤ (" " : Str).length := by decide +kernel
  have hw := split_weight z " " e1
  refine ⟨by omega, by omega, fun w hw => ?_⟩
  have := (split_part e1 hw).1
  omega
theorem linew_short {z : Str} (h : z.length ≤ 100) : LineW z := by
  have e1 : 1 ≤ (" : " : Str).length := by decide +kernel
  have e2 : 1 ≤ (" | " : Str).length := by decide +kernel
  have hw := split_weight z " : " e1
  refine ⟨by omega, by omega, fun a ha => ?_⟩
  have h1 := (split_part e1 ha).1
  have hw2 := split_weight a " | " e2
  refine ⟨wsok_short (by omega), by omega, fun b hb => wsok_short ?_⟩
  have := (split_part e2 hb).1
  omega
theorem TaskG.ln {ls : List TLn} {D : List Int} (T : TaskG ls D) : ∀ ln ∈ ls, LnOk ln := fun ln h => by
  obtain ⟨a, b, c, d, e⟩ := T.ok ln h
  exact ⟨a, b, c, fun x hx => (e x hx).1, by omega⟩
theorem fm_few {α β : Type} {f : α → List β} {B : Nat} : ∀ {l : List α}, (∀ x ∈ l, (f x).length ≤ B) → (l.flatMap f).length ≤ l.length * B
  | [], _ => Nat.zero_le _
  | a :: l, h => by
    have := fm_few (f := f) (B := B) (l := l) fun x hx => h x (List.mem_cons_of_mem _ hx)
    have h1 := h a List.mem_cons_self
    rw [List.flatMap_cons, List.length_append, List.length_cons, Nat.succ_mul]
    omega
theorem TaskG.w {ls : List TLn} {D : List Int} (T : TaskG ls D) : LsW ls D := by
  obtain ⟨ws, w1, w2, w3⟩ := T.ws
  obtain ⟨ps, p1, p2, p3⟩ := T.ps
  have hf := T.few
  have hd := T.dl
  have e1 : ∀ ln ∈ ls, (ln.2.flatMap id).length ≤ 12 := fun ln h => by
    obtain ⟨a, b, c, d, e⟩ := T.ok ln h
    have := fm_few (f := id) (B := 3) (l := ln.2) fun x hx => (e x hx).2
    omega
  refine ⟨by omega, fun ln h => ?_, ?_, ?_, fun x hx => w3 x (w2 x hx), fun x hx => p3 x (p2 x hx), by omega, T.dr⟩
  · obtain ⟨a, b, c, d, e⟩ := T.ok ln h
    exact ⟨by omega, by omega, fun x hx => by have := (e x hx).2; omega⟩
  · have := fm_few (f := fun ln : TLn => ln.1) (B := 4) (l := ls) fun x hx => (T.ok x hx).2.1
    show (ls.flatMap fun ln => ln.1).length ≤ 1000
    omega
  · have := fm_few (f := fun ln : TLn => ln.2.flatMap id) (B := 12) (l := ls) e1
    show (ls.flatMap fun ln => ln.2.flatMap id).length ≤ 1000
    omega
theorem lotM_few {ws qs : List Int} (h : ∀ x ∈ ws, x ∈ qs) : (lotM ws).length ≤ qs.length :=
  nodup_le (srt_nodup (lotM_up ws)) fun x hx => by
    unfold lotM at hx
    exact h x (of_decide_eq_true (List.mem_filter.mp hx).2)
theorem TaskG.tk {ls : List TLn} {D : List Int} (T : TaskG ls D) : TkOk (taskT ls) ls D := by
  have hsp := task_back T.ne T.ln
  have hf := T.few
  obtain ⟨ws, w1, w2, w3⟩ := T.ws
  obtain ⟨ps, p1, p2, p3⟩ := T.ps
  refine ⟨?_, ?_, fun line h => ?_, fun i ln hi => ?_, T.w, fun w hw => ?_⟩
  · have e1 : ("\n" : Str).length = 1 := by decide +kernel
    unfold taskT
    rw [TL.join_eq]
    have := StrLaws.join_length_le ("\n" : Str) (ls.map lineT)
    have h2 : ((ls.map lineT).map (·.length)).sum ≤ ls.length * 100 := by
      have hok := T.ok
      clear this hsp hf w2 p2 T
      induction ls with
      | nil => exact Nat.le_refl _
      | cons a l ih =>
        have := ih fun x hx => hok x (List.mem_cons_of_mem _ hx)
        have := line_short (hok a List.mem_cons_self)
        simp only [List.map_cons, List.sum_cons, List.length_cons] at *
        omega
    rw [e1, List.length_map] at this
    omega
  · rw [hsp, List.map_map]
    exact List.map_congr_left fun ln h => line_back (T.ln ln h)
  · rw [hsp] at h
    obtain ⟨ln, hl, rfl⟩ := List.mem_map.mp h
    exact linew_short (line_short (T.ok ln hl))
  · have hil := get_lt hi
    have hsub : List.Sublist (ls.take i ++ [ln]) ls := by
      have : ls.take i ++ [ln] = ls.take (i + 1) := by rw [List.take_add_one, hi]; rfl
      rw [this]; exact List.take_sublist _ _
    unfold mayB
    have a1 : (lotM (leftW (ls.take i ++ [ln]))).length ≤ 6 := Nat.le_trans (lotM_few fun x hx => w2 x ((fm_sub hsub).subset hx)) (by omega)
    have a2 : (lotM (spokW (ls.take i ++ [ln]))).length ≤ 8 := Nat.le_trans (lotM_few fun x hx => p2 x ((fm_sub hsub).subset hx)) (by omega)
    have a3 : ((ls.take i).any fun l => decide (l.1 = ln.1)) = false := by
      rw [List.any_eq_false]
      intro l hl
      have hnd : ((ls.take i ++ [ln]).map (·.1)).Nodup := List.Nodup.sublist (hsub.map _) T.nd
      rw [List.map_append, List.nodup_append] at hnd
      have := hnd.2.2 l.1 (List.mem_map_of_mem (f := fun x : TLn => x.1) hl) ln.1 (by simp)
      simpa using this
    rw [decide_eq_true a1, decide_eq_true a2, a3, decide_eq_true (by rw [List.length_take]; omega)]
    rfl
  · have := T.one w hw
    rw [List.any_eq_true]
    obtain ⟨ln, h1, h2⟩ := List.mem_map.mp this
    exact ⟨ln, h1, decide_eq_true h2⟩
theorem TaskG.g {ls : List TLn} {D : List Int} (T : TaskG ls D) : LsG ls := by
  have hf := T.few
  have := fm_few (f := fun ln : TLn => ln.2) (B := 4) (l := ls) fun x hx => (T.ok x hx).2.2.2.1
  exact ⟨by omega, fun ln h => (T.ok ln h).1, fun ln h e he => ((T.ok ln h).2.2.2.2 e he).1, by omega⟩
theorem TaskD.g {ls : List TLn} (T : TaskD ls) : ∃ D, TaskG ls D := by
  obtain ⟨ws, w1, w2, w3⟩ := T.ws
  obtain ⟨ps, p1, p2, p3⟩ := T.ps
  refine ⟨ws ++ ps, fun ln h => ?_, T.few, T.nd, T.one, T.ne, ⟨ws, w1, w2, fun x hx => List.mem_append_left _ hx⟩, ⟨ps, p1, p2, fun x hx => List.mem_append_right _ hx⟩, by rw [List.length_append]; omega, fun x hx => (List.mem_append.mp hx).elim (w3 x) (p3 x)⟩
  obtain ⟨a, b, c, d, e⟩ := T.ok ln h
  exact ⟨a, b, c, by omega, e⟩
theorem again_mem {ps ms : List TLn} (A : AgainL ps ms) : (∀ mn ∈ ms, ∃ ln ∈ ps, AgR ln mn) ∧ (∀ ln ∈ ps, ∃ mn ∈ ms, AgR ln mn) ∧ ms.map (·.1) = ps.map (·.1) := by
  induction A with
  | nil => exact ⟨(fun _ h => nomatch h), (fun _ h => nomatch h), rfl⟩
  | cons h _ ih =>
    refine ⟨fun mn hm => ?_, fun ln hl => ?_, ?_⟩
    · rcases List.mem_cons.mp hm with rfl | z
      · exact ⟨_, List.mem_cons_self, h⟩
      · obtain ⟨ln, a, b⟩ := ih.1 mn z
        exact ⟨ln, List.mem_cons_of_mem _ a, b⟩
    · rcases List.mem_cons.mp hl with rfl | z
      · exact ⟨_, List.mem_cons_self, h⟩
      · obtain ⟨mn, a, b⟩ := ih.2.1 ln z
        exact ⟨mn, List.mem_cons_of_mem _ a, b⟩
    · rw [List.map_cons, List.map_cons, h.1, ih.2.2]
theorem again_left {ps ms : List TLn} (A : AgainL ps ms) {x : Int} : x ∈ leftW ms ↔ x ∈ leftW ps := by
  obtain ⟨a, b, c⟩ := again_mem A
  rw [mem_left, mem_left]
  constructor
  · rintro ⟨mn, h, hx⟩
    obtain ⟨ln, h2, r⟩ := a mn h
    exact ⟨ln, h2, r.1 ▸ hx⟩
  · rintro ⟨ln, h, hx⟩
    obtain ⟨mn, h2, r⟩ := b ln h
    exact ⟨mn, h2, r.1.symm ▸ hx⟩
theorem again_spok {ps ms : List TLn} (A : AgainL ps ms) {x : Int} : x ∈ spokW ms ↔ x ∈ spokW ps := by
  obtain ⟨a, b, c⟩ := again_mem A
  rw [mem_spok, mem_spok]
  constructor
  · rintro ⟨mn, h, e, he, hx⟩
    obtain ⟨ln, h2, r1, more, r2, r3, r4⟩ := a mn h
    rw [r2] at he
    rcases List.mem_append.mp he with z | z
    · exact ⟨ln, h2, e, z, hx⟩
    · obtain ⟨_, _, e2, he2, s⟩ := r4 e z
      exact ⟨ln, h2, e2, he2, s x hx⟩
  · rintro ⟨ln, h, e, he, hx⟩
    obtain ⟨mn, h2, r1, more, r2, r3, r4⟩ := b ln h
    exact ⟨mn, h2, e, by rw [r2]; exact List.mem_append_left _ he, hx⟩
theorem again_g {ps ms : List TLn} {D : List Int} (A : AgainL ps ms) (T : TaskD ps) (G : TaskG ps D) : TaskG ms D := by
  obtain ⟨a, b, c⟩ := again_mem A
  refine ⟨fun mn h => ?_, by rw [← pr_len A]; exact G.few, by rw [c]; exact G.nd, fun x hx => by rw [c]; exact G.one x ((again_left A).mp hx), fun z => G.ne (List.length_eq_zero_iff.mp (by rw [pr_len A, z]; rfl)), ?_, ?_, G.dl, G.dr⟩
  · obtain ⟨ln, h2, r1, more, r2, r3, r4⟩ := a mn h
    obtain ⟨k1, k2, k3, k4, k5⟩ := T.ok ln h2
    rw [r1, r2]
    refine ⟨k1, k2, fun z => k3 (List.append_eq_nil_iff.mp z).1, by rw [List.length_append]; omega, fun e he => ?_⟩
    rcases List.mem_append.mp he with z | z
    · exact k5 e z
    · exact ⟨(r4 e z).1, (r4 e z).2.1⟩
  · obtain ⟨ws, w1, w2, w3⟩ := G.ws
    exact ⟨ws, w1, fun x hx => w2 x ((again_left A).mp hx), w3⟩
  · obtain ⟨ws, w1, w2, w3⟩ := G.ps
    exact ⟨ws, w1, fun x hx => w2 x ((again_spok A).mp hx), w3⟩
theorem max_sub {L M : List (List Int)} (h1 : ∀ l ∈ L, l ∈ M) (h2 : ∀ m ∈ M, ∃ l ∈ L, subL m l) (up : ∀ m ∈ M, m.Pairwise (· < ·)) (l : List Int) : MaxIn L l ↔ MaxIn M l := by
  constructor
  · rintro ⟨a, b⟩
    refine ⟨h1 l a, fun m hm s => ?_⟩
    obtain ⟨l2, h3, s2⟩ := h2 m hm
    have e := b l2 h3 fun x hx => s2 x (s x hx)
    rw [e] at s2
    exact srt_eq (up m hm) (up l (h1 l a)) fun x => ⟨s2 x, s x⟩
  · rintro ⟨a, b⟩
    obtain ⟨l2, h3, s2⟩ := h2 l a
    have e := b l2 (h1 l2 h3) s2
    exact ⟨e ▸ h3, fun m hm s => b m (h1 m hm) s⟩
theorem mem_for {qs : List TLn} {lot e : List Int} : e ∈ lotsFor qs lot ↔ ∃ ln ∈ qs, withinB ln.1 lot = true ∧ e ∈ ln.2 := by
  unfold lotsFor
  rw [List.mem_flatMap]
  exact ⟨fun ⟨ln, h, g⟩ => ⟨ln, (List.mem_filter.mp h).1, (List.mem_filter.mp h).2, g⟩, fun ⟨ln, h, g, k⟩ => ⟨ln, List.mem_filter.mpr ⟨h, g⟩, k⟩⟩
theorem again_for {ps ms ls : List TLn} (A : AgainL ps ms) (P : ps.Perm ls) (lot : List Int) : (∀ e ∈ lotsFor ls lot, e ∈ lotsFor ms lot) ∧ ∀ m ∈ lotsFor ms lot, ∃ l ∈ lotsFor ls lot, subL m l := by
  obtain ⟨a, b, c⟩ := again_mem A
  refine ⟨fun e he => ?_, fun e he => ?_⟩
  · obtain ⟨ln, h, g, k⟩ := mem_for.mp he
    obtain ⟨mn, h2, r1, more, r2, r3, r4⟩ := b ln (P.mem_iff.mpr h)
    exact mem_for.mpr ⟨mn, h2, r1.symm ▸ g, by rw [r2]; exact List.mem_append_left _ k⟩
  · obtain ⟨mn, h, g, k⟩ := mem_for.mp he
    obtain ⟨ln, h2, r1, more, r2, r3, r4⟩ := a mn h
    rw [r2] at k
    rcases List.mem_append.mp k with z | z
    · exact ⟨e, mem_for.mpr ⟨ln, P.mem_iff.mp h2, r1 ▸ g, z⟩, fun x hx => hx⟩
    · obtain ⟨_, _, e2, he2, s⟩ := r4 e z
      exact ⟨e2, mem_for.mpr ⟨ln, P.mem_iff.mp h2, r1 ▸ g, he2⟩, s⟩
theorem again_max {ps ms ls : List TLn} {D : List Int} (A : AgainL ps ms) (P : ps.Perm ls) (G : TaskG ms D) (lot l : List Int) : MaxIn (lotsFor ls lot) l ↔ MaxIn (lotsFor ms lot) l := by
  obtain ⟨h1, h2⟩ := again_for A P lot
  refine max_sub h1 h2 (fun e he => ?_) l
  obtain ⟨mn, h, g, k⟩ := mem_for.mp he
  exact ((G.ok mn h).2.2.2.2 e k).1.up
theorem right_iff {ls : List TLn} {lot said : List Int} : rightB ls lot said = true ↔ ∃ e ∈ lotsFor ls lot, subL said e := by
  unfold rightB
  rw [List.any_eq_true]
  exact ⟨fun ⟨e, h, g⟩ => ⟨e, h, within_iff.mp g⟩, fun ⟨e, h, g⟩ => ⟨e, h, within_iff.mpr g⟩⟩
theorem right_again {ps ms ls : List TLn} (A : AgainL ps ms) (P : ps.Perm ls) (lot said : List Int) : rightB ms lot said = rightB ls lot said := by
  obtain ⟨h1, h2⟩ := again_for A P lot
  rw [Bool.eq_iff_iff, right_iff, right_iff]
  exact ⟨fun ⟨e, h, s⟩ => by obtain ⟨l, hl, s2⟩ := h2 e h; exact ⟨l, hl, fun x hx => s2 x (s x hx)⟩, fun ⟨e, h, s⟩ => ⟨e, h1 e h, s⟩⟩
theorem for_mono {ls : List TLn} {a b e : List Int} (s : subL a b) (h : e ∈ lotsFor ls a) : e ∈ lotsFor ls b := by
  obtain ⟨ln, h1, g, k⟩ := mem_for.mp h
  exact mem_for.mpr ⟨ln, h1, within_iff.mpr fun x hx => s x (within_iff.mp g x hx), k⟩
theorem right_lot {ls : List TLn} {a b said : List Int} (s : subL a b) (h : rightB ls a said = true) : rightB ls b said = true := by
  obtain ⟨e, h1, g⟩ := right_iff.mp h
  exact right_iff.mpr ⟨e, for_mono s h1, g⟩
theorem right_said {ls : List TLn} {lot a b : List Int} (s : subL b a) (h : rightB ls lot a = true) : rightB ls lot b = true := by
  obtain ⟨e, h1, g⟩ := right_iff.mp h
  exact right_iff.mpr ⟨e, h1, fun x hx => g x (s x hx)⟩
theorem again_lotM {ps ms ls : List TLn} {D E : List Int} (A : AgainL ps ms) (P : ps.Perm ls) (G : TaskG ms D) (G2 : TaskG ls E) {x : Int} (h : x ∈ lotM (leftW ls)) : x ∈ lotM (leftW ms) := by
  rw [lotM_mem fun x hx => G2.w.dr x (G2.w.lD x hx)] at h
  rw [lotM_mem fun x hx => G.w.dr x (G.w.lD x hx), again_left A]
  obtain ⟨ln, h1, h2⟩ := mem_left.mp h
  exact mem_left.mpr ⟨ln, P.mem_iff.mpr h1, h2⟩
theorem lots_sm {G : List (List Int)} (h : ∀ l ∈ G, LotOk l) (hl : G.length < 64) : Sm 3 10000 (.tuple (G.map lotP)) := by
  refine (Sms.all (k := 2) (n := 100) fun d hd => ?_).tup.mono (Nat.le_refl _) (by rw [List.length_map]; omega)
  obtain ⟨l, hl2, rfl⟩ := List.mem_map.mp hd
  have := (h l hl2).few
  refine (Sms.all (k := 1) (n := 0) fun d hd => ?_).tup.mono (Nat.le_refl _) (by rw [List.length_map]; omega)
  obtain ⟨x, hx, rfl⟩ := List.mem_map.mp hd
  have := (h l hl2).rng x hx
  exact Sm.int (by omega) (by omega)
theorem lots_dps {K : PySem.W.Frag} {H : Hp} : ∀ {acc : List V} {ls : List (List Int)}, Paired (LtV H) acc ls → DpAll K H acc (ls.map lotP)
  | _, _, .nil => .nil
  | _, _, .cons h t => .cons (lt_dp h) (lots_dps t)
/-- what stands while it is asked -/
structure RtSt (C p d d2 lc : Addr) (ls ms : List TLn) (cx : List V) (cs : List (List Int)) (H : Hp) : Prop where
  one : TaskAt C H d (taskT ls) ls
  two : TaskAt C H d2 (taskT ms) ms
  ch : H lc = some (.lst cx)
  cp : Paired (LtN [p] H) cx cs
  ne : lc ≠ p
theorem RtSt.but {C p d d2 lc : Addr} {ls ms : List TLn} {cx : List V} {cs : List (List Int)} {H H' : Hp} {n : Nat} (g : But [p] H H') (hP : PotAt H p n) (S : RtSt C p d d2 lc ls ms cx cs H) : RtSt C p d d2 lc ls ms cx cs H' := by
  obtain ⟨a, b, c, e, _⟩ := id hP
  have hl : ∀ x ∈ [p], ∃ xs, H x = some (.lst xs) := fun x hx => by rw [List.mem_singleton.mp hx]; exact ⟨_, e⟩
  exact ⟨S.one.but g hl, S.two.but g hl, g _ _ (by simpa using S.ne) S.ch, pr_st st_lt g S.cp, S.ne⟩
end Fp
namespace Fp
open PySem PySem.Spec PyProof.Rows L2
theorem cr_anyK {X : Cx} {K : PySem.W.Frag} (hc : X.calm = true) (e : X.K = K := by rfl) : CallR X (.builtin "any") (rAny K) := by subst e; exact cr_any hc
theorem call_isiB {X : Cx} {K : PySem.W.Frag} (e : X.K = K := by rfl) : CallR X (.builtin "isinstance") (rIsi K) := by subst e; exact call_isi
def osc_law_right : Scope := { kind := .function, names := [(".0", .local), ("brought", .local), ("any", .globalImplicit), ("end", .cell), ("task", .cell)], isGenerator := false, isCoroutine := false }
theorem bls_dp {K : PySem.W.Frag} {H : Hp} : ∀ l : List Bool, DpAll K H (l.map V.bl) (l.map fun b => PyData.bool b)
  | [] => .nil
  | b :: l => .cons (.bl b) (bls_dp l)
theorem bls_all : ∀ l : List Bool, PyData.canLayAll0 (l.map fun b => PyData.bool b) = true ∧ PyData.depthAll (l.map fun b => PyData.bool b) ≤ 2
  | [] => by simp [PyData.canLayAll0, PyData.depthAll]
  | b :: l => by
    obtain ⟨h1, h2⟩ := bls_all l
    rw [List.map_cons]
    simp only [PyData.canLayAll0, PyData.depthAll, PyData.canLay0, PyData.depth, h1, Bool.and_true, true_and]
    omega
theorem bls_sh (l : List Bool) : SeqAt.shaped (.list (l.map fun b => PyData.bool b)) = true := by
  obtain ⟨a, b⟩ := bls_all l
  unfold SeqAt.shaped
  simp only [PyData.canLay0, PyData.depth, a, Bool.true_and]
  exact decide_eq_true (by omega)
theorem bls_eqv (l : List Bool) : PyData.eqv (.list (l.map fun b => PyData.bool b)) (.list (l.map fun b => PyData.bool b)) = true := by
  simp only [PyData.eqv]
  induction l with
  | nil => simp [PyData.eqvAll]
  | cons b l ih => simp [PyData.eqvAll, PyData.eqv, ih]
theorem pr_rev {α β : Type} {R : α → β → Prop} : ∀ {xs : List α} {ls : List β}, Paired R xs ls → Paired R xs.reverse ls.reverse
  | _, _, .nil => .nil
  | _, _, .cons h t => by rw [List.reverse_cons, List.reverse_cons]; exact pr_snoc h (pr_rev t)
theorem pot_at {C p d dx : Addr} {H H' : Hp} {n : Nat} (b : But [d] (upd (upd H dx (.own d)) d (.ins C dx [])) H') (_ : dx ≠ d) (hP : PotAt H p n) (hd : H d = none) (hdx : H dx = none) : PotAt H' p n := by
  obtain ⟨a, b1, c, e, r⟩ := hP
  have n1 : p ≠ d := ne_of_none e hd
  have n2 : p ≠ dx := ne_of_none e hdx
  exact ⟨a, b1, c, b _ _ (by simpa using n1) (by rw [upd_ne n1, upd_ne n2]; exact e), r⟩
def spRight : Sp := fun vs H Q _ => ∃ p : Addr, vs = [.ref p] ∧ PotAt H p 0 ∧ ∀ H', But [p] H H' → Q (.bl true) H'
section
variable {P : Program} {w : World} {K : PySem.W.Frag} {mg : Str → Option Value} {base : Heap} {f : Addr} {fd : FuncData} {C : Addr}
abbrev s_law_right : Stmt := top 43
theorem sc_law_right : FnScope ["pot", "lines", "task", "other", "chain", "end", "brought", "said", "marks", "mark", "less", "one", "its"] ["pot"] (defScope s_law_right) := ⟨rfl, rfl, rfl, by decide +kernel, rfl, by decide +kernel, by decide +kernel⟩
theorem ok_law_right (F : Fun K "_law_right" "_law_right" s_law_right f fd) (T : RTx mg) (hC : TC K C) (G_law_take : Fd P w K mg base CX0 "_law_take" 1 ["pot", "upto"] spTake) (G_law_some : Fd P w K mg base CX0 "_law_some" 2 ["pot", "pool", "many"] (spSome K)) (G_law_task : Fd P w K mg base CX0 "_law_task" 4 ["pot", "most"] spTask) (G_law_task_text : Fd P w K mg base CX0 "_law_task_text" 2 ["lines"] spTaskT) (G_law_again : Fd P w K mg base CX0 "_law_again" 3 ["pot", "lines"] spAgain63) (G_law_chain : Fd P w K mg base CX0 "_law_chain" 3 ["pot", "some"] (spChain K)) (G_law_words_of : Fd P w K mg base CX0 "_law_words_of" 1 ["lines"] (spWordsOf leftW)) (G_law_spoken : Fd P w K mg base CX0 "_law_spoken" 1 ["lines"] (spWordsOf spokW)) (G_law_is_part : Fd P w K mg base CX0 "_law_is_part" 1 ["one", "other"] spIsPart) (M_Task : MkC P w K mg base "Task" C 6 ["self", "text"] (spTInit C)) (M_ends : Md P w K mg base CX0 C "ends" 3 ["self", "lot"] (spEnds C)) (M_right : Md P w K mg base CX0 C "right" 4 ["self", "brought", "said"] (spTRight C)) : FnOkG P w K mg base CX0 8 f fd ["pot"] spRight := by
  refine fun_okG F sc_law_right (fun vs H Q E h => ?_) (fun cdv A outer s H vs Q E hr hgu h => ?_)
  · obtain ⟨p, rfl, _⟩ := h
    rfl
  obtain ⟨p, rfl, hP, k⟩ := h
  refine ⟨_, (pss_cons (ps_set (i := 1) sc_law_right.nd rfl (Or.inl rfl) (pe_fd G_law_task (hr.mono (by first | decide | omega)) rfl (pa_cons (pv 0) (pa_cons pe_int pa_nil))))
  (pss_cons (ps_asg (pe_tup (pa_cons (pe_mk M_Task (hr.mono (by first | decide | omega)) rfl (pa_cons (pe_fd G_law_task_text (hr.mono (by first | decide | omega)) rfl (pa_cons (pv 1) pa_nil)) pa_nil)) (pa_cons (pe_mk M_Task (hr.mono (by first | decide | omega)) rfl (pa_cons (pe_fd G_law_task_text (hr.mono (by first | decide | omega)) rfl (pa_cons (pe_fd G_law_again (hr.mono (by first | decide | omega)) rfl (pa_cons (pv 0) (pa_cons (pv 1) pa_nil))) pa_nil)) pa_nil)) pa_nil))) (pg_tup rfl (pgs_cons (pg_name (i := 2) sc_law_right.nd rfl (Or.inr rfl)) (pgs_cons (pg_name (i := 3) sc_law_right.nd rfl (Or.inr rfl)) pgs_nil))))
  (pss_cons (ps_set (i := 4) sc_law_right.nd rfl (Or.inl rfl) (pe_fd G_law_chain (hr.mono (by first | decide | omega)) rfl (pa_cons (pv 0) (pa_cons (pe_fd G_law_words_of (hr.mono (by first | decide | omega)) rfl (pa_cons (pv 1) pa_nil)) pa_nil))))
  (pss_cons (ps_for PassesOwn.never rfl (pi_tup (pe_md (pv 2) hC.cl M_ends (hr.mono (by first | decide | omega)) (pa_cons (pe_ix ix_list (pv 4) pe_int (fun _ _ => rfl)) pa_nil))) (pg_name (i := 5) sc_law_right.nd rfl (Or.inr rfl)) (pss_one (ps_if (pt_not (pt_val (pe_callB (cr_all rfl) rfl T.all (by decide +kernel) (pa_cons (pe_lc (own := [("brought", 6)]) (g := (gName 6)) (tt := tYes) rfl sc_law_right.nd (pi_list (pv 4)) (blkOk_by (own := [("brought", 6)]) (N := ["pot", "lines", "task", "other", "chain", "end", "brought", "said", "marks", "mark", "less", "one", "its"]) (sc := defScope s_law_right) (by decide +kernel)) (fun _ _ _ _ _ => (pg_name (i := 6) sc_law_right.nd rfl (Or.inl rfl))) (fun _ _ _ _ _ => pts_nil) (fun _ _ _ _ _ => (pe_callB (cr_anyK rfl) rfl T.any (by decide +kernel) (pa_cons (pe_lc (own := [("its", 12)]) (g := (gName 12)) (tt := tYes) rfl sc_law_right.nd (pi_tupK' (pe_md (pv 2) hC.cl M_ends (hr.mono (by first | decide | omega)) (pa_cons (pv 6) pa_nil))) (blkOk_by (own := [("its", 12)]) (N := ["pot", "lines", "task", "other", "chain", "end", "brought", "said", "marks", "mark", "less", "one", "its"]) (sc := osc_law_right) (by decide +kernel)) (fun _ _ _ _ _ => (pg_name (i := 12) sc_law_right.nd rfl (Or.inl rfl))) (fun _ _ _ _ _ => pts_nil) (fun _ _ _ _ _ => (pe_fd G_law_is_part (hr.mono (by first | decide | omega)) rfl (pa_cons (pv 5) (pa_cons (pv 12) pa_nil))))) pa_nil)))) pa_nil)))) (pss_one (ps_ret pe_bl)) pss_nil)))
  (pss_cons (ps_for PassesOwn.never rfl (pi_list (pe_revL (pe_op op_cat (pe_lst (pa_cons (pe_tup pa_nil) pa_nil)) (pe_fd G_law_chain (hr.mono (by first | decide | omega)) rfl (pa_cons (pv 0) (pa_cons (pe_fd G_law_spoken (hr.mono (by first | decide | omega)) rfl (pa_cons (pv 1) pa_nil)) pa_nil)))))) (pg_name (i := 7) sc_law_right.nd rfl (Or.inr rfl)) (pss_cons (ps_setLc (i := 8) (own := [("brought", 6)]) (g := (gName 6)) (tt := tYes) rfl sc_law_right.nd rfl rfl (sw_true rfl rfl rfl (by decide +kernel)) (pi_list (pv 4)) (blkOk_by (own := [("brought", 6)]) (N := ["pot", "lines", "task", "other", "chain", "end", "brought", "said", "marks", "mark", "less", "one", "its"]) (sc := defScope s_law_right) (by decide +kernel)) (fun _ _ _ _ _ => (pg_name (i := 6) sc_law_right.nd rfl (Or.inl rfl))) (fun _ _ _ _ _ => pts_nil) (fun _ _ _ _ _ => (pe_md (pv 2) hC.cl M_right (hr.mono (by first | decide | omega)) (pa_cons (pv 6) (pa_cons (pv 7) pa_nil)))))
  (pss_cons (ps_if (PW.pt (pw_or (pt_cmpR (op_neD hr.units) (pv 8) (pe_callB (cr_sortedB hr.units) rfl T.sorted (by decide +kernel) (pa_cons (pv 8) pa_nil)) (nomark _)) (pw_or1 (pt_not (pt_val (pe_callB (cr_all rfl) rfl T.all (by decide +kernel) (pa_cons (pe_lc (own := [("mark", 9)]) (g := (gName 9)) (tt := tYes) rfl sc_law_right.nd (pi_list (pv 8)) (blkOk_by (own := [("mark", 9)]) (N := ["pot", "lines", "task", "other", "chain", "end", "brought", "said", "marks", "mark", "less", "one", "its"]) (sc := defScope s_law_right) (by decide +kernel)) (fun _ _ _ _ _ => (pg_name (i := 9) sc_law_right.nd rfl (Or.inl rfl))) (fun _ _ _ _ _ => pts_nil) (fun _ _ _ _ _ => (pe_callB call_isiB rfl T.isinstance (by decide +kernel) (pa_cons (pv 9) (pa_cons (pe_bltn (v := .ty "bool") rfl T.bool boot_bool rfl) pa_nil))))) pa_nil))))))) (pss_one (ps_ret pe_bl)) pss_nil)
  (pss_cons (ps_if (pt_cmpR (op_neD hr.units) (pv 8) (pe_lc (own := [("brought", 6)]) (g := (gName 6)) (tt := tYes) rfl sc_law_right.nd (pi_list (pv 4)) (blkOk_by (own := [("brought", 6)]) (N := ["pot", "lines", "task", "other", "chain", "end", "brought", "said", "marks", "mark", "less", "one", "its"]) (sc := defScope s_law_right) (by decide +kernel)) (fun _ _ _ _ _ => (pg_name (i := 6) sc_law_right.nd rfl (Or.inl rfl))) (fun _ _ _ _ _ => pts_nil) (fun _ _ _ _ _ => (pe_md (pv 3) hC.cl M_right (hr.mono (by first | decide | omega)) (pa_cons (pv 6) (pa_cons (pv 7) pa_nil))))) (nomark _)) (pss_one (ps_ret pe_bl)) pss_nil)
  (pss_one (ps_for PassesOwn.never rfl (pi_zip rfl T.zip (pa_cons (pv 4) (pa_cons (pv 8) pa_nil))) (pg_tup rfl (pgs_cons (pg_name (i := 6) sc_law_right.nd rfl (Or.inl rfl)) (pgs_cons (pg_name (i := 9) sc_law_right.nd rfl (Or.inl rfl)) pgs_nil))) (pss_cons (ps_set (i := 10) sc_law_right.nd rfl (Or.inl rfl) (pe_callTy call_tuple_of rfl T.tuple (by decide +kernel) (pa_cons (pe_lc (own := [("one", 11)]) (g := (gName 11))  rfl sc_law_right.nd (pi_tup (pv 7)) (blkOk_by (own := [("one", 11)]) (N := ["pot", "lines", "task", "other", "chain", "end", "brought", "said", "marks", "mark", "less", "one", "its"]) (sc := defScope s_law_right) (by decide +kernel)) (fun _ _ _ _ _ => (pg_name (i := 11) sc_law_right.nd rfl (Or.inl rfl))) (fun _ _ _ _ _ => (pts_one (pt_cmpR op_eq (pe_fd G_law_take (hr.mono (by first | decide | omega)) rfl (pa_cons (pv 0) (pa_cons pe_int pa_nil))) pe_int (nomark _)))) (fun _ _ _ _ _ => (pv 11))) pa_nil)))
  (pss_one (ps_if (PW.pt (pw_and (pt_truth (pv 9) (by intro _; rfl)) (pw_and1 (pt_cmpR op_notBl (pe_md (pv 2) hC.cl M_right (hr.mono (by first | decide | omega)) (pa_cons (pv 6) (pa_cons (pv 10) pa_nil))) pe_bl (nomark _))))) (pss_one (ps_ret pe_bl)) pss_nil)))))))))
  (pss_one (ps_ret (pe_callB (cr_all rfl) rfl T.all (by decide +kernel) (pa_cons (pe_lc (own := [("brought", 6)]) (g := (gName 6)) (tt := tYes) rfl sc_law_right.nd (pi_list (pv 4)) (blkOk_by (own := [("brought", 6)]) (N := ["pot", "lines", "task", "other", "chain", "end", "brought", "said", "marks", "mark", "less", "one", "its"]) (sc := defScope s_law_right) (by decide +kernel)) (fun _ _ _ _ _ => (pg_name (i := 6) sc_law_right.nd rfl (Or.inl rfl))) (fun _ _ _ _ _ => pts_nil) (fun _ _ _ _ _ => (pe_cmpR op_eq (pe_callB (call_reprK hgu (u66 hr)) rfl T.repr (by decide +kernel) (pa_cons (pe_md (pv 2) hC.cl M_ends (hr.mono (by first | decide | omega)) (pa_cons (pv 6) pa_nil)) pa_nil)) (pe_callB (call_reprK hgu (u66 hr)) rfl T.repr (by decide +kernel) (pa_cons (pe_md (pv 3) hC.cl M_ends (hr.mono (by first | decide | omega)) (pa_cons (pv 6) pa_nil)) pa_nil)) (nomark _)))) pa_nil))))))))), ?_⟩
  refine seq_in ?_
  refine asg_in ?_
  refine ⟨_, rfl, p, 5, 0, rfl, hP, by omega, by omega, by omega, fun l xs ls H1 g1 hP1 nl hl hxs TD => ?_⟩
  obtain ⟨D, TG⟩ := TD.g
  have lp := (but_none (But.refl _ _) hP nl).2
  refine g_set ?_
  refine nx_in ?_
  refine seq_in ?_
  refine asg_in ?_
  have hfew := TD.few
  refine ⟨_, rfl, [p], l, xs, ls, rfl, hl, hxs, TG.ln, by omega, fun H2 g2 d dx hd hdx hne => ⟨d, dx, taskT ls, ls, D, rfl, TG.tk, upd_same, by rw [upd_ne hne]; exact upd_same, fun H3 b3 T3 => ⟨rfl, ?_⟩⟩⟩
  have c2 : But [p] H1 H2 := .of g2
  have b3' : But [p] H2 H3 := but_drop ((but_wide (D := d) (but_new (but_new (But.refl [p] H2) hdx) hd)).trans (b3.wide (by simp))) hd
  have hP3 := pot_at b3 hne (pot_sm g2 hP1) hd hdx
  have g13 := c2.trans b3'
  have hl3 := g13 _ _ (by simpa using lp) hl
  have hxs3 := pr_st st_ln g13 hxs
  refine ⟨_, rfl, _, rfl, p, l, xs, ls, 1000, rfl, hP3.mono (by omega), by omega, hl3, hxs3, TD, lp, fun l2 ys ps ms H4 g4 hP4 hl2 hys hpm hag => ?_⟩
  have TP := TaskD.perm hpm.symm TD
  obtain ⟨Dp, TPG⟩ := TP.g
  have MG := again_g hag TP TPG
  have hmf := MG.few
  refine ⟨[p], l2, ys, ms, rfl, hl2, hys, MG.ln, by omega, fun H5 g5 d2 dx2 hd2 hdx2 hne2 => ⟨d2, dx2, taskT ms, ms, Dp, rfl, MG.tk, upd_same, by rw [upd_ne hne2]; exact upd_same, fun H6 b6 T6 => ⟨rfl, szl (by show 2 ≤ _; decide), fun tp ntp => ?_⟩⟩⟩
  have b6' : But [p] H5 H6 := but_drop ((but_wide (D := d2) (but_new (but_new (But.refl [p] H5) hdx2) hd2)).trans (b6.wide (by simp))) hd2
  have hP6 := pot_at b6 hne2 (pot_sm g5 hP4) hd2 hdx2
  have g36 : But [p] H3 H6 := (g4.trans (.of g5)).trans b6'
  have s7 := same_new ntp (.tup [V.ref d, V.ref d2])
  have g37 : But [p] H3 (upd H6 tp (.tup [V.ref d, V.ref d2])) := g36.trans (.of s7)
  have hpl : ∀ x ∈ [p], ∃ us, H3 x = some (.lst us) := fun x hx => by
    obtain ⟨a, b, c, e, _⟩ := hP3
    rw [List.mem_singleton.mp hx]; exact ⟨_, e⟩
  have T7 := T3.but g37 hpl
  have U7 := T6.same s7
  have hP7 := pot_sm s7 hP6
  have hl7 := g37 _ _ (by simpa using lp) hl3
  have hxs7 := pr_st st_ln g37 hxs3
  have b7 : But [p] H (upd H6 tp (.tup [V.ref d, V.ref d2])) := (g1.trans g13).trans g37
  have htp7 : upd H6 tp (.tup [V.ref d, V.ref d2]) tp = some (.tup [V.ref d, V.ref d2]) := upd_same
  generalize upd H6 tp (.tup [V.ref d, V.ref d2]) = H7 at T7 U7 hP7 hl7 hxs7 b7 htp7 ⊢
  clear s7 ntp g37 g36 b6' b6 hP6 g5 g4 hP4 hl2 hys hl3 hxs3 g13 c2 b3' b3 T3 T6 hP3 g2 hd hdx hd2 hdx2 hl hxs hP1 g1 nl hpl
  refine ⟨tp, _, rfl, .of htp7, rfl, _, _, rfl, _, _, rfl, rfl, ?_⟩
  refine nx_in ?_
  refine seq_in ?_
  refine asg_in ?_
  have hWf := TG.w
  have wrg : ∀ x ∈ leftW ls, 0 ≤ x ∧ x < 100 := fun x hx => hWf.dr x (hWf.lD x hx)
  have srg : ∀ x ∈ spokW ls, 0 ≤ x ∧ x < 100 := fun x hx => hWf.dr x (hWf.sD x hx)
  have wlen : (lotM (leftW ls)).length ≤ 5 := by
    obtain ⟨w5, q1, q2, q3⟩ := TG.ws
    exact Nat.le_trans (lotM_few q2) q1
  have slen : (lotM (spokW ls)).length ≤ 4 := by
    obtain ⟨w5, q1, q2, q3⟩ := TG.ps
    exact Nat.le_trans (lotM_few q2) q1
  refine ⟨_, rfl, _, rfl, [p], l, xs, ls, D, rfl, hl7, hxs7, hWf, fun v H8 s8 ⟨c, e, hc⟩ => ?_⟩
  subst e
  have hP8 := pot_sm s8 hP7
  have cp : c ≠ p := fun z => by
    obtain ⟨_, _, _, e, _⟩ := hP8
    rw [z, e] at hc; cases hc
  refine ⟨p, c, lotM (leftW ls), 1200, rfl, hP8.mono (by omega), by omega, hc, srt_nodup (lotM_up _), fun x hx => by have := wrg x ((lotM_mem wrg).mp hx); omega, by omega, cp, fun lc cx cs H9 g9 hP9 nlc hlc hcs CD => ?_⟩
  have lcp := (but_none (But.refl _ _) hP8 nlc).2
  obtain ⟨pa, pb, pc, pe, _⟩ := id hP8
  have hpl : ∀ x ∈ [p], ∃ us, H8 x = some (.lst us) := fun x hx => by rw [List.mem_singleton.mp hx]; exact ⟨_, pe⟩
  have R9 : RtSt C p d d2 lc ls ms cx cs H9 := ⟨(T7.same s8).but g9 hpl, (U7.same s8).but g9 hpl, hlc, hcs, lcp⟩
  have hl9 := g9 _ _ (by simpa using lp) (s8 _ _ hl7)
  have hxs9 := pr_st st_ln g9 (pr_st st_ln (.of s8) hxs7)
  have b9 : But [p] H H9 := (b7.trans (.of s8)).trans g9
  have hG := TG.g
  have hGm := MG.g
  have okc : ∀ c ∈ cs, LotOk c ∧ (∀ x ∈ c, x ∈ lotM (leftW ls)) ∧ ∀ x ∈ c, x ∈ lotM (leftW ms) := fun c hc => ⟨(CD.ok c hc).1, (CD.ok c hc).2, fun x hx => again_lotM hag hpm MG TG ((CD.ok c hc).2 x hx)⟩
  have cxl := pr_len hcs
  have csl := CD.len
  have cs0 : 0 < cs.length := by
    rw [csl]
    refine List.length_pos_iff.mpr fun z => ?_
    cases els : ls with
    | nil => exact TG.ne els
    | cons ln r =>
      have hln : ln ∈ ls := by rw [els]; exact List.mem_cons_self
      have hne := (TG.ok ln hln).1.ne
      cases el : ln.1 with
      | nil => exact hne el
      | cons a b =>
        have : a ∈ lotM (leftW ls) := (lotM_mem wrg).mpr (mem_left.mpr ⟨ln, hln, by rw [el]; exact List.mem_cons_self⟩)
        rw [z] at this
        cases this
  clear hP8 hlc hcs hP7 T7 U7 hl7 hxs7 htp7 b7 s8 g9 hc pe hpl nlc
  refine g_set ?_
  refine nx_in ?_
  refine seq_in ?_
  obtain ⟨c0, hc0⟩ : ∃ c0, cs[0]? = some c0 := ⟨_, List.getElem?_eq_getElem cs0⟩
  obtain ⟨v0, hv0⟩ : ∃ v0, cx[0]? = some v0 := ⟨_, List.getElem?_eq_getElem (by omega)⟩
  have hc0m := List.mem_of_getElem? hc0
  have hsub : ∀ (j : Nat) (c : List Int), cs[j]? = some c → subL c0 c := fun j c hj => by
    cases j with
    | zero => rw [hc0] at hj; cases hj; exact fun x hx => hx
    | succ j =>
      have h1 := get_lt hj
      have := List.pairwise_iff_getElem.mp CD.up 0 (j + 1) cs0 h1 (by omega)
      rw [List.getElem?_eq_getElem cs0] at hc0
      rw [List.getElem?_eq_getElem h1] at hj
      cases hc0
      cases hj
      exact this
  obtain ⟨dx1, tl1, yz1, tw1, ts1, TI⟩ := id R9.one
  obtain ⟨c0', hc0', hvt⟩ := pr_ix R9.cp hv0
  rw [hc0] at hc0'
  cases hc0'
  refine ⟨_, rfl, d, dx1, _, rfl, TI.obj, tn_ends, _, rfl, lc, _, 0, v0, rfl, rfl, .of R9.ch, atI0t hv0, d, v0, taskT ls, ls, c0, rfl, R9.one, hG, hvt.v, (okc c0 hc0m).1, (okc c0 hc0m).2.1, fun t zs G H10 g10 ht hz hgr => ⟨t, rfl, ⟨_, .of ht⟩, for_tup (K := K) (a := t) (xs := zs) (fun i σ H' => ∃ u5, σ = [some (.ref p), some (.ref l), some (.ref d), some (.ref d2), some (.ref lc), u5, none, none, none, none, none, none, none] ∧ Same H10 H') ⟨_, rfl, Same.refl _⟩ ?_ ?_ ?_⟩⟩
  · rintro i σ H' _ ⟨_, rfl, g⟩
    exact .of (g _ _ ht)
  · rintro i x σ H11 hx ⟨u5, rfl, g11⟩
    obtain ⟨e, he, ce, rfl, hce⟩ := pr_ix hz hx
    have heG := ((hgr.mem e).mp (List.mem_of_getElem? he)).1
    have S11 := R9.but (But.of (g10.trans g11)) hP9
    have hce11 := g11 _ _ hce
    have hel : e.length ≤ 100 := by
      obtain ⟨ln, h1, h2, h3⟩ := mem_for.mp heG
      exact (hG.ends ln h1 e h3).few
    refine g_set ?_
    refine ⟨_, rfl, lc, rfl, ⟨_, .of S11.ch⟩, fun Dd nDd => ?_⟩
    refine lc_bools walk_list (fun _ => true) nDd (by omega) (fun H' g => .of (g _ _ S11.ch)) (fun j y H12 H13 hj g12 yy Q4 N kk => ?_) fun H12 g12 h12 => ?_
    · obtain ⟨rfl, hy⟩ := yy
      obtain ⟨c, hc, cv, rfl, ncv, hcv⟩ := pr_ix S11.cp hy
      have S12 := S11.but (But.of g12) (pot_sm (g10.trans g11) hP9)
      have hcm := List.mem_of_getElem? hc
      obtain ⟨dx2, tl2, yz2, tw2, ts2, TI2⟩ := id S12.one
      refine ⟨rfl, yes_in ?_⟩
      refine ⟨_, rfl, d, dx2, _, rfl, TI2.obj, tn_ends, _, rfl, d, .ref cv, taskT ls, ls, c, rfl, S12.one, hG, ⟨cv, rfl, g12 _ _ hcv⟩, (okc c hcm).1, (okc c hcm).2.1, fun t2 zs2 G2 H14 g14 ht2 hz2 hgr2 => ⟨t2, rfl, ⟨_, .of ht2⟩, fun D2 nD2 => ?_⟩⟩
      have hz2l := pr_len hz2
      have hlots2 : ∀ l ∈ lotsFor ls c, l.Pairwise (· < ·) ∧ l.length ≤ 100 := fun l hl => by
        obtain ⟨ln, h1, h2, h3⟩ := mem_for.mp hl
        have := hG.ends ln h1 l h3
        exact ⟨this.up, this.few⟩
      have hG2l : G2.length < 64 := by
        have h1 : G2.length ≤ (lotsFor ls c).length := nodup_le hgr2.nd fun x hx => ((hgr2.mem x).mp hx).1
        have h2 : (lotsFor ls c).length < 64 := Nat.lt_of_le_of_lt (fm_sub List.filter_sublist).length_le hG.all
        omega
      refine lc_bools walk_tup (fun j => withinB e (G2.getD j [])) nD2 (by omega) (fun H' g => .of (g _ _ ht2)) (fun j2 y2 H15 H16 hj2 g15 yy2 Q5 N2 kk2 => ?_) fun H15 g15 h15 => ?_
      · obtain ⟨rfl, hy2⟩ := yy2
        obtain ⟨e2, he2, ce2, rfl, hce2⟩ := pr_ix hz2 hy2
        refine ⟨rfl, yes_in ?_⟩
        refine ⟨_, rfl, _, rfl, .ref ce, .ref ce2, e, e2, rfl, ⟨ce, rfl, g15 _ _ (g14 _ _ (g12 _ _ hce11))⟩, ⟨ce2, rfl, g15 _ _ hce2⟩, by omega, fun H17 g17 => ?_⟩
        have eg : G2.getD j2 [] = e2 := by rw [List.getD_eq_getElem?_getD, he2]; rfl
        rw [eg] at kk2
        exact kk2 _ g17
      · refine ⟨D2, _, rfl, .of h15, ?_⟩
        rw [hz2l, any_within, decide_eq_true ((hgr2.has hlots2 e).mpr ⟨e, for_mono (hsub j c hc) heG, fun x hx => hx⟩)]
        exact kk _ (g14.trans g15)
    · refine ⟨Dd, _, rfl, .of h12, _, rfl, ?_⟩
      have ea : ((List.range cx.length).map fun _ => true).all id = true := by simp
      rw [ea]
      refine iteF ?_
      refine next_in ?_
      exact ⟨_, rfl, g11.trans g12⟩
  rintro σ H11 ⟨u5, rfl, g11⟩
  have S11 := R9.but (But.of (g10.trans g11)) hP9
  have hP11 := pot_sm (g10.trans g11) hP9
  have hl11 := g11 _ _ (g10 _ _ hl9)
  have hxs11 := pr_st st_ln (.of (g10.trans g11)) hxs9
  have b11 : But [p] H H11 := b9.trans (.of (g10.trans g11))
  clear TI hvt R9 hl9 hxs9 hP9 b9 g10 ht hz hgr g11
  refine nx_in ?_
  refine seq_in ?_
  refine ⟨szl (by show 0 ≤ _; decide), fun e0 ne0 => ⟨szl (by show 1 ≤ _; decide), fun e1 ne1 => ?_⟩⟩
  have sa := same_new ne0 (.tup [])
  have sb := same_new ne1 (.lst [V.ref e0])
  have sab := sa.trans sb
  have he0 := sb _ _ (upd_same : upd H11 e0 (.tup []) e0 = _)
  have he1 : upd (upd H11 e0 (.tup [])) e1 (.lst [V.ref e0]) e1 = some (.lst [V.ref e0]) := upd_same
  have e0p := (but_none (But.refl _ _) hP11 ne0).2
  have e1p := (but_none (But.refl _ _) (pot_sm sa hP11) ne1).2
  have hPa := pot_sm sab hP11
  have Sa := S11.but (But.of sab) hP11
  have ba := b11.trans (.of sab)
  have hla := sab _ _ hl11
  have hxsa := pr_st st_ln (.of sab) hxs11
  generalize upd (upd H11 e0 (.tup [])) e1 (.lst [V.ref e0]) = Ha at he0 he1 hPa Sa ba hla hxsa ⊢
  clear sa sb sab ne0 ne1 S11 hP11 hl11 hxs11 b11
  refine ⟨_, rfl, _, rfl, [p], l, xs, ls, D, rfl, hla, hxsa, hWf, fun v Hb sb ⟨c2, e2, hc2⟩ => ?_⟩
  subst e2
  have hPb := pot_sm sb hPa
  have c2p : c2 ≠ p := fun z => by
    obtain ⟨_, _, _, e, _⟩ := hPb
    rw [z, e] at hc2; cases hc2
  refine ⟨p, c2, lotM (spokW ls), 1220, rfl, hPb, by omega, hc2, srt_nodup (lotM_up _), fun x hx => by have := srg x ((lotM_mem srg).mp hx); omega, by omega, c2p, fun ld dxs ds Hc gc hPc nld hld hds CDs => ?_⟩
  have gac : But [p] Ha Hc := (But.of sb).trans gc
  have Sc := Sa.but gac hPa
  have he0c := gac _ _ (by simpa using e0p) he0
  have he1c := gac _ _ (by simpa using e1p) he1
  have dsl := pr_len hds
  have dl4 := CDs.len
  have sall : Paired (LtN [p] Hc) ([V.ref e0] ++ dxs).reverse (([[]] ++ ds).reverse) := pr_rev (.cons ⟨e0, rfl, by simpa using e0p, he0c⟩ hds)
  have oks : ∀ s ∈ ([[]] ++ ds).reverse, s.Pairwise (· < ·) ∧ (∀ x ∈ s, 0 ≤ x) ∧ s.length ≤ 100 := fun s hs => by
    rcases List.mem_append.mp (List.mem_reverse.mp hs) with h | h
    · rw [List.mem_singleton.mp h]
      exact ⟨.nil, (fun _ h => nomatch h), Nat.zero_le _⟩
    · have := (CDs.ok s h).1
      exact ⟨this.up, fun x hx => (this.rng x hx).1, this.few⟩
  refine ⟨e1, ld, [V.ref e0], dxs, rfl, rfl, he1c, hld, szl (by show 1 + dxs.length ≤ _; omega), fun e3 ne3 => ⟨e3, [V.ref e0] ++ dxs, rfl, .of upd_same, fun e4 ne4 => ?_⟩⟩
  have s3 := same_new ne3 (.lst ([V.ref e0] ++ dxs))
  have s4 := same_new ne4 (.lst ([V.ref e0] ++ dxs).reverse)
  have s34 := s3.trans s4
  have hPd := pot_sm s34 hPc
  have Sd := Sc.but (But.of s34) hPc
  have salld := pr_st st_lt (.of s34) sall
  have e4p := (but_none (But.refl _ _) (pot_sm s3 hPc) ne4).2
  have bd := (ba.trans gac).trans (.of s34)
  have h4d : upd (upd Hc e3 (.lst ([V.ref e0] ++ dxs))) e4 (.lst ([V.ref e0] ++ dxs).reverse) e4 = some (.lst ([V.ref e0] ++ dxs).reverse) := upd_same
  generalize upd (upd Hc e3 (.lst ([V.ref e0] ++ dxs))) e4 (.lst ([V.ref e0] ++ dxs).reverse) = Hd at hPd Sd salld bd h4d ⊢
  clear s3 s4 s34 ne3 ne4 hPc Sc sall gac gc hPb hc2 sb he0 he1 hPa Sa ba hla hxsa he0c he1c hld hds
  have salll := pr_len salld
  have sl5 : ([V.ref e0] ++ dxs).reverse.length ≤ 5 := by
    rw [List.length_reverse]
    have : ([V.ref e0] ++ dxs).length = 1 + dxs.length := by rw [List.length_append]; rfl
    omega
  generalize ([V.ref e0] ++ dxs).reverse = sx at salld h4d salll sl5 ⊢
  generalize ([[]] ++ ds).reverse = ss at salld salll oks
  refine ⟨e4, rfl, ⟨_, .of h4d⟩, for_list (K := K) (a := e4) (xs := sx) (fun i σ H' => ∃ u6 u7 u8 u9 u10, σ = [some (.ref p), some (.ref l), some (.ref d), some (.ref d2), some (.ref lc), u5, u6, u7, u8, u9, u10, none, none] ∧ But [p] Hd H' ∧ PotAt H' p (1240 + 3000 * i)) ⟨_, _, _, _, _, rfl, But.refl _ _, hPd⟩ ?_ ?_ ?_⟩
  · rintro i σ H' _ ⟨_, _, _, _, _, rfl, g, _⟩
    exact .of (g _ _ (by simpa using e4p) h4d)
  · rintro i x σ H15 hx ⟨u6, u7, u8, u9, u10, rfl, g15, hP15⟩
    have hi5 : i < sx.length := get_lt hx
    have S15 := Sd.but g15 hPd
    obtain ⟨sd, hsd, sv, rfl, nsv, hsv⟩ := pr_ix (pr_st st_lt g15 salld) hx
    obtain ⟨sup, s0, sl⟩ := oks sd (List.mem_of_getElem? hsd)
    refine g_set ?_
    refine seq_in ?_
    refine asg_in ?_
    refine ⟨_, rfl, lc, rfl, ⟨_, .of S15.ch⟩, fun Dm nDm => ?_⟩
    refine lc_bools walk_list (fun j => rightB ls (cs.getD j []) sd) nDm (by omega) (fun H' g => .of (g _ _ S15.ch)) (fun j y H16 H17 hj g16 yy Q4 N kk => ?_) fun H16 g16 h16 => ?_
    · obtain ⟨rfl, hy⟩ := yy
      obtain ⟨c, hc, cv, rfl, ncv, hcv⟩ := pr_ix S15.cp hy
      have S16 := S15.but (But.of g16) hP15
      have hcm := List.mem_of_getElem? hc
      obtain ⟨dx2, tl2, yz2, tw2, ts2, TI2⟩ := id S16.one
      have eg : cs.getD j [] = c := by rw [List.getD_eq_getElem?_getD, hc]; rfl
      rw [eg] at kk
      refine ⟨rfl, yes_in ?_⟩
      exact ⟨_, rfl, d, dx2, _, rfl, TI2.obj, tn_right, _, rfl, _, rfl, d, .ref cv, .ref sv, taskT ls, ls, c, sd, rfl, S16.one, hG, ⟨cv, rfl, g16 _ _ hcv⟩, (okc c hcm).1, (okc c hcm).2.1, ⟨sv, rfl, g16 _ _ hsv⟩, sup, s0, sl, fun H18 g18 => kk _ g18⟩
    have S16 := S15.but (But.of g16) hP15
    have hP16 := pot_sm g16 hP15
    have hsv16 := g16 _ _ hsv
    have g16' : But [p] Hd H16 := g15.trans (.of g16)
    have Dmp := (but_none (But.refl _ _) hP15 nDm).2
    generalize hbs : ((List.range cx.length).map fun j => rightB ls (cs.getD j []) sd) = bs at h16
    have hbl : bs.length = cx.length := by rw [← hbs, List.length_map, List.length_range]
    have bsrt : (bs.mergeSort fun a b => decide (biI a ≤ biI b)) = bs := by
      refine List.mergeSort_of_pairwise ?_
      rw [← hbs, List.pairwise_map]
      refine List.pairwise_iff_getElem.mpr fun i j hi hj hij => ?_
      rw [List.getElem_range, List.getElem_range]
      rw [List.length_range] at hi hj
      have h1 : i < cs.length := by omega
      have h2 : j < cs.length := by omega
      have := List.pairwise_iff_getElem.mp CD.up i j h1 h2 hij
      rw [List.getD_eq_getElem?_getD, List.getD_eq_getElem?_getD, List.getElem?_eq_getElem h1, List.getElem?_eq_getElem h2]
      show decide (biI (rightB ls cs[i] sd) ≤ biI (rightB ls cs[j] sd)) = true
      cases e : rightB ls cs[i] sd with
      | false => cases rightB ls cs[j] sd <;> rfl
      | true => rw [right_lot this e]; rfl
    refine g_set ?_
    refine nx_in ?_
    refine seq_in ?_
    refine ⟨_, rfl, _, rfl, Dm, bs, rfl, .of h16, fun q nq => ?_⟩
    rw [bsrt]
    have sq := same_new nq (.lst (bs.map V.bl))
    refine ⟨.list (bs.map fun b => PyData.bool b), .list (bs.map fun b => PyData.bool b), .lst (.of (sq _ _ h16)) (bls_dp bs), .lst (.of upd_same) (bls_dp bs), bls_sh bs, bls_sh bs, _, rfl, ?_⟩
    rw [bls_eqv]
    have h17 := sq _ _ h16
    have S17 := S16.but (But.of sq) hP16
    have hP17 := pot_sm sq hP16
    have hsv17 := sq _ _ hsv16
    have g17' : But [p] Hd (upd H16 q (.lst (bs.map V.bl))) := g16'.trans (.of sq)
    generalize upd H16 q (.lst (bs.map V.bl)) = H17 at h17 S17 hP17 hsv17 g17' ⊢
    clear sq nq h16 S16 hP16 hsv16 g16' g16 hP15 S15 hsv nDm g15
    refine iteF ?_
    refine ⟨_, rfl, Dm, rfl, ⟨_, .of h17⟩, fun Di nDi => ?_⟩
    refine lc_bools walk_list (fun _ => true) nDi (by rw [List.length_map]; omega) (fun H' g => .of (g _ _ h17)) (fun j y H18 H19 hj g18 yy Q4 N kk => ?_) fun H18 g18 h18 => ?_
    · obtain ⟨rfl, hy⟩ := yy
      rw [List.length_map] at hj
      rw [List.getElem?_map, List.getElem?_eq_getElem hj] at hy
      cases hy
      refine ⟨rfl, yes_in ?_⟩
      exact ⟨_, rfl, _, _, _, _, true, rfl, .ty "bool", .base (.bl _), by first | rfl | decide +kernel | kernel_rfl, kk _ (Same.refl _)⟩
    refine ⟨Di, _, rfl, .of h18, _, rfl, ?_⟩
    have ea : ((List.range (bs.map V.bl).length).map fun _ => true).all id = true := by simp
    rw [ea]
    refine iteF ?_
    refine next_in ?_
    refine nx_in ?_
    refine seq_in ?_
    have h18' := g18 _ _ h17
    have S18 := S17.but (But.of g18) hP17
    have hP18 := pot_sm g18 hP17
    have hsv18 := g18 _ _ hsv17
    have g18' := g17'.trans (.of g18)
    clear h17 S17 hP17 hsv17 g17' h18 nDi
    refine ⟨_, rfl, _, rfl, lc, rfl, ⟨_, .of S18.ch⟩, fun Do nDo => ?_⟩
    refine lc_bools walk_list (fun j => rightB ls (cs.getD j []) sd) nDo (by omega) (fun H' g => .of (g _ _ S18.ch)) (fun j y H19 H20 hj g19 yy Q4 N kk => ?_) fun H19 g19 h19 => ?_
    · obtain ⟨rfl, hy⟩ := yy
      obtain ⟨c, hc, cv, rfl, ncv, hcv⟩ := pr_ix S18.cp hy
      have S19 := S18.but (But.of g19) hP18
      have hcm := List.mem_of_getElem? hc
      obtain ⟨dx2, tl2, yz2, tw2, ts2, TI2⟩ := id S19.two
      have eg : cs.getD j [] = c := by rw [List.getD_eq_getElem?_getD, hc]; rfl
      rw [eg, ← right_again hag hpm] at kk
      refine ⟨rfl, yes_in ?_⟩
      exact ⟨_, rfl, d2, dx2, _, rfl, TI2.obj, tn_right, _, rfl, _, rfl, d2, .ref cv, .ref sv, taskT ms, ms, c, sd, rfl, S19.two, hGm, ⟨cv, rfl, g19 _ _ hcv⟩, (okc c hcm).1, (okc c hcm).2.2, ⟨sv, rfl, g19 _ _ hsv18⟩, sup, s0, sl, fun H21 g21 => kk _ g21⟩
    rw [hbs] at h19
    refine ⟨.list (bs.map fun b => PyData.bool b), .list (bs.map fun b => PyData.bool b), .lst (.of (g19 _ _ h18')) (bls_dp bs), .lst (.of h19) (bls_dp bs), bls_sh bs, bls_sh bs, _, rfl, ?_⟩
    rw [bls_eqv]
    refine iteF ?_
    refine next_in ?_
    refine nx_in ?_
    have hm19 := g19 _ _ h18'
    have S19 := S18.but (But.of g19) hP18
    have hP19 := pot_sm g19 hP18
    have hsv19 := g19 _ _ hsv18
    have g19' := g18'.trans (.of g19)
    clear S18 hP18 hsv18 g18' h18' nDo h19 g19 g18
    have svp : sv ≠ p := by simpa using nsv
    refine ⟨_, rfl, _, rfl, lc, Dm, cx, bs.map V.bl, rfl, .of S19.ch, .of hm19, RZ.for_zipL (K := K) (xs := cx) (ys := bs.map V.bl) (by rw [List.length_map, hbl]) (fun j σ H' => ∃ u6 u9 u10, σ = [some (.ref p), some (.ref l), some (.ref d), some (.ref d2), some (.ref lc), u5, u6, some (.ref sv), some (.ref Dm), u9, u10, none, none] ∧ But [p] H19 H' ∧ PotAt H' p (1240 + 3000 * i + 300 * j)) ⟨_, _, _, rfl, But.refl _ _, hP19⟩ ?_ ?_ ?_⟩
    · rintro j σ H' ⟨_, _, _, rfl, g, _⟩
      exact ⟨.of (g _ _ (by simpa using S19.ne) S19.ch), .of (g _ _ (by simpa using Dmp) hm19)⟩
    · rintro j x y tt σ H20 hx hy ⟨v6, v9, v10, rfl, g20, hP20⟩ ntt
      have hjl := get_lt hx
      have hjb : j < bs.length := by omega
      rw [List.getElem?_map, List.getElem?_eq_getElem hjb] at hy
      cases hy
      have S20 := S19.but g20 hP19
      obtain ⟨c, hc, cv, rfl, ncv, hcv⟩ := pr_ix S20.cp hx
      have hcm := List.mem_of_getElem? hc
      have st := same_new ntt (.tup [V.ref cv, V.bl bs[j]])
      have S21 := S20.but (But.of st) hP20
      have hP21 := pot_sm st hP20
      have hcv21 := st _ _ hcv
      have hsv21 := st _ _ (g20 _ _ (by simpa using svp) hsv19)
      have g21 := g20.trans (.of st)
      have htt : upd H20 tt (.tup [V.ref cv, V.bl bs[j]]) tt = some (.tup [V.ref cv, V.bl bs[j]]) := upd_same
      generalize upd H20 tt (.tup [V.ref cv, V.bl bs[j]]) = H21 at S21 hP21 hcv21 hsv21 g21 htt ⊢
      clear st S20 hP20 hcv g20 ntt
      refine ⟨tt, _, rfl, .of htt, rfl, _, _, rfl, _, _, rfl, rfl, ?_⟩
      refine seq_in ?_
      refine asg_in ?_
      refine ⟨_, rfl, sv, rfl, ⟨_, .of hsv21⟩, fun D5 nD5 => ?_⟩
      have Dp5 := (but_none (But.refl _ _) hP21 nD5).2
      have hil := get_lt hx
      refine lc_draw (R := IntN) (walk_tup (xs := sd.map V.int)) st_int [p] (fun j' H' => PotAt H' p (1240 + 3000 * i + 300 * j + j')) (fun j' l => List.Sublist l (sd.take j')) (fun _ _ _ _ _ h => pot_upd h Dp5) (fun j' l h => ?_) nD5 (by simpa using Dp5) (fun H' g => .of (g _ _ (by simpa using svp) hsv21)) (List.nil_sublist _) (pot_upd hP21 Dp5) ?_ ?_
      · have := h.length_le
        rw [List.length_take] at this
        omega
      · rintro j' y H22 H23 l5 hj' g22 _ hin hP22 ⟨rfl, hy⟩ Q4 N k4 kn
        rw [List.length_map] at hj'
        rw [List.getElem?_map, List.getElem?_eq_getElem hj'] at hy
        cases hy
        refine ⟨rfl, ?_⟩
        refine ⟨_, rfl, p, _, _, rfl, by omega, by omega, by omega, hP22, fun d6 H24 hd6 g24 hP24 => ?_⟩
        have hin2 : List.Sublist (l5 ++ [sd[j']]) (sd.take (j' + 1)) := by
          rw [List.take_add_one, List.getElem?_eq_getElem hj']
          exact hin.append (List.Sublist.refl _)
        have hin1 : List.Sublist l5 (sd.take (j' + 1)) := (List.sublist_append_left _ _).trans hin2
        refine ⟨rfl, _, rfl, ite2 (fun c => ?_) (fun c => ?_)⟩
        · exact ⟨_, rfl, k4 sd[j'] _ H24 hin2 g24 (hP24.mono (by omega)) rfl⟩
        · exact kn H24 hin1 g24 (hP24.mono (by omega))
      rintro H22 acc5 more g22 hP22 hsub5 hacc5 hp5
      obtain rfl := ints_of hp5
      rw [List.length_map, List.take_length] at hsub5
      rw [List.length_map] at hP22
      refine ⟨D5, _, rfl, .inl ⟨.of hacc5, fun tp2 ntp2 => ?_⟩⟩
      have s23 := same_new ntp2 (.tup (more.map V.int))
      have htp2 : upd H22 tp2 (.tup (more.map V.int)) tp2 = some (.tup (more.map V.int)) := upd_same
      have S23 := (S21.but g22 hP21).but (But.of s23) hP22
      have hP23 := pot_sm s23 hP22
      have hcv23 := s23 _ _ (g22 _ _ ncv hcv21)
      have g23 := (g21.trans g22).trans (.of s23)
      generalize upd H22 tp2 (.tup (more.map V.int)) = H23 at htp2 S23 hP23 hcv23 g23 ⊢
      refine g_set ?_
      refine nx_in ?_
      have ebs : bs[j] = rightB ls c sd := by
        have : bs[j]? = some (rightB ls (cs.getD j []) sd) := by
          rw [← hbs, List.getElem?_map, List.getElem?_range (by omega)]; rfl
        rw [List.getElem?_eq_getElem hjb, List.getD_eq_getElem?_getD, hc] at this
        injection this
      refine ⟨_, rfl, _, rfl, ?_⟩
      refine ite2 (fun cb => ?_) (fun cb => ?_)
      · obtain ⟨dx2, tl2, yz2, tw2, ts2, TI2⟩ := id S23.one
        have hml := hsub5.length_le
        refine ⟨_, rfl, d, dx2, _, rfl, TI2.obj, tn_right, _, rfl, _, rfl, d, .ref cv, .ref tp2, taskT ls, ls, c, more, rfl, S23.one, hG, ⟨cv, rfl, hcv23⟩, (okc c hcm).1, (okc c hcm).2.1, ⟨tp2, rfl, htp2⟩, sup.sublist hsub5, fun x hx => s0 x (hsub5.subset hx), by omega, fun H25 g25 => ⟨_, _, rfl, rfl, _, rfl, ?_⟩⟩
        rw [ebs] at cb
        rw [right_said (fun x hx => hsub5.subset hx) cb]
        refine iteF ?_
        refine next_in ?_
        exact ⟨_, _, _, rfl, g23.trans (.of g25), (pot_sm g25 hP23).mono (by omega)⟩
      · refine iteF ?_
        refine next_in ?_
        exact ⟨_, _, _, rfl, g23, hP23.mono (by omega)⟩
    rintro σ H20 ⟨v6, v9, v10, rfl, g20, hP20⟩
    exact ⟨_, _, _, _, _, rfl, g19'.trans g20, hP20.mono (by omega)⟩
  rintro σ H15 ⟨u6, u7, u8, u9, u10, rfl, g15, hP15⟩
  have S15 := Sd.but g15 hPd
  refine nx_in ?_
  refine ret_in ?_
  refine ⟨_, rfl, lc, rfl, ⟨_, .of S15.ch⟩, fun Df nDf => ?_⟩
  refine lc_bools walk_list (fun _ => true) nDf (by omega) (fun H' g => .of (g _ _ S15.ch)) (fun j y H16 H17 hj g16 yy Q4 N kk => ?_) fun H16 g16 h16 => ?_
  · obtain ⟨rfl, hy⟩ := yy
    obtain ⟨c, hc, cv, rfl, ncv, hcv⟩ := pr_ix S15.cp hy
    have S16 := S15.but (But.of g16) hP15
    have hP16 := pot_sm g16 hP15
    have hcm := List.mem_of_getElem? hc
    obtain ⟨dx2, tl2, yz2, tw2, ts2, TI2⟩ := id S16.one
    refine ⟨rfl, yes_in ?_⟩
    refine ⟨_, rfl, d, dx2, _, rfl, TI2.obj, tn_ends, _, rfl, d, .ref cv, taskT ls, ls, c, rfl, S16.one, hG, ⟨cv, rfl, g16 _ _ hcv⟩, (okc c hcm).1, (okc c hcm).2.1, fun t1 zs1 G1 H18 g18 ht1 hz1 hgr1 => ?_⟩
    have hGf : ∀ l ∈ G1, LotOk l := fun l hl => by
      obtain ⟨ln, h1, h2, h3⟩ := mem_for.mp ((hgr1.mem l).mp hl).1
      exact hG.ends ln h1 l h3
    have hGl : G1.length < 64 := by
      have h1 : G1.length ≤ (lotsFor ls c).length := nodup_le hgr1.nd fun x hx => ((hgr1.mem x).mp hx).1
      have h2 : (lotsFor ls c).length < 64 := Nat.lt_of_le_of_lt (fm_sub List.filter_sublist).length_le hG.all
      omega
    refine ⟨_, .tuple (G1.map lotP), 3, 10000, rfl, .tup (.of ht1) (lots_dps hz1), lots_sm hGf hGl, by decide, by decide, ?_⟩
    have S18 := S16.but (But.of g18) hP16
    obtain ⟨dx3, tl3, yz3, tw3, ts3, TI3⟩ := id S18.two
    refine ⟨_, rfl, d2, dx3, _, rfl, TI3.obj, tn_ends, _, rfl, d2, .ref cv, taskT ms, ms, c, rfl, S18.two, hGm, ⟨cv, rfl, g18 _ _ (g16 _ _ hcv)⟩, (okc c hcm).1, (okc c hcm).2.2, fun t2 zs2 G2 H19 g19 ht2 hz2 hgr2 => ?_⟩
    have e12 : G1 = G2 := hgr1.uniq hgr2 fun l => again_max hag hpm MG c l
    subst e12
    refine ⟨_, .tuple (G1.map lotP), 3, 10000, rfl, .tup (.of ht2) (lots_dps hz2), lots_sm hGf hGl, by decide, by decide, rfl, ?_⟩
    rw [decide_eq_true rfl]
    exact kk _ (g18.trans g19)
  refine ⟨Df, _, rfl, .of h16, ?_⟩
  have ea : ((List.range cx.length).map fun _ => true).all id = true := by simp
  rw [ea]
  exact k _ ((bd.trans g15).trans (.of g16))
end
end Fp
namespace Fp
open PySem PySem.Spec PyProof.Rows L2
def spLaw (K : PySem.W.Frag) : Sp := fun vs H Q _ => ∃ (a : Addr) (ns : List Int), vs = [.ref a] ∧ SqL K H a (ns.map V.int) ∧ ns.length ≤ 63 ∧ ∀ H', Q (.bl true) H'
section
variable {P : Program} {w : World} {K : PySem.W.Frag} {mg : Str → Option Value} {base : Heap} {f : Addr} {fd : FuncData}
abbrev s_law : Stmt := top 44
theorem sc_law : FnScope ["script", "place"] ["script"] (defScope s_law) := ⟨rfl, rfl, rfl, by decide +kernel, rfl, by decide +kernel, by decide +kernel⟩
theorem ok_law (F : Fun K "law" "law" s_law f fd) (T : LTx mg) (G_law_cells : Fd P w K mg base CX0 "_law_cells" 1 ["script", "limit"] (spCells K)) (G_law_pot : Fd P w K mg base CX0 "_law_pot" 1 ["script", "place"] (spPot K)) (G_law_right : FdG P w K mg base CX0 "_law_right" 8 ["pot"] spRight) : FnOkG P w K mg base CX0 (8 + 1) f fd ["script"] (spLaw K) := by
  refine fun_okG F sc_law (fun vs H Q E h => ?_) (fun cdv A outer s H vs Q E hr hgu h => ?_)
  · obtain ⟨a, ns, rfl, _⟩ := h
    rfl
  obtain ⟨a, ns, rfl, hS, hl, k⟩ := h
  refine ⟨_, (pss_one (ps_ret (pe_callB (cr_all rfl) rfl T.all (by decide +kernel) (pa_cons (pe_lc (own := [("place", 1)]) (g := (gName 1)) (tt := tYes) rfl sc_law.nd (pi_list (pe_fd G_law_cells (hr.mono (by first | decide | omega)) rfl (pa_cons (pv 0) (pa_cons pe_int pa_nil)))) (blkOk_by (own := [("place", 1)]) (N := ["script", "place"]) (sc := defScope s_law) (by decide +kernel)) (fun _ _ _ _ _ => (pg_name (i := 1) sc_law.nd rfl (Or.inl rfl))) (fun _ _ _ _ _ => pts_nil) (fun _ _ _ _ _ => (pe_fdG G_law_right hr hgu rfl (pa_cons (pe_fd G_law_pot (hr.mono (by decide)) rfl (pa_cons (pv 0) (pa_cons (pv 1) pa_nil))) pa_nil)))) pa_nil)))), ?_⟩
  refine ⟨_, rfl, a, ns, 3, rfl, hS, hl, by decide, fun l H1 n hn g1 hl0 hl1 => ?_⟩
  refine ⟨l, rfl, ⟨_, .of hl1⟩, fun D hD => ?_⟩
  have hlen : ((List.range n).map fun i => V.int (i : Nat)).length = n := by simp
  refine lc_list (K := K) (a := l) (xs := (List.range n).map fun i => V.int (i : Nat)) (fun i H' => Same H1 H' ∧ H' D = some (.lst ((List.replicate i true).map V.bl))) ⟨same_new hD _, upd_same⟩ (fun i H' _ z => .of (z.1 _ _ hl1)) ?_ ?_
  · rintro i x Hi hx ⟨gi, hDi⟩
    have hi : i < n := by have := get_lt hx; rw [hlen] at this; exact this
    have hx' : x = .int (i : Nat) := by
      rw [List.getElem?_map, List.getElem?_range hi] at hx
      exact (Option.some.inj hx).symm
    subst hx'
    refine ⟨rfl, _, rfl, _, rfl, a, ns, i, rfl, gi.seq (g1.seq hS), hl, by omega, fun lp H3 g3 hlp hP => ?_⟩
    have lpD : D ≠ lp := ne_of_none hDi hlp
    refine ⟨lp, rfl, hP, fun H4 g4 => ?_⟩
    refine ⟨_, g4 _ _ (by simpa using lpD) (g3 _ _ hDi), Nat.lt_of_le_of_lt (show _ ≤ 1000 by rw [List.length_map, List.length_replicate]; omega) (by decide), fun b o q => ?_, ?_⟩
    · rw [upd_ne (ne_of_none q hD)]
      have q2 := gi b o q
      exact g4 _ _ (by simpa using ne_of_none q2 hlp) (g3 _ _ q2)
    · rw [upd_same, List.replicate_succ', List.map_append]
      rfl
  · rintro Hi ⟨gi, hDi⟩
    refine ⟨D, List.replicate ((List.range n).map fun i => V.int (i : Nat)).length true, rfl, .of hDi, ?_⟩
    rw [show (List.replicate ((List.range n).map fun i => V.int (i : Nat)).length true).all id = true by simp]
    exact k Hi
end
end Fp
namespace Fp
open PySem PySem.Spec PyProof.Rows L2
theorem all_mk {l : PySem.W.OpenLaw} {w : World} {K : PySem.W.Frag} {h : Heap} {mg : Str → Option Value} {fa : Addr} (X : K.In h) (G : h.Ns mainGlobals mg) (hfa : mg "law" = some (.ref fa))
    {C : Addr}
    (aCP : PySem.W.nsIn K mainGlobals "Task" = some (some (.ref C)))
    {od_is_whole an_is_whole : Option Addr} {sl_is_whole : Array (Option Value)} {oc_is_whole kV_is_whole dc_is_whole pm_is_whole cd_is_whole ct_is_whole : Value} {f_is_whole : Addr}
    (a_is_whole : PySem.W.nsIn K mainGlobals "is_whole" = some (some (.ref f_is_whole)))
    (l_is_whole : K.lookup f_is_whole = some ⟨oc_is_whole, od_is_whole, .func (PySem.W.fnOf "is_whole" "is_whole" (defArgs s_is_whole) (defBody s_is_whole) (defScope s_is_whole) .none kV_is_whole dc_is_whole pm_is_whole an_is_whole cd_is_whole ct_is_whole), sl_is_whole⟩)
    (c_is_whole : PySem.W.codeIn K cd_is_whole "is_whole" = true)
    (k_is_whole : PySem.W.keepIn K (.ref f_is_whole) = true)
    {od_is_lot an_is_lot : Option Addr} {sl_is_lot : Array (Option Value)} {oc_is_lot kV_is_lot dc_is_lot pm_is_lot cd_is_lot ct_is_lot : Value} {f_is_lot : Addr}
    (a_is_lot : PySem.W.nsIn K mainGlobals "is_lot" = some (some (.ref f_is_lot)))
    (l_is_lot : K.lookup f_is_lot = some ⟨oc_is_lot, od_is_lot, .func (PySem.W.fnOf "is_lot" "is_lot" (defArgs s_is_lot) (defBody s_is_lot) (defScope s_is_lot) .none kV_is_lot dc_is_lot pm_is_lot an_is_lot cd_is_lot ct_is_lot), sl_is_lot⟩)
    (c_is_lot : PySem.W.codeIn K cd_is_lot "is_lot" = true)
    (k_is_lot : PySem.W.keepIn K (.ref f_is_lot) = true)
    {od_integer_in an_integer_in : Option Addr} {sl_integer_in : Array (Option Value)} {oc_integer_in kV_integer_in dc_integer_in pm_integer_in cd_integer_in ct_integer_in : Value} {f_integer_in : Addr}
    (a_integer_in : PySem.W.nsIn K mainGlobals "integer_in" = some (some (.ref f_integer_in)))
    (l_integer_in : K.lookup f_integer_in = some ⟨oc_integer_in, od_integer_in, .func (PySem.W.fnOf "integer_in" "integer_in" (defArgs s_integer_in) (defBody s_integer_in) (defScope s_integer_in) .none kV_integer_in dc_integer_in pm_integer_in an_integer_in cd_integer_in ct_integer_in), sl_integer_in⟩)
    (c_integer_in : PySem.W.codeIn K cd_integer_in "integer_in" = true)
    (k_integer_in : PySem.W.keepIn K (.ref f_integer_in) = true)
    {od_number_in an_number_in : Option Addr} {sl_number_in : Array (Option Value)} {oc_number_in kV_number_in dc_number_in pm_number_in cd_number_in ct_number_in : Value} {f_number_in : Addr}
    (a_number_in : PySem.W.nsIn K mainGlobals "number_in" = some (some (.ref f_number_in)))
    (l_number_in : K.lookup f_number_in = some ⟨oc_number_in, od_number_in, .func (PySem.W.fnOf "number_in" "number_in" (defArgs s_number_in) (defBody s_number_in) (defScope s_number_in) .none kV_number_in dc_number_in pm_number_in an_number_in cd_number_in ct_number_in), sl_number_in⟩)
    (c_number_in : PySem.W.codeIn K cd_number_in "number_in" = true)
    (k_number_in : PySem.W.keepIn K (.ref f_number_in) = true)
    {od_lot_of an_lot_of : Option Addr} {sl_lot_of : Array (Option Value)} {oc_lot_of kV_lot_of dc_lot_of pm_lot_of cd_lot_of ct_lot_of : Value} {f_lot_of : Addr}
    (a_lot_of : PySem.W.nsIn K mainGlobals "lot_of" = some (some (.ref f_lot_of)))
    (l_lot_of : K.lookup f_lot_of = some ⟨oc_lot_of, od_lot_of, .func (PySem.W.fnOf "lot_of" "lot_of" (defArgs s_lot_of) (defBody s_lot_of) (defScope s_lot_of) .none kV_lot_of dc_lot_of pm_lot_of an_lot_of cd_lot_of ct_lot_of), sl_lot_of⟩)
    (c_lot_of : PySem.W.codeIn K cd_lot_of "lot_of" = true)
    (k_lot_of : PySem.W.keepIn K (.ref f_lot_of) = true)
    {od_lies_in an_lies_in : Option Addr} {sl_lies_in : Array (Option Value)} {oc_lies_in kV_lies_in dc_lies_in pm_lies_in cd_lies_in ct_lies_in : Value} {f_lies_in : Addr}
    (a_lies_in : PySem.W.nsIn K mainGlobals "lies_in" = some (some (.ref f_lies_in)))
    (l_lies_in : K.lookup f_lies_in = some ⟨oc_lies_in, od_lies_in, .func (PySem.W.fnOf "lies_in" "lies_in" (defArgs s_lies_in) (defBody s_lies_in) (defScope s_lies_in) .none kV_lies_in dc_lies_in pm_lies_in an_lies_in cd_lies_in ct_lies_in), sl_lies_in⟩)
    (c_lies_in : PySem.W.codeIn K cd_lies_in "lies_in" = true)
    (k_lies_in : PySem.W.keepIn K (.ref f_lies_in) = true)
    {od_greatest_lots an_greatest_lots : Option Addr} {sl_greatest_lots : Array (Option Value)} {oc_greatest_lots kV_greatest_lots dc_greatest_lots pm_greatest_lots cd_greatest_lots ct_greatest_lots : Value} {f_greatest_lots : Addr}
    (a_greatest_lots : PySem.W.nsIn K mainGlobals "greatest_lots" = some (some (.ref f_greatest_lots)))
    (l_greatest_lots : K.lookup f_greatest_lots = some ⟨oc_greatest_lots, od_greatest_lots, .func (PySem.W.fnOf "greatest_lots" "greatest_lots" (defArgs s_greatest_lots) (defBody s_greatest_lots) (defScope s_greatest_lots) .none kV_greatest_lots dc_greatest_lots pm_greatest_lots an_greatest_lots cd_greatest_lots ct_greatest_lots), sl_greatest_lots⟩)
    (c_greatest_lots : PySem.W.codeIn K cd_greatest_lots "greatest_lots" = true)
    (k_greatest_lots : PySem.W.keepIn K (.ref f_greatest_lots) = true)
    {od_lines_in an_lines_in : Option Addr} {sl_lines_in : Array (Option Value)} {oc_lines_in kV_lines_in dc_lines_in pm_lines_in cd_lines_in ct_lines_in : Value} {f_lines_in : Addr}
    (a_lines_in : PySem.W.nsIn K mainGlobals "lines_in" = some (some (.ref f_lines_in)))
    (l_lines_in : K.lookup f_lines_in = some ⟨oc_lines_in, od_lines_in, .func (PySem.W.fnOf "lines_in" "lines_in" (defArgs s_lines_in) (defBody s_lines_in) (defScope s_lines_in) .none kV_lines_in dc_lines_in pm_lines_in an_lines_in cd_lines_in ct_lines_in), sl_lines_in⟩)
    (c_lines_in : PySem.W.codeIn K cd_lines_in "lines_in" = true)
    (k_lines_in : PySem.W.keepIn K (.ref f_lines_in) = true)
    {od_line_in an_line_in : Option Addr} {sl_line_in : Array (Option Value)} {oc_line_in kV_line_in dc_line_in pm_line_in cd_line_in ct_line_in : Value} {f_line_in : Addr}
    (a_line_in : PySem.W.nsIn K mainGlobals "line_in" = some (some (.ref f_line_in)))
    (l_line_in : K.lookup f_line_in = some ⟨oc_line_in, od_line_in, .func (PySem.W.fnOf "line_in" "line_in" (defArgs s_line_in) (defBody s_line_in) (defScope s_line_in) .none kV_line_in dc_line_in pm_line_in an_line_in cd_line_in ct_line_in), sl_line_in⟩)
    (c_line_in : PySem.W.codeIn K cd_line_in "line_in" = true)
    (k_line_in : PySem.W.keepIn K (.ref f_line_in) = true)
    {od_lot_text_in an_lot_text_in : Option Addr} {sl_lot_text_in : Array (Option Value)} {oc_lot_text_in kV_lot_text_in dc_lot_text_in pm_lot_text_in cd_lot_text_in ct_lot_text_in : Value} {f_lot_text_in : Addr}
    (a_lot_text_in : PySem.W.nsIn K mainGlobals "lot_text_in" = some (some (.ref f_lot_text_in)))
    (l_lot_text_in : K.lookup f_lot_text_in = some ⟨oc_lot_text_in, od_lot_text_in, .func (PySem.W.fnOf "lot_text_in" "lot_text_in" (defArgs s_lot_text_in) (defBody s_lot_text_in) (defScope s_lot_text_in) .none kV_lot_text_in dc_lot_text_in pm_lot_text_in an_lot_text_in cd_lot_text_in ct_lot_text_in), sl_lot_text_in⟩)
    (c_lot_text_in : PySem.W.codeIn K cd_lot_text_in "lot_text_in" = true)
    (k_lot_text_in : PySem.W.keepIn K (.ref f_lot_text_in) = true)
    {od_may_stand an_may_stand : Option Addr} {sl_may_stand : Array (Option Value)} {oc_may_stand kV_may_stand dc_may_stand pm_may_stand cd_may_stand ct_may_stand : Value} {f_may_stand : Addr}
    (a_may_stand : PySem.W.nsIn K mainGlobals "may_stand" = some (some (.ref f_may_stand)))
    (l_may_stand : K.lookup f_may_stand = some ⟨oc_may_stand, od_may_stand, .func (PySem.W.fnOf "may_stand" "may_stand" (defArgs s_may_stand) (defBody s_may_stand) (defScope s_may_stand) .none kV_may_stand dc_may_stand pm_may_stand an_may_stand cd_may_stand ct_may_stand), sl_may_stand⟩)
    (c_may_stand : PySem.W.codeIn K cd_may_stand "may_stand" = true)
    (k_may_stand : PySem.W.keepIn K (.ref f_may_stand) = true)
    {od_left_words an_left_words : Option Addr} {sl_left_words : Array (Option Value)} {oc_left_words kV_left_words dc_left_words pm_left_words cd_left_words ct_left_words : Value} {f_left_words : Addr}
    (a_left_words : PySem.W.nsIn K mainGlobals "left_words" = some (some (.ref f_left_words)))
    (l_left_words : K.lookup f_left_words = some ⟨oc_left_words, od_left_words, .func (PySem.W.fnOf "left_words" "left_words" (defArgs s_left_words) (defBody s_left_words) (defScope s_left_words) .none kV_left_words dc_left_words pm_left_words an_left_words cd_left_words ct_left_words), sl_left_words⟩)
    (c_left_words : PySem.W.codeIn K cd_left_words "left_words" = true)
    (k_left_words : PySem.W.keepIn K (.ref f_left_words) = true)
    {od_spoken_words an_spoken_words : Option Addr} {sl_spoken_words : Array (Option Value)} {oc_spoken_words kV_spoken_words dc_spoken_words pm_spoken_words cd_spoken_words ct_spoken_words : Value} {f_spoken_words : Addr}
    (a_spoken_words : PySem.W.nsIn K mainGlobals "spoken_words" = some (some (.ref f_spoken_words)))
    (l_spoken_words : K.lookup f_spoken_words = some ⟨oc_spoken_words, od_spoken_words, .func (PySem.W.fnOf "spoken_words" "spoken_words" (defArgs s_spoken_words) (defBody s_spoken_words) (defScope s_spoken_words) .none kV_spoken_words dc_spoken_words pm_spoken_words an_spoken_words cd_spoken_words ct_spoken_words), sl_spoken_words⟩)
    (c_spoken_words : PySem.W.codeIn K cd_spoken_words "spoken_words" = true)
    (k_spoken_words : PySem.W.keepIn K (.ref f_spoken_words) = true)
    {od_law_pot an_law_pot : Option Addr} {sl_law_pot : Array (Option Value)} {oc_law_pot kV_law_pot dc_law_pot pm_law_pot cd_law_pot ct_law_pot : Value} {f_law_pot : Addr}
    (a_law_pot : PySem.W.nsIn K mainGlobals "_law_pot" = some (some (.ref f_law_pot)))
    (l_law_pot : K.lookup f_law_pot = some ⟨oc_law_pot, od_law_pot, .func (PySem.W.fnOf "_law_pot" "_law_pot" (defArgs s_law_pot) (defBody s_law_pot) (defScope s_law_pot) .none kV_law_pot dc_law_pot pm_law_pot an_law_pot cd_law_pot ct_law_pot), sl_law_pot⟩)
    (c_law_pot : PySem.W.codeIn K cd_law_pot "_law_pot" = true)
    (k_law_pot : PySem.W.keepIn K (.ref f_law_pot) = true)
    {od_law_take an_law_take : Option Addr} {sl_law_take : Array (Option Value)} {oc_law_take kV_law_take dc_law_take pm_law_take cd_law_take ct_law_take : Value} {f_law_take : Addr}
    (a_law_take : PySem.W.nsIn K mainGlobals "_law_take" = some (some (.ref f_law_take)))
    (l_law_take : K.lookup f_law_take = some ⟨oc_law_take, od_law_take, .func (PySem.W.fnOf "_law_take" "_law_take" (defArgs s_law_take) (defBody s_law_take) (defScope s_law_take) .none kV_law_take dc_law_take pm_law_take an_law_take cd_law_take ct_law_take), sl_law_take⟩)
    (c_law_take : PySem.W.codeIn K cd_law_take "_law_take" = true)
    (k_law_take : PySem.W.keepIn K (.ref f_law_take) = true)
    {od_law_of an_law_of : Option Addr} {sl_law_of : Array (Option Value)} {oc_law_of kV_law_of dc_law_of pm_law_of cd_law_of ct_law_of : Value} {f_law_of : Addr}
    (a_law_of : PySem.W.nsIn K mainGlobals "_law_of" = some (some (.ref f_law_of)))
    (l_law_of : K.lookup f_law_of = some ⟨oc_law_of, od_law_of, .func (PySem.W.fnOf "_law_of" "_law_of" (defArgs s_law_of) (defBody s_law_of) (defScope s_law_of) .none kV_law_of dc_law_of pm_law_of an_law_of cd_law_of ct_law_of), sl_law_of⟩)
    (c_law_of : PySem.W.codeIn K cd_law_of "_law_of" = true)
    (k_law_of : PySem.W.keepIn K (.ref f_law_of) = true)
    {od_law_some an_law_some : Option Addr} {sl_law_some : Array (Option Value)} {oc_law_some kV_law_some dc_law_some pm_law_some cd_law_some ct_law_some : Value} {f_law_some : Addr}
    (a_law_some : PySem.W.nsIn K mainGlobals "_law_some" = some (some (.ref f_law_some)))
    (l_law_some : K.lookup f_law_some = some ⟨oc_law_some, od_law_some, .func (PySem.W.fnOf "_law_some" "_law_some" (defArgs s_law_some) (defBody s_law_some) (defScope s_law_some) .none kV_law_some dc_law_some pm_law_some an_law_some cd_law_some ct_law_some), sl_law_some⟩)
    (c_law_some : PySem.W.codeIn K cd_law_some "_law_some" = true)
    (k_law_some : PySem.W.keepIn K (.ref f_law_some) = true)
    {od_law_cells an_law_cells : Option Addr} {sl_law_cells : Array (Option Value)} {oc_law_cells kV_law_cells dc_law_cells pm_law_cells cd_law_cells ct_law_cells : Value} {f_law_cells : Addr}
    (a_law_cells : PySem.W.nsIn K mainGlobals "_law_cells" = some (some (.ref f_law_cells)))
    (l_law_cells : K.lookup f_law_cells = some ⟨oc_law_cells, od_law_cells, .func (PySem.W.fnOf "_law_cells" "_law_cells" (defArgs s_law_cells) (defBody s_law_cells) (defScope s_law_cells) .none kV_law_cells dc_law_cells pm_law_cells an_law_cells cd_law_cells ct_law_cells), sl_law_cells⟩)
    (c_law_cells : PySem.W.codeIn K cd_law_cells "_law_cells" = true)
    (k_law_cells : PySem.W.keepIn K (.ref f_law_cells) = true)
    {od_law_lot_text an_law_lot_text : Option Addr} {sl_law_lot_text : Array (Option Value)} {oc_law_lot_text kV_law_lot_text dc_law_lot_text pm_law_lot_text cd_law_lot_text ct_law_lot_text : Value} {f_law_lot_text : Addr}
    (a_law_lot_text : PySem.W.nsIn K mainGlobals "_law_lot_text" = some (some (.ref f_law_lot_text)))
    (l_law_lot_text : K.lookup f_law_lot_text = some ⟨oc_law_lot_text, od_law_lot_text, .func (PySem.W.fnOf "_law_lot_text" "_law_lot_text" (defArgs s_law_lot_text) (defBody s_law_lot_text) (defScope s_law_lot_text) .none kV_law_lot_text dc_law_lot_text pm_law_lot_text an_law_lot_text cd_law_lot_text ct_law_lot_text), sl_law_lot_text⟩)
    (c_law_lot_text : PySem.W.codeIn K cd_law_lot_text "_law_lot_text" = true)
    (k_law_lot_text : PySem.W.keepIn K (.ref f_law_lot_text) = true)
    {od_law_task_text an_law_task_text : Option Addr} {sl_law_task_text : Array (Option Value)} {oc_law_task_text kV_law_task_text dc_law_task_text pm_law_task_text cd_law_task_text ct_law_task_text : Value} {f_law_task_text : Addr}
    (a_law_task_text : PySem.W.nsIn K mainGlobals "_law_task_text" = some (some (.ref f_law_task_text)))
    (l_law_task_text : K.lookup f_law_task_text = some ⟨oc_law_task_text, od_law_task_text, .func (PySem.W.fnOf "_law_task_text" "_law_task_text" (defArgs s_law_task_text) (defBody s_law_task_text) (defScope s_law_task_text) .none kV_law_task_text dc_law_task_text pm_law_task_text an_law_task_text cd_law_task_text ct_law_task_text), sl_law_task_text⟩)
    (c_law_task_text : PySem.W.codeIn K cd_law_task_text "_law_task_text" = true)
    (k_law_task_text : PySem.W.keepIn K (.ref f_law_task_text) = true)
    {od_law_drawn_lot an_law_drawn_lot : Option Addr} {sl_law_drawn_lot : Array (Option Value)} {oc_law_drawn_lot kV_law_drawn_lot dc_law_drawn_lot pm_law_drawn_lot cd_law_drawn_lot ct_law_drawn_lot : Value} {f_law_drawn_lot : Addr}
    (a_law_drawn_lot : PySem.W.nsIn K mainGlobals "_law_drawn_lot" = some (some (.ref f_law_drawn_lot)))
    (l_law_drawn_lot : K.lookup f_law_drawn_lot = some ⟨oc_law_drawn_lot, od_law_drawn_lot, .func (PySem.W.fnOf "_law_drawn_lot" "_law_drawn_lot" (defArgs s_law_drawn_lot) (defBody s_law_drawn_lot) (defScope s_law_drawn_lot) .none kV_law_drawn_lot dc_law_drawn_lot pm_law_drawn_lot an_law_drawn_lot cd_law_drawn_lot ct_law_drawn_lot), sl_law_drawn_lot⟩)
    (c_law_drawn_lot : PySem.W.codeIn K cd_law_drawn_lot "_law_drawn_lot" = true)
    (k_law_drawn_lot : PySem.W.keepIn K (.ref f_law_drawn_lot) = true)
    {od_law_task an_law_task : Option Addr} {sl_law_task : Array (Option Value)} {oc_law_task kV_law_task dc_law_task pm_law_task cd_law_task ct_law_task : Value} {f_law_task : Addr}
    (a_law_task : PySem.W.nsIn K mainGlobals "_law_task" = some (some (.ref f_law_task)))
    (l_law_task : K.lookup f_law_task = some ⟨oc_law_task, od_law_task, .func (PySem.W.fnOf "_law_task" "_law_task" (defArgs s_law_task) (defBody s_law_task) (defScope s_law_task) .none kV_law_task dc_law_task pm_law_task an_law_task cd_law_task ct_law_task), sl_law_task⟩)
    (c_law_task : PySem.W.codeIn K cd_law_task "_law_task" = true)
    (k_law_task : PySem.W.keepIn K (.ref f_law_task) = true)
    {od_law_words_of an_law_words_of : Option Addr} {sl_law_words_of : Array (Option Value)} {oc_law_words_of kV_law_words_of dc_law_words_of pm_law_words_of cd_law_words_of ct_law_words_of : Value} {f_law_words_of : Addr}
    (a_law_words_of : PySem.W.nsIn K mainGlobals "_law_words_of" = some (some (.ref f_law_words_of)))
    (l_law_words_of : K.lookup f_law_words_of = some ⟨oc_law_words_of, od_law_words_of, .func (PySem.W.fnOf "_law_words_of" "_law_words_of" (defArgs s_law_words_of) (defBody s_law_words_of) (defScope s_law_words_of) .none kV_law_words_of dc_law_words_of pm_law_words_of an_law_words_of cd_law_words_of ct_law_words_of), sl_law_words_of⟩)
    (c_law_words_of : PySem.W.codeIn K cd_law_words_of "_law_words_of" = true)
    (k_law_words_of : PySem.W.keepIn K (.ref f_law_words_of) = true)
    {od_law_spoken an_law_spoken : Option Addr} {sl_law_spoken : Array (Option Value)} {oc_law_spoken kV_law_spoken dc_law_spoken pm_law_spoken cd_law_spoken ct_law_spoken : Value} {f_law_spoken : Addr}
    (a_law_spoken : PySem.W.nsIn K mainGlobals "_law_spoken" = some (some (.ref f_law_spoken)))
    (l_law_spoken : K.lookup f_law_spoken = some ⟨oc_law_spoken, od_law_spoken, .func (PySem.W.fnOf "_law_spoken" "_law_spoken" (defArgs s_law_spoken) (defBody s_law_spoken) (defScope s_law_spoken) .none kV_law_spoken dc_law_spoken pm_law_spoken an_law_spoken cd_law_spoken ct_law_spoken), sl_law_spoken⟩)
    (c_law_spoken : PySem.W.codeIn K cd_law_spoken "_law_spoken" = true)
    (k_law_spoken : PySem.W.keepIn K (.ref f_law_spoken) = true)
    {od_law_is_part an_law_is_part : Option Addr} {sl_law_is_part : Array (Option Value)} {oc_law_is_part kV_law_is_part dc_law_is_part pm_law_is_part cd_law_is_part ct_law_is_part : Value} {f_law_is_part : Addr}
    (a_law_is_part : PySem.W.nsIn K mainGlobals "_law_is_part" = some (some (.ref f_law_is_part)))
    (l_law_is_part : K.lookup f_law_is_part = some ⟨oc_law_is_part, od_law_is_part, .func (PySem.W.fnOf "_law_is_part" "_law_is_part" (defArgs s_law_is_part) (defBody s_law_is_part) (defScope s_law_is_part) .none kV_law_is_part dc_law_is_part pm_law_is_part an_law_is_part cd_law_is_part ct_law_is_part), sl_law_is_part⟩)
    (c_law_is_part : PySem.W.codeIn K cd_law_is_part "_law_is_part" = true)
    (k_law_is_part : PySem.W.keepIn K (.ref f_law_is_part) = true)
    {od_law_chain an_law_chain : Option Addr} {sl_law_chain : Array (Option Value)} {oc_law_chain kV_law_chain dc_law_chain pm_law_chain cd_law_chain ct_law_chain : Value} {f_law_chain : Addr}
    (a_law_chain : PySem.W.nsIn K mainGlobals "_law_chain" = some (some (.ref f_law_chain)))
    (l_law_chain : K.lookup f_law_chain = some ⟨oc_law_chain, od_law_chain, .func (PySem.W.fnOf "_law_chain" "_law_chain" (defArgs s_law_chain) (defBody s_law_chain) (defScope s_law_chain) .none kV_law_chain dc_law_chain pm_law_chain an_law_chain cd_law_chain ct_law_chain), sl_law_chain⟩)
    (c_law_chain : PySem.W.codeIn K cd_law_chain "_law_chain" = true)
    (k_law_chain : PySem.W.keepIn K (.ref f_law_chain) = true)
    {od_law_again an_law_again : Option Addr} {sl_law_again : Array (Option Value)} {oc_law_again kV_law_again dc_law_again pm_law_again cd_law_again ct_law_again : Value} {f_law_again : Addr}
    (a_law_again : PySem.W.nsIn K mainGlobals "_law_again" = some (some (.ref f_law_again)))
    (l_law_again : K.lookup f_law_again = some ⟨oc_law_again, od_law_again, .func (PySem.W.fnOf "_law_again" "_law_again" (defArgs s_law_again) (defBody s_law_again) (defScope s_law_again) .none kV_law_again dc_law_again pm_law_again an_law_again cd_law_again ct_law_again), sl_law_again⟩)
    (c_law_again : PySem.W.codeIn K cd_law_again "_law_again" = true)
    (k_law_again : PySem.W.keepIn K (.ref f_law_again) = true)
    {od_law_right an_law_right : Option Addr} {sl_law_right : Array (Option Value)} {oc_law_right kV_law_right dc_law_right pm_law_right cd_law_right ct_law_right : Value} {f_law_right : Addr}
    (a_law_right : PySem.W.nsIn K mainGlobals "_law_right" = some (some (.ref f_law_right)))
    (l_law_right : K.lookup f_law_right = some ⟨oc_law_right, od_law_right, .func (PySem.W.fnOf "_law_right" "_law_right" (defArgs s_law_right) (defBody s_law_right) (defScope s_law_right) .none kV_law_right dc_law_right pm_law_right an_law_right cd_law_right ct_law_right), sl_law_right⟩)
    (c_law_right : PySem.W.codeIn K cd_law_right "_law_right" = true)
    (k_law_right : PySem.W.keepIn K (.ref f_law_right) = true)
    {od_law an_law : Option Addr} {sl_law : Array (Option Value)} {oc_law kV_law dc_law pm_law cd_law ct_law : Value} {f_law : Addr}
    (a_law : PySem.W.nsIn K mainGlobals "law" = some (some (.ref f_law)))
    (l_law : K.lookup f_law = some ⟨oc_law, od_law, .func (PySem.W.fnOf "law" "law" (defArgs s_law) (defBody s_law) (defScope s_law) .none kV_law dc_law pm_law an_law cd_law ct_law), sl_law⟩)
    (c_law : PySem.W.codeIn K cd_law "law" = true)
    (k_law : PySem.W.keepIn K (.ref f_law) = true)
    {od_Task_init an_Task_init : Option Addr} {sl_Task_init : Array (Option Value)} {oc_Task_init kV_Task_init dc_Task_init pm_Task_init cd_Task_init ct_Task_init : Value} {f_Task_init : Addr}
    (a_Task_init : PySem.W.findIn K (.ref C) "__init__" = some (some (.ref f_Task_init)))
    (l_Task_init : K.lookup f_Task_init = some ⟨oc_Task_init, od_Task_init, .func (PySem.W.fnOf "__init__" "Task.__init__" (defArgs s_Task_init) (defBody s_Task_init) (defScope s_Task_init) .none kV_Task_init dc_Task_init pm_Task_init an_Task_init cd_Task_init ct_Task_init), sl_Task_init⟩)
    (c_Task_init : PySem.W.codeIn K cd_Task_init "Task.__init__" = true)
    (k_Task_init : PySem.W.keepIn K (.ref f_Task_init) = true)
    (i_Task_init : PySem.W.isFn K (.ref f_Task_init) = true)
    {od_Task_ends an_Task_ends : Option Addr} {sl_Task_ends : Array (Option Value)} {oc_Task_ends kV_Task_ends dc_Task_ends pm_Task_ends cd_Task_ends ct_Task_ends : Value} {f_Task_ends : Addr}
    (a_Task_ends : PySem.W.findIn K (.ref C) "ends" = some (some (.ref f_Task_ends)))
    (l_Task_ends : K.lookup f_Task_ends = some ⟨oc_Task_ends, od_Task_ends, .func (PySem.W.fnOf "ends" "Task.ends" (defArgs s_Task_ends) (defBody s_Task_ends) (defScope s_Task_ends) .none kV_Task_ends dc_Task_ends pm_Task_ends an_Task_ends cd_Task_ends ct_Task_ends), sl_Task_ends⟩)
    (c_Task_ends : PySem.W.codeIn K cd_Task_ends "Task.ends" = true)
    (k_Task_ends : PySem.W.keepIn K (.ref f_Task_ends) = true)
    (i_Task_ends : PySem.W.isFn K (.ref f_Task_ends) = true)
    {od_Task_right an_Task_right : Option Addr} {sl_Task_right : Array (Option Value)} {oc_Task_right kV_Task_right dc_Task_right pm_Task_right cd_Task_right ct_Task_right : Value} {f_Task_right : Addr}
    (a_Task_right : PySem.W.findIn K (.ref C) "right" = some (some (.ref f_Task_right)))
    (l_Task_right : K.lookup f_Task_right = some ⟨oc_Task_right, od_Task_right, .func (PySem.W.fnOf "right" "Task.right" (defArgs s_Task_right) (defBody s_Task_right) (defScope s_Task_right) .none kV_Task_right dc_Task_right pm_Task_right an_Task_right cd_Task_right ct_Task_right), sl_Task_right⟩)
    (c_Task_right : PySem.W.codeIn K cd_Task_right "Task.right" = true)
    (k_Task_right : PySem.W.keepIn K (.ref f_Task_right) = true)
    (i_Task_right : PySem.W.isFn K (.ref f_Task_right) = true)
    (pgC : PySem.W.plainGet K C Str.empty = true)
    (hdC : PySem.W.hasDictIn K C = true)
    (poC : PySem.W.plainOver K C = true)
    (saC : PySem.W.findIn K (.ref C) "__setattr__" = some (some (.builtin "object.__setattr__")))
    (mkC : PySem.W.makesIn K C = true)
    (kpC : PySem.W.keepIn K (.ref C) = true)
    (np_text : PySem.W.findIn K (.ref C) "text" = some none)
    (np_lines : PySem.W.findIn K (.ref C) "lines" = some none)
    (np_words : PySem.W.findIn K (.ref C) "words" = some none)
    (np_spoken : PySem.W.findIn K (.ref C) "spoken" = some none)
    (z_isinstance : PySem.W.nsIn K mainGlobals "isinstance" = some none)
    (z_int : PySem.W.nsIn K mainGlobals "int" = some none)
    (z_bool : PySem.W.nsIn K mainGlobals "bool" = some none)
    (z_tuple : PySem.W.nsIn K mainGlobals "tuple" = some none)
    (z_list : PySem.W.nsIn K mainGlobals "list" = some none)
    (z_all : PySem.W.nsIn K mainGlobals "all" = some none)
    (z_any : PySem.W.nsIn K mainGlobals "any" = some none)
    (z_len : PySem.W.nsIn K mainGlobals "len" = some none)
    (z_sum : PySem.W.nsIn K mainGlobals "sum" = some none)
    (z_abs : PySem.W.nsIn K mainGlobals "abs" = some none)
    (z_max : PySem.W.nsIn K mainGlobals "max" = some none)
    (z_min : PySem.W.nsIn K mainGlobals "min" = some none)
    (z_range : PySem.W.nsIn K mainGlobals "range" = some none)
    (z_repr : PySem.W.nsIn K mainGlobals "repr" = some none)
    (z_set : PySem.W.nsIn K mainGlobals "set" = some none)
    (z_sorted : PySem.W.nsIn K mainGlobals "sorted" = some none)
    (z_zip : PySem.W.nsIn K mainGlobals "zip" = some none)
    (z_enumerate : PySem.W.nsIn K mainGlobals "enumerate" = some none)
    (z_str : PySem.W.nsIn K mainGlobals "str" = some none)
    {t_FIGURES : Tok}
    (v_FIGURES : PySem.W.nsIn K mainGlobals "FIGURES" = some (some (.str "0123456789" t_FIGURES)))
    {t_MOST_FIGURES : Tok}
    (v_MOST_FIGURES : PySem.W.nsIn K mainGlobals "MOST_FIGURES" = some (some (.int 4000 t_MOST_FIGURES)))
    {t_MOST_LINES : Tok}
    (v_MOST_LINES : PySem.W.nsIn K mainGlobals "MOST_LINES" = some (some (.int 20 t_MOST_LINES)))
    {t_MOST_BROUGHT : Tok}
    (v_MOST_BROUGHT : PySem.W.nsIn K mainGlobals "MOST_BROUGHT" = some (some (.int 4 t_MOST_BROUGHT)))
    {t_MOST_LEFT : Tok}
    (v_MOST_LEFT : PySem.W.nsIn K mainGlobals "MOST_LEFT" = some (some (.int 6 t_MOST_LEFT)))
    {t_MOST_SPOKEN : Tok}
    (v_MOST_SPOKEN : PySem.W.nsIn K mainGlobals "MOST_SPOKEN" = some (some (.int 8 t_MOST_SPOKEN))) :
    ∃ fd : FuncData, (∀ (s : Shared) (v : Value), BindsTo s fd ⟨[v], []⟩ [("script", v)]) ∧ ∀ base : Heap, K.In base → base.Ns mainGlobals mg → FnOkG l.prog w K mg base CX0 (8 + 1) fa fd ["script"] (spLaw K) := by
  have e := hfa.symm.trans (PySem.W.mg_of X G a_law)
  cases e
  have F_is_whole := fun_mk (st := s_is_whole) l_is_whole c_is_whole k_is_whole
  have b_is_whole := F_is_whole.binds (ps := ["value"]) fun _ _ _ _ _ _ us hl => match us, hl with | [_], _ => rfl
  have F_is_lot := fun_mk (st := s_is_lot) l_is_lot c_is_lot k_is_lot
  have b_is_lot := F_is_lot.binds (ps := ["value"]) fun _ _ _ _ _ _ us hl => match us, hl with | [_], _ => rfl
  have F_integer_in := fun_mk (st := s_integer_in) l_integer_in c_integer_in k_integer_in
  have b_integer_in := F_integer_in.binds (ps := ["word"]) fun _ _ _ _ _ _ us hl => match us, hl with | [_], _ => rfl
  have F_number_in := fun_mk (st := s_number_in) l_number_in c_number_in k_number_in
  have b_number_in := F_number_in.binds (ps := ["word", "least", "most"]) fun _ _ _ _ _ _ us hl => match us, hl with | [_, _, _], _ => rfl
  have F_lot_of := fun_mk (st := s_lot_of) l_lot_of c_lot_of k_lot_of
  have b_lot_of := F_lot_of.binds (ps := ["words"]) fun _ _ _ _ _ _ us hl => match us, hl with | [_], _ => rfl
  have F_lies_in := fun_mk (st := s_lies_in) l_lies_in c_lies_in k_lies_in
  have b_lies_in := F_lies_in.binds (ps := ["lot", "other"]) fun _ _ _ _ _ _ us hl => match us, hl with | [_, _], _ => rfl
  have F_greatest_lots := fun_mk (st := s_greatest_lots) l_greatest_lots c_greatest_lots k_greatest_lots
  have b_greatest_lots := F_greatest_lots.binds (ps := ["lots"]) fun _ _ _ _ _ _ us hl => match us, hl with | [_], _ => rfl
  have F_lines_in := fun_mk (st := s_lines_in) l_lines_in c_lines_in k_lines_in
  have b_lines_in := F_lines_in.binds (ps := ["text"]) fun _ _ _ _ _ _ us hl => match us, hl with | [_], _ => rfl
  have F_line_in := fun_mk (st := s_line_in) l_line_in c_line_in k_line_in
  have b_line_in := F_line_in.binds (ps := ["line"]) fun _ _ _ _ _ _ us hl => match us, hl with | [_], _ => rfl
  have F_lot_text_in := fun_mk (st := s_lot_text_in) l_lot_text_in c_lot_text_in k_lot_text_in
  have b_lot_text_in := F_lot_text_in.binds (ps := ["text"]) fun _ _ _ _ _ _ us hl => match us, hl with | [_], _ => rfl
  have F_may_stand := fun_mk (st := s_may_stand) l_may_stand c_may_stand k_may_stand
  have b_may_stand := F_may_stand.binds (ps := ["lines"]) fun _ _ _ _ _ _ us hl => match us, hl with | [_], _ => rfl
  have F_left_words := fun_mk (st := s_left_words) l_left_words c_left_words k_left_words
  have b_left_words := F_left_words.binds (ps := ["lines"]) fun _ _ _ _ _ _ us hl => match us, hl with | [_], _ => rfl
  have F_spoken_words := fun_mk (st := s_spoken_words) l_spoken_words c_spoken_words k_spoken_words
  have b_spoken_words := F_spoken_words.binds (ps := ["lines"]) fun _ _ _ _ _ _ us hl => match us, hl with | [_], _ => rfl
  have F_law_pot := fun_mk (st := s_law_pot) l_law_pot c_law_pot k_law_pot
  have b_law_pot := F_law_pot.binds (ps := ["script", "place"]) fun _ _ _ _ _ _ us hl => match us, hl with | [_, _], _ => rfl
  have F_law_take := fun_mk (st := s_law_take) l_law_take c_law_take k_law_take
  have b_law_take := F_law_take.binds (ps := ["pot", "upto"]) fun _ _ _ _ _ _ us hl => match us, hl with | [_, _], _ => rfl
  have F_law_of := fun_mk (st := s_law_of) l_law_of c_law_of k_law_of
  have b_law_of := F_law_of.binds (ps := ["pot", "some"]) fun _ _ _ _ _ _ us hl => match us, hl with | [_, _], _ => rfl
  have F_law_some := fun_mk (st := s_law_some) l_law_some c_law_some k_law_some
  have b_law_some := F_law_some.binds (ps := ["pot", "pool", "many"]) fun _ _ _ _ _ _ us hl => match us, hl with | [_, _, _], _ => rfl
  have F_law_cells := fun_mk (st := s_law_cells) l_law_cells c_law_cells k_law_cells
  have b_law_cells := F_law_cells.binds (ps := ["script", "limit"]) fun _ _ _ _ _ _ us hl => match us, hl with | [_, _], _ => rfl
  have F_law_lot_text := fun_mk (st := s_law_lot_text) l_law_lot_text c_law_lot_text k_law_lot_text
  have b_law_lot_text := F_law_lot_text.binds (ps := ["lot"]) fun _ _ _ _ _ _ us hl => match us, hl with | [_], _ => rfl
  have F_law_task_text := fun_mk (st := s_law_task_text) l_law_task_text c_law_task_text k_law_task_text
  have b_law_task_text := F_law_task_text.binds (ps := ["lines"]) fun _ _ _ _ _ _ us hl => match us, hl with | [_], _ => rfl
  have F_law_drawn_lot := fun_mk (st := s_law_drawn_lot) l_law_drawn_lot c_law_drawn_lot k_law_drawn_lot
  have b_law_drawn_lot := F_law_drawn_lot.binds (ps := ["pot", "pool", "most"]) fun _ _ _ _ _ _ us hl => match us, hl with | [_, _, _], _ => rfl
  have F_law_task := fun_mk (st := s_law_task) l_law_task c_law_task k_law_task
  have b_law_task := F_law_task.binds (ps := ["pot", "most"]) fun _ _ _ _ _ _ us hl => match us, hl with | [_, _], _ => rfl
  have F_law_words_of := fun_mk (st := s_law_words_of) l_law_words_of c_law_words_of k_law_words_of
  have b_law_words_of := F_law_words_of.binds (ps := ["lines"]) fun _ _ _ _ _ _ us hl => match us, hl with | [_], _ => rfl
  have F_law_spoken := fun_mk (st := s_law_spoken) l_law_spoken c_law_spoken k_law_spoken
  have b_law_spoken := F_law_spoken.binds (ps := ["lines"]) fun _ _ _ _ _ _ us hl => match us, hl with | [_], _ => rfl
  have F_law_is_part := fun_mk (st := s_law_is_part) l_law_is_part c_law_is_part k_law_is_part
  have b_law_is_part := F_law_is_part.binds (ps := ["one", "other"]) fun _ _ _ _ _ _ us hl => match us, hl with | [_, _], _ => rfl
  have F_law_chain := fun_mk (st := s_law_chain) l_law_chain c_law_chain k_law_chain
  have b_law_chain := F_law_chain.binds (ps := ["pot", "some"]) fun _ _ _ _ _ _ us hl => match us, hl with | [_, _], _ => rfl
  have F_law_again := fun_mk (st := s_law_again) l_law_again c_law_again k_law_again
  have b_law_again := F_law_again.binds (ps := ["pot", "lines"]) fun _ _ _ _ _ _ us hl => match us, hl with | [_, _], _ => rfl
  have F_law_right := fun_mk (st := s_law_right) l_law_right c_law_right k_law_right
  have b_law_right := F_law_right.binds (ps := ["pot"]) fun _ _ _ _ _ _ us hl => match us, hl with | [_], _ => rfl
  have F_law := fun_mk (st := s_law) l_law c_law k_law
  have b_law := F_law.binds (ps := ["script"]) fun _ _ _ _ _ _ us hl => match us, hl with | [_], _ => rfl
  have F_Task_init := fun_mk (st := s_Task_init) l_Task_init c_Task_init k_Task_init
  have b_Task_init := F_Task_init.binds (ps := ["self", "text"]) fun _ _ _ _ _ _ us hl => match us, hl with | [_, _], _ => rfl
  have F_Task_ends := fun_mk (st := s_Task_ends) l_Task_ends c_Task_ends k_Task_ends
  have b_Task_ends := F_Task_ends.binds (ps := ["self", "lot"]) fun _ _ _ _ _ _ us hl => match us, hl with | [_, _], _ => rfl
  have F_Task_right := fun_mk (st := s_Task_right) l_Task_right c_Task_right k_Task_right
  have b_Task_right := F_Task_right.binds (ps := ["self", "brought", "said"]) fun _ _ _ _ _ _ us hl => match us, hl with | [_, _, _], _ => rfl
  refine ⟨PySem.W.fnOf "law" "law" (defArgs s_law) (defBody s_law) (defScope s_law) .none kV_law dc_law pm_law an_law cd_law ct_law, fun s v => .of_eq rfl, fun base _ _ => ?_⟩
  have hC : TC K C := ⟨⟨pgC, hdC, poC, saC⟩, np_text, np_lines, np_words, np_spoken⟩
  have T : RTx mg := ⟨(PySem.W.mg_none_of X G z_isinstance), (PySem.W.mg_none_of X G z_int), (PySem.W.mg_none_of X G z_bool), (PySem.W.mg_none_of X G z_tuple), (PySem.W.mg_none_of X G z_list), (PySem.W.mg_none_of X G z_all), (PySem.W.mg_none_of X G z_any), (PySem.W.mg_none_of X G z_len), (PySem.W.mg_none_of X G z_sum), (PySem.W.mg_none_of X G z_abs), (PySem.W.mg_none_of X G z_max), (PySem.W.mg_none_of X G z_min), (PySem.W.mg_none_of X G z_range), (PySem.W.mg_none_of X G z_repr), (PySem.W.mg_none_of X G z_set), (PySem.W.mg_none_of X G z_sorted), (PySem.W.mg_none_of X G z_zip), (PySem.W.mg_none_of X G z_enumerate), (PySem.W.mg_none_of X G z_str), ⟨_, (PySem.W.mg_of X G v_FIGURES)⟩, ⟨_, (PySem.W.mg_of X G v_MOST_FIGURES)⟩, ⟨_, (PySem.W.mg_of X G v_MOST_LINES)⟩, ⟨_, (PySem.W.mg_of X G v_MOST_BROUGHT)⟩, ⟨_, (PySem.W.mg_of X G v_MOST_LEFT)⟩, ⟨_, (PySem.W.mg_of X G v_MOST_SPOKEN)⟩⟩
  have LT : LTx mg := ⟨(PySem.W.mg_none_of X G z_len), (PySem.W.mg_none_of X G z_int), (PySem.W.mg_none_of X G z_sum), (PySem.W.mg_none_of X G z_abs), (PySem.W.mg_none_of X G z_list), (PySem.W.mg_none_of X G z_tuple), (PySem.W.mg_none_of X G z_range), (PySem.W.mg_none_of X G z_max), (PySem.W.mg_none_of X G z_min), (PySem.W.mg_none_of X G z_repr), (PySem.W.mg_none_of X G z_all), (PySem.W.mg_none_of X G z_enumerate)⟩
  have G_law_cells : Fd l.prog w K mg base CX0 "_law_cells" 1 ["script", "limit"] (spCells K) := ⟨_, _, (PySem.W.mg_of X G a_law_cells), k_law_cells, b_law_cells, ok_law_cells F_law_cells LT⟩
  have G_law_pot : Fd l.prog w K mg base CX0 "_law_pot" 1 ["script", "place"] (spPot K) := ⟨_, _, (PySem.W.mg_of X G a_law_pot), k_law_pot, b_law_pot, ok_law_pot F_law_pot LT⟩
  have G_law_take : Fd l.prog w K mg base CX0 "_law_take" 1 ["pot", "upto"] spTake := ⟨_, _, (PySem.W.mg_of X G a_law_take), k_law_take, b_law_take, ok_law_take F_law_take LT⟩
  have G_law_some : Fd l.prog w K mg base CX0 "_law_some" 2 ["pot", "pool", "many"] (spSome K) := ⟨_, _, (PySem.W.mg_of X G a_law_some), k_law_some, b_law_some, ok_law_some F_law_some LT G_law_take⟩
  have G_law_drawn_lot : Fd l.prog w K mg base CX0 "_law_drawn_lot" 3 ["pot", "pool", "most"] spDLot := ⟨_, _, (PySem.W.mg_of X G a_law_drawn_lot), k_law_drawn_lot, b_law_drawn_lot, ok_law_drawn_lot F_law_drawn_lot T G_law_take G_law_some⟩
  have G_law_task : Fd l.prog w K mg base CX0 "_law_task" 4 ["pot", "most"] spTask := ⟨_, _, (PySem.W.mg_of X G a_law_task), k_law_task, b_law_task, ok_law_task F_law_task T G_law_take G_law_some G_law_drawn_lot⟩
  have G_law_lot_text : Fd l.prog w K mg base CX0 "_law_lot_text" 1 ["lot"] spLitL := ⟨_, _, (PySem.W.mg_of X G a_law_lot_text), k_law_lot_text, b_law_lot_text, ok_law_lot_text F_law_lot_text T⟩
  have G_law_task_text : Fd l.prog w K mg base CX0 "_law_task_text" 2 ["lines"] spTaskT := ⟨_, _, (PySem.W.mg_of X G a_law_task_text), k_law_task_text, b_law_task_text, ok_law_task_text F_law_task_text T G_law_lot_text⟩
  have G_law_of : Fd l.prog w K mg base CX0 "_law_of" 2 ["pot", "some"] (spOf K) := ⟨_, _, (PySem.W.mg_of X G a_law_of), k_law_of, b_law_of, ok_law_of F_law_of LT G_law_take⟩
  have G_law_again : Fd l.prog w K mg base CX0 "_law_again" 3 ["pot", "lines"] spAgain63 := ⟨_, _, (PySem.W.mg_of X G a_law_again), k_law_again, b_law_again, ok_law_again F_law_again T G_law_take G_law_of G_law_some⟩
  have G_law_chain : Fd l.prog w K mg base CX0 "_law_chain" 3 ["pot", "some"] (spChain K) := ⟨_, _, (PySem.W.mg_of X G a_law_chain), k_law_chain, b_law_chain, ok_law_chain F_law_chain T G_law_take G_law_some⟩
  have G_law_words_of : Fd l.prog w K mg base CX0 "_law_words_of" 1 ["lines"] (spWordsOf leftW) := ⟨_, _, (PySem.W.mg_of X G a_law_words_of), k_law_words_of, b_law_words_of, ok_law_words_of F_law_words_of T⟩
  have G_law_spoken : Fd l.prog w K mg base CX0 "_law_spoken" 1 ["lines"] (spWordsOf spokW) := ⟨_, _, (PySem.W.mg_of X G a_law_spoken), k_law_spoken, b_law_spoken, ok_law_spoken F_law_spoken T⟩
  have G_law_is_part : Fd l.prog w K mg base CX0 "_law_is_part" 1 ["one", "other"] spIsPart := ⟨_, _, (PySem.W.mg_of X G a_law_is_part), k_law_is_part, b_law_is_part, ok_law_is_part F_law_is_part T⟩
  have G_integer_in : Fd l.prog w K mg base CX0 "integer_in" 1 ["word"] spIntIn := ⟨_, _, (PySem.W.mg_of X G a_integer_in), k_integer_in, b_integer_in, ok_integer_in F_integer_in T⟩
  have G_number_in : Fd l.prog w K mg base CX0 "number_in" 2 ["word", "least", "most"] spNumIn := ⟨_, _, (PySem.W.mg_of X G a_number_in), k_number_in, b_number_in, ok_number_in F_number_in G_integer_in⟩
  have G_is_whole : Fd l.prog w K mg base CX0 "is_whole" 1 ["value"] spWhD := ⟨_, _, (PySem.W.mg_of X G a_is_whole), k_is_whole, b_is_whole, ok_is_whole F_is_whole T⟩
  have G_is_lot : Fd l.prog w K mg base CX0 "is_lot" 2 ["value"] spLotD := ⟨_, _, (PySem.W.mg_of X G a_is_lot), k_is_lot, b_is_lot, ok_is_lot F_is_lot T G_is_whole⟩
  have G_lot_text_in : Fd l.prog w K mg base CX0 "lot_text_in" 3 ["text"] spLotTxt := ⟨_, _, (PySem.W.mg_of X G a_lot_text_in), k_lot_text_in, b_lot_text_in, ok_lot_text_in F_lot_text_in T G_number_in G_is_lot⟩
  have G_line_in : Fd l.prog w K mg base CX0 "line_in" 4 ["line"] spLineIn := ⟨_, _, (PySem.W.mg_of X G a_line_in), k_line_in, b_line_in, ok_line_in F_line_in T G_lot_text_in⟩
  have G_lot_of : Fd l.prog w K mg base CX0 "lot_of" 1 ["words"] (spLotOfW K) := ⟨_, _, (PySem.W.mg_of X G a_lot_of), k_lot_of, b_lot_of, ok_lot_ofW F_lot_of T⟩
  have G_left_words : Fd l.prog w K mg base CX0 "left_words" 2 ["lines"] (spLeft K) := ⟨_, _, (PySem.W.mg_of X G a_left_words), k_left_words, b_left_words, ok_left_words F_left_words G_lot_of⟩
  have G_spoken_words : Fd l.prog w K mg base CX0 "spoken_words" 2 ["lines"] (spSpok K) := ⟨_, _, (PySem.W.mg_of X G a_spoken_words), k_spoken_words, b_spoken_words, ok_spoken_words F_spoken_words G_lot_of⟩
  have G_may_stand : Fd l.prog w K mg base CX0 "may_stand" 3 ["lines"] (spMay K) := ⟨_, _, (PySem.W.mg_of X G a_may_stand), k_may_stand, b_may_stand, ok_may_stand F_may_stand T G_left_words G_spoken_words⟩
  have G_lines_in : Fd l.prog w K mg base CX0 "lines_in" 5 ["text"] spLinesIn := ⟨_, _, (PySem.W.mg_of X G a_lines_in), k_lines_in, b_lines_in, ok_lines_in F_lines_in T G_line_in G_may_stand G_left_words⟩
  have M_Task : MkC l.prog w K mg base "Task" C 6 ["self", "text"] (spTInit C) := ⟨(PySem.W.mg_of X G aCP), _, _, ⟨mkC, a_Task_init, i_Task_init, kpC⟩, b_Task_init, ok_Task_init F_Task_init T hC G_lines_in G_left_words G_spoken_words⟩
  have G_lies_in : Fd l.prog w K mg base CX0 "lies_in" 1 ["lot", "other"] spLiesD := ⟨_, _, (PySem.W.mg_of X G a_lies_in), k_lies_in, b_lies_in, ok_lies_in F_lies_in T⟩
  have G_greatest_lots : Fd l.prog w K mg base CX0 "greatest_lots" 2 ["lots"] (spGreat K) := ⟨_, _, (PySem.W.mg_of X G a_greatest_lots), k_greatest_lots, b_greatest_lots, ok_greatest_lots F_greatest_lots T G_lies_in⟩
  have M_ends : Md l.prog w K mg base CX0 C "ends" 3 ["self", "lot"] (spEnds C) := ⟨_, _, ⟨a_Task_ends, i_Task_ends, k_Task_ends⟩, b_Task_ends, ok_Task_ends F_Task_ends T hC G_is_lot G_lies_in G_greatest_lots⟩
  have M_right : Md l.prog w K mg base CX0 C "right" 4 ["self", "brought", "said"] (spTRight C) := ⟨_, _, ⟨a_Task_right, i_Task_right, k_Task_right⟩, b_Task_right, ok_Task_right F_Task_right T hC G_is_lot G_lies_in M_ends⟩
  have G_law_right : FdG l.prog w K mg base CX0 "_law_right" 8 ["pot"] spRight := ⟨_, _, (PySem.W.mg_of X G a_law_right), k_law_right, b_law_right, ok_law_right F_law_right T hC G_law_take G_law_some G_law_task G_law_task_text G_law_again G_law_chain G_law_words_of G_law_spoken G_law_is_part M_Task M_ends M_right⟩
  exact ok_law F_law LT G_law_cells G_law_pot G_law_right
theorem walk {l : PySem.W.OpenLaw} {q : Program} {loose : List Str} {XP : (Str → Option Value) → Heap → Prop} {YP : World → Heap → Prop} {d : DefRec} {K : Params → PySem.W.Frag} (hn : l.most = some 63) (hdf : d.params.defaults = [])
    (hY : ∀ (w : World) (h : Heap), YP w h → (K w.params).In h)
    (F : ∀ (w : World) (mg : Str → Option Value) (fa : Addr) (h : Heap), (K w.params).In h → h.Ns mainGlobals mg → mg d.name = some (.ref fa) →
      ∃ fd : FuncData, (∀ (s : Shared) (u : Value), BindsTo s fd ⟨[u], []⟩ [("script", u)]) ∧ ∀ base : Heap, (K w.params).In base → base.Ns mainGlobals mg → FnOkG l.prog w (K w.params) mg base CX0 (8 + 1) fa fd ["script"] (spLaw (K w.params))) :
    PySem.W.WalkO q loose XP YP l.row.toRowW d [] (fun f vs => PySem.call f vs) :=
  L2.walk_ofG (n := 63) (k := 8 + 1) (x := "script") (CX := fun _ => CX0) (sp := fun w => spLaw (K w.params)) hn (by decide) hdf ⟨rfl, by decide, by decide⟩ hY F (fun _ _ a ns hl _ hS => ⟨a, ns, rfl, hS, hl, fun _ => rfl⟩) fun _ _ _ _ _ z => z
end Fp
open PySem PySem.W PyProof.Rows
set_option maxRecDepth 100000 in
set_option maxHeartbeats 0 in
theorem PySem.Challenge.cw_fewplaymany_k63_whole_fewer_said_more_br_holds : PySem.Challenge.rw_fewplaymany_k63_whole_fewer_said_more_br.Holds := by
  w_on; o_law; k_head; (case hw => w_witness2)
  k_fill
  refine Fp.walk (l := PySem.Challenge.rw_fewplaymany_k63_whole_fewer_said_more_br) rfl rfl (fun w h Y => PySem.W.kIn_of Y) ?F
  case F =>
    intro w mg fa h KX G hmg
    refine' Fp.all_mk KX G hmg ?aCP ?a_is_whole ?l_is_whole ?c_is_whole ?k_is_whole ?a_is_lot ?l_is_lot ?c_is_lot ?k_is_lot ?a_integer_in ?l_integer_in ?c_integer_in ?k_integer_in ?a_number_in ?l_number_in ?c_number_in ?k_number_in ?a_lot_of ?l_lot_of ?c_lot_of ?k_lot_of ?a_lies_in ?l_lies_in ?c_lies_in ?k_lies_in ?a_greatest_lots ?l_greatest_lots ?c_greatest_lots ?k_greatest_lots ?a_lines_in ?l_lines_in ?c_lines_in ?k_lines_in ?a_line_in ?l_line_in ?c_line_in ?k_line_in ?a_lot_text_in ?l_lot_text_in ?c_lot_text_in ?k_lot_text_in ?a_may_stand ?l_may_stand ?c_may_stand ?k_may_stand ?a_left_words ?l_left_words ?c_left_words ?k_left_words ?a_spoken_words ?l_spoken_words ?c_spoken_words ?k_spoken_words ?a_law_pot ?l_law_pot ?c_law_pot ?k_law_pot ?a_law_take ?l_law_take ?c_law_take ?k_law_take ?a_law_of ?l_law_of ?c_law_of ?k_law_of ?a_law_some ?l_law_some ?c_law_some ?k_law_some ?a_law_cells ?l_law_cells ?c_law_cells ?k_law_cells ?a_law_lot_text ?l_law_lot_text ?c_law_lot_text ?k_law_lot_text ?a_law_task_text ?l_law_task_text ?c_law_task_text ?k_law_task_text ?a_law_drawn_lot ?l_law_drawn_lot ?c_law_drawn_lot ?k_law_drawn_lot ?a_law_task ?l_law_task ?c_law_task ?k_law_task ?a_law_words_of ?l_law_words_of ?c_law_words_of ?k_law_words_of ?a_law_spoken ?l_law_spoken ?c_law_spoken ?k_law_spoken ?a_law_is_part ?l_law_is_part ?c_law_is_part ?k_law_is_part ?a_law_chain ?l_law_chain ?c_law_chain ?k_law_chain ?a_law_again ?l_law_again ?c_law_again ?k_law_again ?a_law_right ?l_law_right ?c_law_right ?k_law_right ?a_law ?l_law ?c_law ?k_law ?a_Task_init ?l_Task_init ?c_Task_init ?k_Task_init ?i_Task_init ?a_Task_ends ?l_Task_ends ?c_Task_ends ?k_Task_ends ?i_Task_ends ?a_Task_right ?l_Task_right ?c_Task_right ?k_Task_right ?i_Task_right ?pgC ?hdC ?poC ?saC ?mkC ?kpC ?np_text ?np_lines ?np_words ?np_spoken ?z_isinstance ?z_int ?z_bool ?z_tuple ?z_list ?z_all ?z_any ?z_len ?z_sum ?z_abs ?z_max ?z_min ?z_range ?z_repr ?z_set ?z_sorted ?z_zip ?z_enumerate ?z_str ?v_FIGURES ?v_MOST_FIGURES ?v_MOST_LINES ?v_MOST_BROUGHT ?v_MOST_LEFT ?v_MOST_SPOKEN
    (case aCP => k_is)
    (case a_is_whole => k_is)
    (case l_is_whole => k_is)
    (case c_is_whole => k_is)
    (case k_is_whole => k_is)
    (case a_is_lot => k_is)
    (case l_is_lot => k_is)
    (case c_is_lot => k_is)
    (case k_is_lot => k_is)
    (case a_integer_in => k_is)
    (case l_integer_in => k_is)
    (case c_integer_in => k_is)
    (case k_integer_in => k_is)
    (case a_number_in => k_is)
    (case l_number_in => k_is)
    (case c_number_in => k_is)
    (case k_number_in => k_is)
    (case a_lot_of => k_is)
    (case l_lot_of => k_is)
    (case c_lot_of => k_is)
    (case k_lot_of => k_is)
    (case a_lies_in => k_is)
    (case l_lies_in => k_is)
    (case c_lies_in => k_is)
    (case k_lies_in => k_is)
    (case a_greatest_lots => k_is)
    (case l_greatest_lots => k_is)
    (case c_greatest_lots => k_is)
    (case k_greatest_lots => k_is)
    (case a_lines_in => k_is)
    (case l_lines_in => k_is)
    (case c_lines_in => k_is)
    (case k_lines_in => k_is)
    (case a_line_in => k_is)
    (case l_line_in => k_is)
    (case c_line_in => k_is)
    (case k_line_in => k_is)
    (case a_lot_text_in => k_is)
    (case l_lot_text_in => k_is)
    (case c_lot_text_in => k_is)
    (case k_lot_text_in => k_is)
    (case a_may_stand => k_is)
    (case l_may_stand => k_is)
    (case c_may_stand => k_is)
    (case k_may_stand => k_is)
    (case a_left_words => k_is)
    (case l_left_words => k_is)
    (case c_left_words => k_is)
    (case k_left_words => k_is)
    (case a_spoken_words => k_is)
    (case l_spoken_words => k_is)
    (case c_spoken_words => k_is)
    (case k_spoken_words => k_is)
    (case a_law_pot => k_is)
    (case l_law_pot => k_is)
    (case c_law_pot => k_is)
    (case k_law_pot => k_is)
    (case a_law_take => k_is)
    (case l_law_take => k_is)
    (case c_law_take => k_is)
    (case k_law_take => k_is)
    (case a_law_of => k_is)
    (case l_law_of => k_is)
    (case c_law_of => k_is)
    (case k_law_of => k_is)
    (case a_law_some => k_is)
    (case l_law_some => k_is)
    (case c_law_some => k_is)
    (case k_law_some => k_is)
    (case a_law_cells => k_is)
    (case l_law_cells => k_is)
    (case c_law_cells => k_is)
    (case k_law_cells => k_is)
    (case a_law_lot_text => k_is)
    (case l_law_lot_text => k_is)
    (case c_law_lot_text => k_is)
    (case k_law_lot_text => k_is)
    (case a_law_task_text => k_is)
    (case l_law_task_text => k_is)
    (case c_law_task_text => k_is)
    (case k_law_task_text => k_is)
    (case a_law_drawn_lot => k_is)
    (case l_law_drawn_lot => k_is)
    (case c_law_drawn_lot => k_is)
    (case k_law_drawn_lot => k_is)
    (case a_law_task => k_is)
    (case l_law_task => k_is)
    (case c_law_task => k_is)
    (case k_law_task => k_is)
    (case a_law_words_of => k_is)
    (case l_law_words_of => k_is)
    (case c_law_words_of => k_is)
    (case k_law_words_of => k_is)
    (case a_law_spoken => k_is)
    (case l_law_spoken => k_is)
    (case c_law_spoken => k_is)
    (case k_law_spoken => k_is)
    (case a_law_is_part => k_is)
    (case l_law_is_part => k_is)
    (case c_law_is_part => k_is)
    (case k_law_is_part => k_is)
    (case a_law_chain => k_is)
    (case l_law_chain => k_is)
    (case c_law_chain => k_is)
    (case k_law_chain => k_is)
    (case a_law_again => k_is)
    (case l_law_again => k_is)
    (case c_law_again => k_is)
    (case k_law_again => k_is)
    (case a_law_right => k_is)
    (case l_law_right => k_is)
    (case c_law_right => k_is)
    (case k_law_right => k_is)
    (case a_law => k_is)
    (case l_law => k_is)
    (case c_law => k_is)
    (case k_law => k_is)
    (case a_Task_init => k_is)
    (case l_Task_init => k_is)
    (case c_Task_init => k_is)
    (case k_Task_init => k_is)
    (case i_Task_init => k_is)
    (case a_Task_ends => k_is)
    (case l_Task_ends => k_is)
    (case c_Task_ends => k_is)
    (case k_Task_ends => k_is)
    (case i_Task_ends => k_is)
    (case a_Task_right => k_is)
    (case l_Task_right => k_is)
    (case c_Task_right => k_is)
    (case k_Task_right => k_is)
    (case i_Task_right => k_is)
    (case pgC => k_is)
    (case hdC => k_is)
    (case poC => k_is)
    (case saC => k_is)
    (case mkC => k_is)
    (case kpC => k_is)
    (case np_text => k_is)
    (case np_lines => k_is)
    (case np_words => k_is)
    (case np_spoken => k_is)
    (case z_isinstance => k_is)
    (case z_int => k_is)
    (case z_bool => k_is)
    (case z_tuple => k_is)
    (case z_list => k_is)
    (case z_all => k_is)
    (case z_any => k_is)
    (case z_len => k_is)
    (case z_sum => k_is)
    (case z_abs => k_is)
    (case z_max => k_is)
    (case z_min => k_is)
    (case z_range => k_is)
    (case z_repr => k_is)
    (case z_set => k_is)
    (case z_sorted => k_is)
    (case z_zip => k_is)
    (case z_enumerate => k_is)
    (case z_str => k_is)
    (case v_FIGURES => k_is)
    (case v_MOST_FIGURES => k_is)
    (case v_MOST_LINES => k_is)
    (case v_MOST_BROUGHT => k_is)
    (case v_MOST_LEFT => k_is)
    (case v_MOST_SPOKEN => k_is)
