import PyProof.Rows.All
import Wide.All
import OpenK.AllK
import Wide.FinOn
import HandS.ForMost
import HandS.ForExc
import HandS.Walk
import HandS.Conv
import HandS.Star
import HandS.CallLocal
import HandS.Codes
import HandS.More
import HandS.OwnEq
import HandS.Wide
import HandS.Flow
import KE.GoesEnum
import PyProof.ListStr
import PyProof.StrBlock2
import KE.IntTextLaws
import PyProof.InstNe
import HandS.MakeKwOnly
import HandS.IsInst
import HandS.Ends
import PyProof.ReprRoads
import KE.GoesMore
import HandS.TupMul
import HandS.TupAny
import HandS.Strs
import HandS.SetIn
import HandS.SetFor
import HandS.SortRule
import HandS.Style
import HandS.Deep
import HandS.Iter
import KE.KRevSl
import HandS.Zip
import HandS.Defaults
import PyProof.P3In
import HandS.NamedTupSort
import HandS.TupSets
import KE.SortKeyHeap
import KE.SortData
import HandS.Comp
import PyProof.AutoSeq1
import HandS.ExcInit
import HandS.WordsExc
import HandS.ExcIs
import HandS.ExcField
import HandS.TryOnly
import HandS.Lambda
import HandS.EndOwn
import PySem.Challenge.RW_fewplaymany_k12_whole_texts_of_runs
import HandS.FStr
import HandS.RaiseMore
set_option Elab.async false
set_option linter.all false
set_option maxRecDepth 100000
set_option maxHeartbeats 4000000
namespace Fp
open PySem PySem.Spec PyProof.Rows L2
/-! ### heaps -/
/-- all that is tracked stays, but what stands at S -/
def But (S : List Addr) (H H' : Hp) : Prop := ∀ b o, b ∉ S → H b = some o → H' b = some o
theorem But.refl (S : List Addr) (H : Hp) : But S H H := fun _ _ _ h => h
theorem But.trans {S : List Addr} {H H1 H2 : Hp} (a : But S H H1) (b : But S H1 H2) : But S H H2 := fun c o n h => b c o n (a c o n h)
theorem But.of {S : List Addr} {H H' : Hp} (h : Same H H') : But S H H' := fun c o _ q => h c o q
theorem But.new {S : List Addr} {H H1 : Hp} {p : Addr} {o : HO} (a : But S H H1) (n : H1 p = none) : But S H (upd H1 p o) := fun c u k q => by
  have z := a c u k q
  rw [upd_ne (ne_of_none z n)]
  exact z
theorem But.put {S : List Addr} {H H1 : Hp} {p : Addr} {o : HO} (a : But S H H1) (n : p ∈ S) : But S H (upd H1 p o) := fun c u k q => by
  have ne : c ≠ p := fun z => k (z ▸ n)
  rw [upd_ne ne]
  exact a c u k q
theorem But.wide {S T : List Addr} {H H' : Hp} (a : But S H H') (h : ∀ x ∈ S, x ∈ T) : But T H H' := fun c o n q => a c o (fun z => n (h c z)) q
theorem But.at {S : List Addr} {H H' : Hp} {a : Addr} {o : HO} (b : But S H H') (h : H a = some o) (n : a ∉ S) : H' a = some o := b a o n h
theorem But.seq {S : List Addr} {H H' : Hp} {K : PySem.W.Frag} {a : Addr} {xs : List V} (b : But S H H') (h : SqL K H a xs) (n : a ∉ S) : SqL K H' a xs := by
  rcases h with (h | ⟨o, h⟩) | h
  · exact .inl (.inl (b _ _ n h))
  · exact .inl (.inr ⟨o, b _ _ n h⟩)
  · exact .inr h
theorem But.seqT {S : List Addr} {H H' : Hp} {K : PySem.W.Frag} {a : Addr} {xs : List V} (b : But S H H') (h : SqT K H a xs) (n : a ∉ S) : SqT K H' a xs := by
  rcases h with (h | ⟨o, h⟩) | h
  · exact .inl (.inl (b _ _ n h))
  · exact .inl (.inr ⟨o, b _ _ n h⟩)
  · exact .inr h
theorem same_new {H : Hp} {p : Addr} (h : H p = none) (o : HO) : Same H (upd H p o) := fun b u q => by rw [upd_ne (ne_of_none q h)]; exact q
/-! ### a def of the module with its promise -/
structure Fd (P : Program) (w : World) (K : PySem.W.Frag) (mg : Str → Option Value) (base : Heap) (CX : CXT) (x : Str) (k : Nat) (ps : List Str) (sp : Sp) : Prop where
  ex : ∃ (f : Addr) (fd : FuncData), mg x = some (.ref f) ∧ PySem.W.keepIn K (.ref f) = true ∧ Binds K fd ps [] ∧ FnOk P w K mg base CX k f fd ps sp
section
variable {X : Cx} {CX : CXT} {x : Str} {k : Nat} {ps : List Str} {sp : Sp} {e : Expr} {es : List Expr} {t : TA} {p pos : Pos}
theorem pe_fd (G : Fd X.prog X.w X.K X.mg X.base CX0 x k ps sp) (hr : Room k X.A) (hg : Gl X x) (ha : PA X (e :: es) t) (hdb : (x == ("__debug__" : Str)) = false := by decide)
    (he : starEach (e :: es) X.env = (false, eval e X.env) :: starEach es X.env := by rfl) (hpl : (backTo pos (starEach es X.env)).any (·.1) = false := by rfl) :
    PE X (.Call (.Name x p) (e :: es) [] pos) (tCall sp [] E0 t) := by
  obtain ⟨f, fd, h1, h2, h3, h4⟩ := G.ex
  exact pe_call h4 hr hg h1 h2 h3 .nil pass0 ha hdb he hpl
end
/-! ### powers of greater numbers -/
theorem op_powB {X : Cx} : OpR X (binaryOp .Pow) (rI (fun i j => 0 ≤ j ∧ (Builtin.Int.intBits i : Int) * j ≤ 2 ^ 27) fun i j => .int (i ^ j.toNat)) :=
  opI fun _ _ _ _ _ _ _ hc q => PyProof.Rows.pow_int hc.1 hc.2 q
theorem bits_ok {a : Int} (k : Nat) {j : Int} (h : a.natAbs < 2 ^ k) (hj : 0 ≤ j) (hk : (k : Int) * j ≤ 2 ^ 27) : (Builtin.Int.intBits a : Int) * j ≤ 2 ^ 27 := by
  have h1 : (Builtin.Int.intBits a : Int) ≤ (k : Int) := by
    have := PyProof.Rows.intBits_le h
    omega
  exact Int.le_trans (Int.mul_le_mul_of_nonneg_right h1 hj) hk
/-! ### a word between a part and what follows it -/
def tMid (t : TE) : TE := fun σ H Q => ∃ Mid : V → Hp → Prop, t σ H Mid ∧ ∀ v H', Mid v H' → Q v H'
theorem pe_mid {X : Cx} {e : Expr} {t : TE} (h : PE X e t) : PE X e (tMid t) := by
  refine ⟨fun pins s σ H Q I z => ?_⟩
  obtain ⟨Mid, hm, hu⟩ := z
  exact thn (h.run pins s σ H Mid I hm) fun v s1 ⟨x, H1, I1, r1, q1⟩ => ⟨x, H1, I1, r1, hu x H1 q1⟩
def tMidT (t : TT) : TT := fun σ H Q => ∃ Mid : Bool → Hp → Prop, t σ H Mid ∧ ∀ v H', Mid v H' → Q v H'
theorem pt_mid {X : Cx} {e : Expr} {t : TT} (h : PT X e t) : PT X e (tMidT t) := by
  refine ⟨fun pins s σ H Q I z => ?_⟩
  obtain ⟨Mid, hm, hu⟩ := z
  exact thn (h.run pins s σ H Mid I hm) fun v s1 ⟨H1, I1, q1⟩ => ⟨H1, I1, hu v H1 q1⟩
theorem erase_perm {α : Type} : ∀ (l : List α) (i : Nat) (h : i < l.length), (l[i] :: l.eraseIdx i).Perm l
  | a :: l, 0, _ => List.Perm.refl _
  | a :: l, i + 1, h => by
    have h' : i < l.length := Nat.lt_of_succ_lt_succ h
    have ih := erase_perm l i h'
    show (l[i] :: a :: l.eraseIdx i).Perm (a :: l)
    exact (List.Perm.swap _ _ _).trans (List.Perm.cons a ih)
theorem b01 (k : Bool) : -(2 ^ 64) < (if k = true then (1 : Int) else 0) ∧ (if k = true then (1 : Int) else 0) < 2 ^ 64 := by cases k <;> decide
/-! ### draws -/
def PotAt (H : Hp) (p : Addr) (n : Nat) : Prop := ∃ a b c : Int, H p = some (.lst [.int a, .int b, .int c]) ∧ 0 ≤ b ∧ b < 2305843009213693951 ∧ 0 ≤ c ∧ c ≤ n
theorem PotAt.mono {H : Hp} {p : Addr} {n m : Nat} (h : PotAt H p n) (l : n ≤ m) : PotAt H p m := by
  obtain ⟨a, b, c, h1, h2, h3, h4, h5⟩ := h
  exact ⟨a, b, c, h1, h2, h3, h4, by omega⟩
theorem PotAt.there {H : Hp} {p : Addr} {n : Nat} (h : PotAt H p n) : ∃ xs, H p = some (.lst xs) := by
  obtain ⟨a, b, c, h1, _⟩ := h
  exact ⟨_, h1⟩
def spTake : Sp := fun vs H Q _ => ∃ (p : Addr) (u : Int) (n : Nat), vs = [.ref p, .int u] ∧ 0 < u ∧ u < 1000000 ∧ n < 1000000 ∧ PotAt H p n ∧
  ∀ (d : Nat) (H' : Hp), (d : Int) < u → But [p] H H' → PotAt H' p (n + 1) → Q (.int d) H'
def spOf (K : PySem.W.Frag) : Sp := fun vs H Q _ => ∃ (p q : Addr) (xs : List V) (n : Nat), vs = [.ref p, .ref q] ∧ SqL K H q xs ∧ q ≠ p ∧ xs ≠ [] ∧ xs.length < 1000000 ∧ n < 1000000 ∧ PotAt H p n ∧
  ∀ (d : Nat) (v : V) (H' : Hp), xs[d]? = some v → But [p] H H' → PotAt H' p (n + 1) → Q v H'
/-- many of a pool, in some sequence -/
def spSome (K : PySem.W.Frag) : Sp := fun vs H Q _ => ∃ (p q : Addr) (xs : List V) (m n : Nat), vs = [.ref p, .ref q, .int m] ∧ (SqL K H q xs ∨ SqT K H q xs) ∧ m ≤ xs.length ∧ xs.length < 1000 ∧ n + m < 1000000 ∧ PotAt H p n ∧
  ∀ (l : Addr) (ys zs : List V) (H' : Hp), ys.length = m → (ys ++ zs).Perm xs → H l = none → H' l = some (.lst ys) → But [p] H H' → PotAt H' p (n + m) → Q (.ref l) H'
/-- the pot of a cell -/
def spPot (K : PySem.W.Frag) : Sp := fun vs H Q _ => ∃ (a : Addr) (ns : List Int) (k : Nat), vs = [.ref a, .int k] ∧ SqL K H a (ns.map V.int) ∧ ns.length ≤ 63 ∧ k < 1000 ∧ ∀ (l : Addr) (H' : Hp), Same H H' → H l = none → PotAt H' l 0 → Q (.ref l) H'
/-- the cells that are looked at -/
def spCells (K : PySem.W.Frag) : Sp := fun vs H Q _ => ∃ (a : Addr) (ns : List Int) (m : Nat), vs = [.ref a, .int m] ∧ SqL K H a (ns.map V.int) ∧ ns.length ≤ 63 ∧ m < 1000 ∧
  ∀ (l : Addr) (H' : Hp) (k : Nat), k < 1000 → Same H H' → H l = none → H' l = some (.lst ((List.range k).map fun i => V.int (i : Nat))) → Q (.ref l) H'
theorem modNat (a : Int) {u : Int} (h : 0 < u) : ∃ d : Nat, a % u = (d : Int) ∧ (d : Int) < u :=
  ⟨(a % u).toNat, by have := Int.emod_nonneg a (show u ≠ 0 by omega); omega, by have := Int.emod_nonneg a (show u ≠ 0 by omega); have := Int.emod_lt_of_pos a h; omega⟩
theorem sq_le (m : Int) {c : Int} (h : 0 ≤ c) (h1 : c ≤ 1000001) (hm : 0 ≤ m := by decide) (hm1 : m ≤ 200000 := by decide) : 0 ≤ m * c * c ∧ m * c * c ≤ 200000 * 1000001 * 1000001 := by
  have e1 : m * c ≤ 200000 * 1000001 := Int.mul_le_mul hm1 h1 h (by decide)
  have e0 : 0 ≤ m * c := Int.mul_nonneg hm h
  exact ⟨Int.mul_nonneg e0 h, Int.mul_le_mul e1 h1 h (by decide)⟩
end Fp
namespace Fp
open PySem PySem.Spec PyProof.Rows L2
/-! ### constants of the module -/
section
variable {X : Cx} {x : Str} {pos : Pos}
theorem pe_cS {z : Str} (h : ∃ t, X.mg x = some (.str z t)) (hg : Gl X x := by rfl) (hd : (x == ("__debug__" : Str)) = false := by decide) : PE X (.Name x pos) (tC (.str z)) := by
  obtain ⟨t, h⟩ := h
  exact pe_glob hg h ⟨_, rfl⟩ hd
theorem pe_cI {i : Int} (h : ∃ t, X.mg x = some (.int i t)) (hg : Gl X x := by rfl) (hd : (x == ("__debug__" : Str)) = false := by decide) : PE X (.Name x pos) (tC (.int i)) := by
  obtain ⟨t, h⟩ := h
  exact pe_glob hg h ⟨_, rfl⟩ hd
/-- a tuple of the module -/
def KTup (K : PySem.W.Frag) (a : Addr) (xs : List V) : Prop := ∀ H, SqT K H a xs
def tKT (K : PySem.W.Frag) (xs : List V) : TE := fun _ H Q => ∀ a, KTup K a xs → Q (.ref a) H
theorem pe_cT {xs : List V} (h : ∃ a, X.mg x = some (.ref a) ∧ KTup X.K a xs) (hg : Gl X x := by rfl) (hd : (x == ("__debug__" : Str)) = false := by decide) : PE X (.Name x pos) (tKT X.K xs) := by
  obtain ⟨a, h1, h2⟩ := h
  exact ⟨fun pins s σ H Q I q => (pe_glob (v := .ref a) hg h1 rfl hd).run pins s σ H Q I (q a h2)⟩
/-- an object of the module -/
def tKR (φ : Addr → Prop) : TE := fun _ H Q => ∀ a, φ a → Q (.ref a) H
theorem pe_cR {φ : Addr → Prop} (h : ∃ a, X.mg x = some (.ref a) ∧ φ a) (hg : Gl X x := by rfl) (hd : (x == ("__debug__" : Str)) = false := by decide) : PE X (.Name x pos) (tKR φ) := by
  obtain ⟨a, h1, h2⟩ := h
  exact ⟨fun pins s σ H Q I q => (pe_glob (v := .ref a) hg h1 rfl hd).run pins s σ H Q I (q a h2)⟩
/-- a dict of the module with text keys, at d -/
structure KD (K : PySem.W.Frag) (w : World) (d : Addr) (tab : Str → Option V) : Prop where
  ex : ∃ es n, KDict K w d es n
  get : ∀ z, ∃ r, PySem.W.nsIn K d z = some r ∧ RelO (tab z) r
theorem RelO.some_iff {o : Option V} {r : Option Value} (h : RelO o r) : o.isSome = r.isSome := by
  cases o <;> cases r <;> first | rfl | exact h.elim
variable {e : Expr} {te : TE} {apos cpos p : Pos} {tab : Str → Option V} {d : Addr}
/-- key in NAME -/
theorem pe_kin (D : ∃ d, X.mg x = some (.ref d) ∧ KD X.K X.w d tab) (he : PE X e te) (hg : Gl X x := by rfl) (hb : behindInMarks .In (.Name x p) = false := by rfl) (hd : (x == ("__debug__" : Str)) = false := by decide) : PE X (.Compare e [.In] [.Name x p] pos) (fun σ H Q => te σ H fun y H1 => ∃ z, y = .str z ∧ Q (.bl (tab z).isSome) H1) := by
  obtain ⟨d, hm, ⟨es, n, D⟩, get⟩ := D
  refine ⟨fun pins s σ H Q I h => ?_⟩
  refine (pe_cmpR (op_in_kd D) he (pe_glob (v := .ref d) hg hm rfl hd) hb).run pins s σ H Q I ?_
  have h' : (fun σ H Q => te σ H fun y H1 => ∃ z, y = .str z ∧ Q (.bl (tab z).isSome) H1) σ H Q := h
  exact (fun (k : te σ H _) => k) (by
    refine (?_ : te σ H _)
    have e2 : (fun (y : V) (H1 : Hp) => ∃ z : Str, y = V.str z ∧ Q (V.bl (tab z).isSome) H1) = fun y H1 => tC (.ref d) σ H1 fun y' H2 => ∃ (z : Str) (r : Option Value), y = .str z ∧ y' = .ref d ∧ PySem.W.nsIn X.K d z = some r ∧ Q (.bl r.isSome) H2 := by
      funext y H1
      apply propext
      constructor
      · rintro ⟨z, rfl, q⟩
        obtain ⟨r, g1, g2⟩ := get z
        refine ⟨z, r, rfl, rfl, g1, ?_⟩
        rw [← RelO.some_iff g2]
        exact q
      · rintro ⟨z, r, rfl, _, g1, q⟩
        obtain ⟨r', g1', g2⟩ := get z
        rw [g1] at g1'
        cases g1'
        refine ⟨z, rfl, ?_⟩
        rw [RelO.some_iff g2]
        exact q
    rw [← e2]
    exact h')
/-- NAME.get(key) -/
theorem pe_kget (D : ∃ d, X.mg x = some (.ref d) ∧ KD X.K X.w d tab) (he : PE X e te) (hg : Gl X x := by rfl) (m : M1 X (.Name x p) "get" apos e cpos := by exact ⟨rfl, rfl, rfl, rfl⟩) (hd : (x == ("__debug__" : Str)) = false := by decide) :
    PE X (.Call (.Attribute (.Name x p) "get" apos) [e] [] cpos) (fun σ H Q => te σ H fun y H1 => ∃ z, y = .str z ∧ Q ((tab z).getD .non) H1) := by
  obtain ⟨d, hm, ⟨es, n, D⟩, get⟩ := D
  refine ⟨fun pins s σ H Q I h => ?_⟩
  refine wpAny_Call_method m.base m.few m.line PySem.F.plainAttrs_dict PySem.F.slot_dict_get PySem.F.type_dict_get (thn ((pe_glob (v := .ref d) hg hm rfl hd).run pins s σ H (fun y H1 => y = .ref d ∧ te σ H1 fun y H1 => ∃ z, y = .str z ∧ Q ((tab z).getD .non) H1) I ⟨rfl, h⟩) fun u s1 hh => ?_)
  obtain ⟨y, H1, I1, ry, ey, q1⟩ := hh
  subst ey
  obtain rfl : u = Value.ref d := ry
  have hmp := PySem.W.mapOf_K (prog := X.prog) (w := X.w) I1.kIn D.at_ D.lit
  refine ⟨hmp.typeIs, hmp.noDict, ?_⟩
  rw [m.trees]
  refine Calls.callWith_builtin rfl (Calls.evalArgs_plain (Calls.spliced_cons (thn (he.run pins s1 σ H1 _ I1 q1) fun iv s2 hh2 => Calls.spliced_nil ?_)))
  obtain ⟨y2, H2, I2, ry2, z, ez, q2⟩ := hh2
  subst ez
  obtain ⟨t, rfl⟩ := ry2
  have hmp2 := PySem.W.mapOf_K (prog := X.prog) (w := X.w) I2.kIn D.at_ D.lit
  obtain ⟨r, g1, g2⟩ := get z
  refine call_meetsIn PySem.F.slot_dict_get hmp2.typeIs PySem.F.entry_dict_get (PySem.F.args_dict_get_2 _ _) (meets_dict_get (strKind X.prog X.w) d (PySem.strKind_is X.prog X.w z t) D.low) ⟨_, hmp2, ?_⟩
  show EP X pins σ Q _ _
  rw [PySem.W.find_K D.at_ g1]
  exact ⟨_, H2, I2.tok _, g2.getD (d := .non) rfl, q2⟩
end
/-! ### for i, x in enumerate(list, start) -/
def ItE (K : PySem.W.Frag) (a : Addr) (lo : Int) : It :=
  ⟨fun i H => ∃ (ys : List V) (y : V), SqL K H a ys ∧ ys[i]? = some y,
   fun i H v H' => ∃ T y, v = .ref T ∧ H T = none ∧ H' = upd H T (.tup [.int (lo + (i : Nat)), y]) ∧ ∀ ys, SqL K H a ys → ys[i]? = some y,
   fun i H => ∃ ys : List V, SqL K H a ys ∧ ys.length ≤ i⟩
theorem turn_enumS {P : Program} {w : World} {K : PySem.W.Frag} {elts : List Expr} {kk : Nat} {tpos : Pos} (a e it : Addr) (lo : Int) :
    Turn P w K (.Tuple elts kk tpos) (ItE K a lo) [e, it] e (fun i h => (∃ was, IsEnum h e it (lo + ((i : Nat) : Int)) was) ∧ h.IsListIter it a i ∧ e ≠ it) where
  mem := List.mem_cons_self
  obj := fun i h st b hb => by
    obtain ⟨⟨was, he⟩, ⟨o, ho, hc, hd⟩, _⟩ := st
    rcases List.mem_cons.mp hb with z | z
    · subst z
      exact ⟨_, he, fun v q => nomatch q⟩
    · have z' := List.mem_singleton.mp z
      subst z'
      exact ⟨o, ho, fun v q => by rw [hd] at q; cases q⟩
  keep := fun i h h' st k => ⟨st.1.imp fun was he => k e (by simp) _ he, st.2.1.at fun o q => k it (by simp) o q, st.2.2⟩
  item := by
    intro X hP hw hK hc i pins s σ H E I hf st hg
    subst hP hw hK
    obtain ⟨⟨was, he⟩, hit, hne⟩ := st
    obtain ⟨ys, y, hq, hx⟩ := hg
    obtain ⟨its, rv, lp, hz⟩ := I.list hq
    obtain ⟨u, hu, ru⟩ := rv.get hx
    have le : e < s.heap.objs.size := Heap.lt_size he
    have li : it < s.heap.objs.size := by
      obtain ⟨_, q, _⟩ := hit
      exact Heap.lt_size q
    have fr := I.hok.fresh (Nat.le_refl s.heap.objs.size)
    have hL := lp.isList
    have nel : e ≠ a := fun z => by
      obtain ⟨o, ho, hc', _⟩ := hL
      rw [← z, (show s.heap.get? e = some _ from he)] at ho
      cases ho
      injection hc' with z'
      exact absurd z' (by decide)
    have nil' : a ≠ it := fun z => by
      obtain ⟨o, ho, hc', _⟩ := hL
      obtain ⟨o2, ho2, hc2, _⟩ := hit
      rw [z, ho2] at ho
      cases ho
      rw [hc2] at hc'
      injection hc' with z'
      exact absurd z' (by decide)
    have hiu : its.toArray[i]? = some u := by simpa using hu
    have hlt : i < its.toArray.size := by
      by_cases z : i < its.toArray.size
      · exact z
      · rw [Array.getElem?_eq_none (by omega)] at hiu
        cases hiu
    refine wpAny_pyNext_enum_itemC (Draws.list (A := X.A.in1) (I.ok.hd hc) it a nil' its.toArray) he ⟨hit, hL⟩ hlt hne (by simp [hne, nel]) fun x h1 tk hx1 ho hst1 hT hsz hk => ⟨_, rfl, ?_⟩
    rw [hiu] at hx1
    cases hx1
    have hit1 := hst1.1
    refine wpAny_letOwnedTupleGo_enum (s := { s with heap := h1, toks := tk + 1 }) ho fun h2 he2 sb => ?_
    have hT2 := (sb.2 _ (Nat.ne_of_gt le)).trans hT
    have mem2 : ∀ {b : Addr}, b ∈ [e, it] → b < s.heap.objs.size := fun {b} hb => by
      rcases List.mem_cons.mp hb with z | z
      · rw [z]; exact le
      · rw [List.mem_singleton.mp z]; exact li
    refine ⟨.ref s.heap.objs.size, upd H s.heap.objs.size (.tup [.int (lo + (i : Nat)), y]), ?_, rfl, ⟨_, y, rfl, fr, rfl, fun zs hy => by rw [I.list_inj hy hq]; exact hx⟩, ⟨⟨u, ?_⟩, hit1.at fun o q => (sb.2 it (Ne.symm hne)).trans q, hne⟩, fun b hb => ?_⟩
    · refine I.turnedNew (ch := [e, it]) (fun b ob hb q => ?_) hf (Nat.le_refl _) ⟨by show 2 ≤ sizeLine; decide, [.int (lo + (i : Nat)) tk, u], .cons ⟨_, rfl⟩ (.cons ru .nil), ⟨_, hT2, rfl, _, rfl⟩⟩
      have be : b ≠ e := fun z => hb (by simp [z])
      have bi : b ≠ it := fun z => hb (by simp [z])
      exact (sb.2 b be).trans (hk b ob be bi q)
    · have e1 : lo + (((i + 1 : Nat)) : Int) = lo + (i : Int) + 1 := by omega
      rw [e1]
      exact he2
    · rw [upd_ne (Nat.ne_of_lt (mem2 hb))]
      exact (hf b hb).1
  done := by
    intro X hP hw hK hc i pins s σ H E I hf st hg
    subst hP hw hK
    obtain ⟨⟨was, he⟩, hit, hne⟩ := st
    obtain ⟨ys, hq, hx⟩ := hg
    obtain ⟨its, rv, lp, hz⟩ := I.list hq
    obtain ⟨f0, f1, f2, f3, f4, f5⟩ := hf it (by simp)
    have hl := rv.length
    have D : Draws X.prog X.w X.A.in1 it [it, a] i (fun _ _ => False) (fun j h => j = i ∧ h.IsListIter it a i ∧ h.IsList a its.toArray) := {
      live := fun j h st => by
        obtain ⟨_, ⟨o, ho, _⟩, _⟩ := st
        exact ⟨o, ho⟩
      frame := fun j h h' st k => ⟨st.1, st.2.1.at fun o q => k it (by simp) o q, st.2.2.at fun o q => k a (by simp) o q⟩
      item := fun j s Q E hj st _ => by
        have := st.1
        omega
      done := fun s Q E st hE => wpAny_nextOf_list_end (I.ok.hd hc) st.2.1 st.2.2 (by simp; omega) hE }
    exact wpAny_pyNext_enum_endD D he ⟨rfl, hit, lp.isList⟩ fun h1 eb => ⟨rfl, I.turned (t' := s.toks) (fun b o hb q => eb b o hb q) f0 f1 f3 f4 f5⟩
  self := fun A i s Q E st h => st.1.elim fun _ he => wpAny_pyIter_enum he h
def iEnumS (K : PySem.W.Frag) (ta : TA) : TI := fun σ H R => ta σ H fun vs H1 => ∃ a xs lo, vs = [.ref a, .int lo] ∧ SqL K H1 a xs ∧ -(2 ^ 62) ≤ lo ∧ lo < 2 ^ 62 ∧ R (ItE K a lo) H1
theorem pi_enumS {X : Cx} {e1 e2 : Expr} {ta : TA} {p pos tpos : Pos} {elts : List Expr} {kk : Nat} (hg : Gl X "enumerate") (hm : X.mg "enumerate" = none) (ha : PA X [e1, e2] ta)
    (he : starEach (e1 :: [e2]) X.env = (false, eval e1 X.env) :: starEach [e2] X.env := by rfl) (hpl : (backTo pos (starEach [e2] X.env)).any (·.1) = false := by rfl) :
    PI X (.Tuple elts kk tpos) (.Call (.Name "enumerate" p) [e1, e2] [] pos) (iEnumS X.K ta) := by
  refine ⟨fun pins s σ H R I h => ?_⟩
  refine Call_ (ld_blt I hg hm boot_enumerate (PyProof.Rows.callWith_type1 (thn (ha.run pos pins s σ H _ I h) fun us s1 hh => ?_) he hpl))
  obtain ⟨vs, H1, I1, r1, a, xs, lo, ex, hq, hl0, hl1, q⟩ := hh
  subst ex
  obtain ⟨u1, u2, rfl, ra, rb⟩ := vals2 r1
  obtain rfl : u1 = Value.ref a := ra
  obtain ⟨t, rfl⟩ := rb
  obtain ⟨its, rv, lp, hz⟩ := I1.list hq
  refine enum_begins (begins_list a its.toArray) lp.isList (by omega) (by omega) fun h1 he hit hsz hk => wpAny_pyIter_enum he ?_
  have I2 : Inv X pins σ H1 { s1 with heap := h1 } := I1.kept (t' := s1.toks) hk
  refine ⟨s1.heap.objs.size + 1, [s1.heap.objs.size + 1, s1.heap.objs.size], _, _, H1, rfl, I2, turn_enumS a (s1.heap.objs.size + 1) s1.heap.objs.size lo, ⟨⟨.none, by simpa using he⟩, ⟨_, hit, rfl, rfl⟩, Nat.succ_ne_self _⟩, fun b hb => ?_, q⟩
  have hle : s1.heap.objs.size ≤ b := by
    rcases List.mem_cons.mp hb with z | z
    · rw [z]; exact Nat.le_add_right _ _
    · rw [List.mem_singleton.mp z]; exact Nat.le_refl _
  exact I1.fpOk hle (I1.hok.fresh hle)
/-! ### list(text), text * int -/
abbrev sg (z : Str) : List Nat := z.cps.toList
def signsV (z : Str) : List V := (sg z).map fun c => V.str ⟨#[c]⟩
theorem signs_vals : ∀ (l : List Nat) (us : List Value), us.length = l.length → (∀ (j : Nat) (v : Value), us[j]? = some v → ∃ (c : Nat) (u : Tok), l[j]? = some c ∧ v = Value.str ⟨#[c]⟩ u) → Vals (l.map fun c => V.str ⟨#[c]⟩) us
  | [], [], _, _ => .nil
  | c :: l, u :: us, hl, h => by
    obtain ⟨c', t, e1, e2⟩ := h 0 u rfl
    have e1' : c = c' := by simpa using e1
    subst e1'
    exact .cons ⟨t, e2⟩ (signs_vals l us (by simpa using hl) fun j v e => by simpa using h (j + 1) v (by simpa using e))
  | [], _ :: _, hl, _ => by simp at hl
  | _ :: _, [], hl, _ => by simp at hl
theorem call_list_txt {X : Cx} (hc : X.calm = true) : CallR X (.type "list") (fun xs H Q => ∃ z, xs = [.str z] ∧ z.length ≤ sizeLine ∧ ∀ l, H l = none → Q (.ref l) (upd H l (.lst (signsV z)))) := by
  intro pins s σ H xs us Q I r h
  obtain ⟨z, rfl, hz, q⟩ := h
  obtain ⟨u, rfl, rx⟩ := vals1 r
  obtain ⟨t, rfl⟩ := rx
  refine call_list_str (I.ok.hd hc) z t (fun h' tk acc c' hk hS hacc => ?_) (hn := hz)
  have hv : Vals (signsV z) acc.toList := signs_vals _ _ (by simpa [sg] using hacc.1) fun j v e => by
    obtain ⟨c, u, e1, e2⟩ := hacc.2 j v (by simpa using e)
    exact ⟨c, u, by simpa [sg] using e1, e2⟩
  have hlen : (signsV z).length ≤ sizeLine := by simpa [signsV, sg, Str.length] using hz
  exact ⟨.ref s.heap.objs.size, _, I.laid (t' := tk) hk (Nat.le_refl _) (show ObjOk X.prog X.w _ h' _ (.lst (signsV z)) from ⟨hlen, acc.toList, c', hv, hS⟩), rfl, q _ (I.hok.fresh (Nat.le_refl _))⟩
theorem mulOk6 {z : Str} {i : Int} (hz : z.length = 1) (h0 : 0 ≤ i) (h1 : i ≤ 6) : PySem.MulOk z i := by
  have : i = 0 ∨ i = 1 ∨ i = 2 ∨ i = 3 ∨ i = 4 ∨ i = 5 ∨ i = 6 := by omega
  unfold PySem.MulOk
  rw [hz]
  rcases this with rfl | rfl | rfl | rfl | rfl | rfl | rfl <;> decide
theorem op_mul_txt {X : Cx} : OpR X (binaryOp .Mult) (fun x y H Q => ∃ (z : Str) (i : Int), x = .str z ∧ y = .int i ∧ z.length = 1 ∧ 0 ≤ i ∧ i ≤ 6 ∧ Q (.str (Txt.mul z i)) H) := by
  intro pins s σ H x y v u Q I rx ry h
  obtain ⟨z, i, rfl, rfl, hz, h0, h1, q⟩ := h
  obtain ⟨t, rfl⟩ := rx
  obtain ⟨t', rfl⟩ := ry
  exact PySem.SB.mul (mulOk6 hz h0 h1) fun t2 k => ⟨.str (Txt.mul z i), H, I.tok k, ⟨t2, rfl⟩, q⟩
/-! ### a comprehension over a text -/
theorem lc_txt {z : Str} {f : Nat → V} {g : TG} {te : TE} {vs : List Nat} {σ : L2.St} {H : Hp} {D : Addr} {Qd : Hp → Prop} (hD : H D = none) (hz : z.length ≤ 100000)
    (helt : ∀ (c : Nat) (H' : Hp) (R : V → Hp → Prop), c ∈ sg z → Same H H' → R (f c) H' → g (.str ⟨#[c]⟩) (wipe σ vs) H' fun σ2 H2 => wipe σ2 vs = wipe σ vs ∧ te σ2 H2 R)
    (hq : ∀ H', Same H H' → H' D = some (.lst ((sg z).map f)) → Qd H') :
    ∃ W : Nat → Nat → Hp → Prop, (∃ m, W 0 m (upd H D (.lst []))) ∧ ∀ i m H, W i m H →
      ((Its z).stop i H ∧ Qd H) ∨ ((Its z).go i H ∧ ∃ Nx : Hp → Prop, (∀ H', Nx H' → ∃ m', m' < m ∧ W (i + 1) m' H') ∧ ∀ x H', (Its z).yld i H x H' → g x (wipe σ vs) H' fun σ2 H2 => wipe σ2 vs = wipe σ vs ∧ tYes σ2 H2 fun b H3 =>
        if b = true then te σ2 H3 fun y H4 => ∃ acc, H4 D = some (.lst acc) ∧ acc.length < sizeLine ∧ Nx (upd H4 D (.lst (acc ++ [y]))) else Nx H3) := by
  have hsz : z.cps.size = (sg z).length := by simp [sg]
  refine lc_it (walk_str (z := z)) (fun i H' => Same H H' ∧ H' D = some (.lst (((sg z).take i).map f))) ⟨same_new hD _, upd_same⟩ (fun _ _ _ _ => True.intro) ?_ (fun H' h => hq H' h.1 (by rw [hsz] at h; rw [h.2, List.take_length]))
  rintro i x H1 H2 hi ⟨g1, g2⟩ ⟨rfl, c, hc, rfl⟩
  have hc' : (sg z)[i]? = some c := by simpa [sg] using hc
  refine helt c H2 _ (List.mem_of_getElem? hc') g1 ⟨_, g2, ?_, fun b o q => ?_, ?_⟩
  · have : (((sg z).take i).map f).length ≤ z.length := by simp [sg, Str.length]; omega
    exact Nat.lt_of_le_of_lt (Nat.le_trans this hz) (by decide)
  · rw [upd_ne (ne_of_none q hD)]
    exact g1 b o q
  · rw [upd_same, List.take_add_one, hc']
    simp
end Fp
/-! The mirror of the reading of programs' texts -/
namespace Fp
open PySem PySem.Spec PyProof.Rows L2
def LET : Str := "abcdefghijklmnopqrstuvwxyz"
def FIG : Str := "0123456789"
def isLet (c : Nat) : Bool := decide (c ∈ sg LET)
def isFig (c : Nat) : Bool := decide (c ∈ sg FIG)
def isName (w : Str) : Bool := decide (1 ≤ w.length ∧ w.length ≤ 8) && ((match sg w with | c :: _ => isLet c | [] => false) && (sg w).all fun c => isLet c || isFig c)
def optI : Option Int → V
  | none => .non
  | some i => .int i
def isNeg (w : Str) : Bool := match sg w with | 45 :: _ => true | _ => false
def figsL (w : Str) : List Nat := if isNeg w then (sg w).tail else sg w
def intIn (w : Str) : Option Int :=
  if figsL w = [] ∨ 4000 < (figsL w).length then none
  else if (figsL w).all isFig = false then none
  else if (figsL w).head? = some 48 ∧ sg w ≠ [48] then none
  else some (if isNeg w then -((NumText.digitsVal (figsL w) : Nat) : Int) else ((NumText.digitsVal (figsL w) : Nat) : Int))
def numIn (w : Str) (lo hi : Int) : Option Int := match intIn w with
  | some n => if lo ≤ n ∧ n ≤ hi then some n else none
  | none => none
def GIVEN : List Str := ["mine", "me", "many"]
def LINES : List Str := ["hands", "keep", "write", "look", "wait", "if", "else", "again", "end", "ask", "say"]
def BTERM : List (Str × Str) := [("row", "K"), ("part", "EE"), ("least", "E"), ("greatest", "E"), ("lot", "E"), ("count", "E"), ("plus", "EE"), ("half", "E")]
def BTEST : List (Str × Str) := [("same", "EE"), ("less", "EE"), ("has", "EE"), ("not", "C"), ("and", "CC"), ("or", "CC")]
def isFree (w : Str) : Bool := isName w && !(((decide (w = "none") || GIVEN.any fun y => decide (y = w)) || LINES.any fun y => decide (y = w)) || ((BTERM.lookup w).isSome || (BTEST.lookup w).isSome))
/-- a token: its word, what it has -/
abbrev TokD := Str × V
def plainTok (w : Str) : Option (TokD × Str) :=
  if w = "none" ∨ (numIn w (-99) 99).isSome = true then some (("value", optI (numIn w (-99) 99)), "")
  else if (GIVEN.any fun y => decide (y = w)) = true ∨ isFree w = true then some (("name", .str w), "")
  else none
def tokIn (w sort : Str) : Option (Option TokD × Str) :=
  if sort = "K" then match numIn w 0 6 with
    | none => none
    | some n => some (some ("row", .int n), Txt.mul "E" n)
  else match (if sort = "C" then BTEST.lookup w else BTERM.lookup w) with
    | some b => some (if w = "row" then none else some (w, .int b.length), b)
    | none => if sort = "C" then none else (plainTok w).map fun p => (some p.1, p.2)
def signsL (z : Str) : List Str := (sg z).map fun c => ⟨#[c]⟩
def termLoop : List Str → List Str → List TokD → Option (List Str × List TokD)
  | [], wanted, toks => some (wanted, toks)
  | w :: ws, wanted, toks => match wanted.getLast? with
    | none => none
    | some s => match tokIn w s with
      | none => none
      | some (t, b) => termLoop ws (wanted.dropLast ++ signsL b) (toks ++ t.toList)
def termIn (ws : List Str) (sort : Str) : Option (List TokD) := match termLoop ws [sort] [] with
  | some ([], toks) => some toks
  | _ => none
/-! ### the mirror's facts -/
theorem isFig_iff (c : Nat) : isFig c = true ↔ 48 ≤ c ∧ c ≤ 57 := by
  unfold isFig
  have e : sg FIG = [48, 49, 50, 51, 52, 53, 54, 55, 56, 57] := by decide +kernel
  rw [e, decide_eq_true_iff]
  simp
  omega
theorem intIn_text {w : Str} {n : Int} (h : intIn w = some n) (hl : w.length ≤ 640) : PySem.intText? w = some n := by
  unfold intIn at h
  split at h
  · cases h
  rename_i h1
  split at h
  · cases h
  rename_i h2
  split at h
  · cases h
  rename_i h3
  have hd : NumText.AllDigits (figsL w) := fun c hc => by
    have := List.all_eq_true.mp (by simpa using h2) c hc
    exact (isFig_iff c).mp this
  have hne : figsL w ≠ [] := fun z => h1 (.inl z)
  by_cases hneg : isNeg w = true
  · have e1 : ∃ r, sg w = 45 :: r := by
      unfold isNeg at hneg
      split at hneg
      · exact ⟨_, by assumption⟩
      · cases hneg
    obtain ⟨r, hr⟩ := e1
    have e2 : figsL w = r := by unfold figsL; rw [if_pos hneg, hr]; rfl
    rw [e2] at hd hne h
    rw [if_pos hneg] at h
    rw [PySem.intText_neg hr hd hne (by omega)]
    exact h
  · have e2 : figsL w = sg w := by unfold figsL; rw [if_neg hneg]
    rw [e2] at hd hne h
    rw [if_neg hneg] at h
    rw [PySem.intText_digits hd hne (by omega)]
    exact h
end Fp
/-! small words that enter a reading -/
namespace Fp
open PySem PySem.Spec PyProof.Rows L2
theorem g_set {i : Nat} {v : V} {σ : L2.St} {H : Hp} {k : L2.St → Hp → Prop} (h : k (σ.set i (some v)) H) : gName i v σ H k := h
theorem yes_in {σ : L2.St} {H : Hp} {A B : Hp → Prop} (h : A H) : tYes σ H fun b H3 => if b = true then A H3 else B H3 := by
  show if true = true then A H else B H
  exact iteT h
theorem nx_in {f b c : L2.St → Hp → Prop} {r : VK} {σ : L2.St} {H : Hp} (h : f σ H) : ({ nx := f, rt := r, bk := b, ct := c } : Ends).nx σ H := h
theorem next_in {D : Ends} {σ : L2.St} {H : Hp} (h : D.nx σ H) : tNext D σ H := h
theorem seq_in {a b : TS} {D : Ends} {σ : L2.St} {H : Hp} (h : a { nx := b D, rt := D.rt, bk := D.bk, ct := D.ct } σ H) : tSeq a b D σ H := h
theorem asg_in {te : TE} {g : TG} {D : Ends} {σ : L2.St} {H : Hp} (h : te σ H fun v H1 => g v σ H1 fun σ2 H2 => D.nx σ2 H2) : tAsg te g D σ H := h
theorem op_in {r : R2} {ta tb : TE} {σ : L2.St} {H : Hp} {Q : VK} (h : ta σ H fun x H1 => tb σ H1 fun y H2 => r x y H2 Q) : tOp r ta tb σ H Q := h
theorem if_not {te : TE} {a b : TS} {D : Ends} {σ : L2.St} {H : Hp} (h : te σ H fun v H1 => ∃ c, v = .bl c ∧ if (!c) = true then a D σ H1 else b D σ H1) : tIfS (tNot (tB te)) a b D σ H := h
theorem ret_in {te : TE} {D : Ends} {σ : L2.St} {H : Hp} (h : te σ H D.rt) : tRet te D σ H := h
/-- what stands behind a statement, once for all its ways -/
theorem cut_nx {t : TS} {D : Ends} {σ : L2.St} {H : Hp} (R : Hp → Prop) (h : ∀ H1, R H1 → D.nx σ H1) (g : (∀ H1, R H1 → D.nx σ H1) → t D σ H) : t D σ H := g h
end Fp
namespace Fp
open PySem PySem.Spec PyProof.Rows L2
/-! ### methods with their promises -/
section
variable {X : Cx} {k i : Nat} {x m : Str} {p pos apos : Pos} {e o : Expr} {es : List Expr} {t : TA} {ta : TE} {C : Addr} {ps : List Str} {sp : Sp}
structure Md (P : Program) (w : World) (K : PySem.W.Frag) (mg : Str → Option Value) (base : Heap) (CX : CXT) (C : Addr) (m : Str) (k : Nat) (ps : List Str) (sp : Sp) : Prop where
  ex : ∃ (f : Addr) (fd : FuncData), Meth K C m f ∧ Binds K fd ps [] ∧ FnOk P w K mg base CX k f fd ps sp
theorem pe_md {pl : Sem Bool} (he : PE X o ta) (c : Cls X.K C) (M : Md X.prog X.w X.K X.mg X.base CX0 C m k ps sp) (hr : Room k X.A) (ha : PA X (e :: es) t)
    (hst : starEach (e :: es) X.env = (false, eval e X.env) :: starEach es X.env := by rfl) (hpl : (backTo pos (starEach es X.env)).any (·.1) = false := by rfl)
    (ht : eval (.Call (.Attribute o m apos) (e :: es) [] pos) X.env = (do
      let ov ← eval o X.env
      standAt apos.atName
      let (f, first) ← holding [ov] (getMethod ov m pl)
      callWith pos f first (backTo pos (starEach (e :: es) X.env)) (backToKw pos (keywordEach [] X.env))) := by rfl) :
    PE X (.Call (.Attribute o m apos) (e :: es) [] pos) (tMeth C m sp [] E0 ta t) := by
  obtain ⟨f, fd, h1, h2, h3⟩ := M.ex
  exact pe_meth he c h1 h3 hr h2 .nil pass0 ha hst hpl ht
theorem pe_md0 {pl : Sem Bool} (he : PE X o ta) (c : Cls X.K C) (M : Md X.prog X.w X.K X.mg X.base CX0 C m k ps sp) (hr : Room k X.A)
    (ht : eval (.Call (.Attribute o m apos) [] [] pos) X.env = (do
      let ov ← eval o X.env
      standAt apos.atName
      let (f, first) ← holding [ov] (getMethod ov m pl)
      callWith pos f first (backTo pos (starEach [] X.env)) (backToKw pos (keywordEach [] X.env))) := by rfl) :
    PE X (.Call (.Attribute o m apos) [] [] pos) (tMeth C m sp [] E0 ta tNil) := by
  obtain ⟨f, fd, h1, h2, h3⟩ := M.ex
  exact pe_meth0 he c h1 h3 hr h2 .nil pass0 ht
end
/-- a statement that is never reached -/
theorem ps_no {X : Cx} {st : Stmt} : PS X st (fun _ _ _ => False) := ⟨fun _ _ _ _ _ _ h => h.elim⟩
/-! ### a class of the module, made with its promise -/
structure MkC (P : Program) (w : World) (K : PySem.W.Frag) (mg : Str → Option Value) (base : Heap) (x : Str) (C : Addr) (k : Nat) (ps : List Str) (sp : Sp) : Prop where
  at_ : mg x = some (.ref C)
  ex : ∃ (f : Addr) (fd : FuncData), Mk K C f ∧ Binds K fd ps [] ∧ FnOk P w K mg base CX0 k f fd ps sp
section
variable {X : Cx} {x : Str} {k : Nat} {ps : List Str} {sp : Sp} {C : Addr} {e : Expr} {es : List Expr} {t : TA} {p pos : Pos}
theorem pe_mk0 (M : MkC X.prog X.w X.K X.mg X.base x C k ps sp) (hr : Room (k + 1) X.A) (hg : Gl X x) (hdb : (x == ("__debug__" : Str)) = false := by decide) : PE X (.Call (.Name x p) [] [] pos) (tMake C sp [] E0 tNil) := by
  obtain ⟨f, fd, h1, h2, h3⟩ := M.ex
  exact pe_make0 h1 h3 hr hg M.at_ h2 .nil pass0 hdb
theorem pe_mk (M : MkC X.prog X.w X.K X.mg X.base x C k ps sp) (hr : Room (k + 1) X.A) (hg : Gl X x) (ha : PA X (e :: es) t) (hdb : (x == ("__debug__" : Str)) = false := by decide)
    (he : starEach (e :: es) X.env = (false, eval e X.env) :: starEach es X.env := by rfl) (hpl : (backTo pos (starEach es X.env)).any (·.1) = false := by rfl) : PE X (.Call (.Name x p) (e :: es) [] pos) (tMake C sp [] E0 t) := by
  obtain ⟨f, fd, h1, h2, h3⟩ := M.ex
  exact pe_make h1 h3 hr hg M.at_ h2 .nil pass0 ha hdb he hpl
end
/-! ### x == y, x != y by an own __eq__ (no own __ne__) -/
section
open PySem.W
variable {prog : Program} {w : World} {A : Around} {E : Value → Shared → Prop} {s : Shared} {K : Frag} {x C L f : Addr} {h₀ : Heap} {m : Str → Option Value} {ox : Obj} {od : Option Obj} {b tb : Value}
theorem tryNe_K {Q : Option Value → Shared → Prop} (hu : A.units + 1 < cLine) (X : K.In s.heap) (I : InstAt s.heap x ox C od) (hne : findIn K (.ref C) "__ne__" = some (some (.builtin "object.__ne__"))) (top : mroIn K C (.type "object") = some true)
    (hs : findIn K (.ref C) "__eq__" = some (some (.ref f))) (hf : isFn K (.ref f) = true)
    (h : wpAny (model prog w) A.in1 (call (.ref f) [.ref x, b]) (fun v s' => ∃ k, v = .bool k ∧ Q (some (.bool (!k))) s') E s) : wpAny (model prog w) A (tryCompare (.ref x) "__ne__" b) Q E s := by
  have inner : ∀ (A' : Around) (hu' : A'.units < cLine) (E' : Value → Shared → Prop) (Q' : Fin → Shared → Prop), wpAny (model prog w) A' (call (.ref f) [.ref x, b]) (fun v s' => ∃ k, v = .bool k ∧ Q' (.done (.ret (.bool (!k)))) s') E' s →
      wpAny (model prog w) A' (Builtin.«object.__ne__» ⟨[.ref x, b], []⟩) Q' E' s := by
    intro A' hu' E' Q' h'
    unfold Builtin.«object.__ne__»
    repeat (first
      | with_reducible refine wpAny_cRoomFor hu' ?_
      | (refine wpAny_bind (m := callSpecialIfBound? (.ref x) (Str.ofString "__eq__") [b])
          (ifBound_K X I hs hf (wpAny_mono h' (fun r s' hr => by
            obtain ⟨k, rfl, hq⟩ := hr
            repeat (first | exact hq | exact wpAny_pure hq | exact wpAny_truthy_bool hq | (refine wpAny_bind (m := truthy (.bool _)) (wpAny_truthy_bool ?_)) | wp_step)) fun _ _ e => e)))
      | wp_step)
  have hi : Looks (model prog w) s.heap (isInstance (.ref x) (.type "object")) true := I.type.andThen (looks_mroIn X top)
  have S := F.slot_object_ne
  have done : ∀ (Q' : Value → Shared → Prop), wpAny (model prog w) A.in1 (call (.ref f) [.ref x, b]) (fun v s' => ∃ k, v = .bool k ∧ Q' (.bool (!k)) s') E s → wpAny (model prog w) A (call (.builtin "object.__ne__") [.ref x, b]) Q' E s := by
    intro Q' h'
    refine wpAny_call (codeAny_call_builtin S.plain PySem.F.cmpEntry_ne (check_slot PySem.F.cmpKind_ne PySem.F.cmpSplit_ne hi (PySem.F.cmpArgs_ne _ _) (inner A.in1 hu _ _ (wpAny_mono h' (fun v s' hv => ?_) fun _ _ e => e))))
    obtain ⟨k, rfl, hq⟩ := hv
    exact ⟨k, rfl, hq⟩
  have one : wpAny (model prog w) A (callSpecialIfBound? (.ref x) "__ne__" [b]) (fun r s' => ∃ k, r = some (.bool k) ∧ Q (some (.bool k)) s') E s := by
    simp only [callSpecialIfBound?, bindSpecialIfBound?]
    refine wpAny_holding (wpAny_bind (wpAny_bind (wpAny_bind (I.type.here ((looks_findIn X hne).here ?_)))))
    refine wpAny_bind (wpAny_askSetting (wpAny_ite ?_))
    have fin : wpAny (model prog w) A (call (.builtin "object.__ne__") ([.ref x] ++ [b]) >>= fun v => pure (some v)) (fun r s' => ∃ k, r = some (.bool k) ∧ Q (some (.bool k)) s') E s :=
      wpAny_bind (done _ (wpAny_mono h (fun v s' hv => by
        obtain ⟨k, rfl, hq⟩ := hv
        exact ⟨k, rfl, wpAny_pure ⟨_, rfl, hq⟩⟩) fun _ _ e => e))
    rw [S.bind]
    split
    · exact wpAny_bind (wpAny_pure (wpAny_pure fin))
    · exact wpAny_tryCatch (wpAny_bind (wpAny_pure (wpAny_pure fin)))
  unfold tryCompare
  refine wpAny_bind (wpAny_mono one (fun r s' z => ?_) fun _ _ e => e)
  obtain ⟨k, rfl, hq⟩ := z
  exact wpAny_pure hq
theorem ne_K {Q : Value → Shared → Prop} (hu : A.units + 1 < cLine) (F : Fr h₀ L s.heap m) (X₀ : K.In h₀) (I : InstAt s.heap x ox C od) (hb : Looks (model prog w) s.heap (typeOf b) tb) (hn : notFirst K C tb = true)
    (hne : findIn K (.ref C) "__ne__" = some (some (.builtin "object.__ne__"))) (top : mroIn K C (.type "object") = some true) (hs : findIn K (.ref C) "__eq__" = some (some (.ref f))) (hf : isFn K (.ref f) = true)
    (h : wpAny (model prog w) A.in1 (call (.ref f) [.ref x, b]) (fun v s' => ∃ k, v = .bool k ∧ Q (.bool (!k)) s') E s) : wpAny (model prog w) A (richCompare .NotEq (.ref x) b) Q E s := by
  have X := X₀.keeps F.keep
  have one : wpAny (model prog w) A (tryCompare (.ref x) "__ne__" b) (fun r s' => ∃ v, r = some v ∧ Q v s') E s :=
    tryNe_K hu X I hne top hs hf (wpAny_mono h (fun v s' hv => by
      obtain ⟨k, rfl, hq⟩ := hv
      exact ⟨k, rfl, _, rfl, hq⟩) fun _ _ e => e)
  unfold richCompare
  simp only [oneThing_ref]
  refine wpAny_holding (wpAny_bind (wpAny_cRoomFor (Nat.lt_of_succ_lt hu) ?_))
  refine wpAny_bind (I.type.here (wpAny_bind (hb.here ?_)))
  split
  · rename_i q
    have e : subIn K tb (.ref C) = some false := by
      rcases Bool.or_eq_true_iff.mp hn with e | e
      · rw [beq_iff_eq.mp e] at q; simp at q
      · exact beq_iff_eq.mp e
    refine wpAny_bind ((looks_subIn X e).here ?_)
    simp only [Bool.false_eq_true, if_false]
    refine wpAny_bind (wpAny_mono one (fun r s' z => ?_) fun _ _ e => e)
    obtain ⟨v, rfl, hq⟩ := z
    exact wpAny_pure hq
  · refine wpAny_bind (wpAny_pure ?_)
    simp only [Bool.false_eq_true, if_false]
    refine wpAny_bind (wpAny_mono one (fun r s' z => ?_) fun _ _ e => e)
    obtain ⟨v, rfl, hq⟩ := z
    exact wpAny_pure hq
end
/-- what a class with an own == must have -/
structure EqC (P : Program) (w : World) (K : PySem.W.Frag) (mg : Str → Option Value) (base : Heap) (C : Addr) (n : Nat) (ps : List Str) (sp : Sp) : Prop where
  ex : ∃ (f : Addr) (fd : FuncData), PySem.W.findIn K (.ref C) "__eq__" = some (some (.ref f)) ∧ PySem.W.isFn K (.ref f) = true ∧ Binds K fd ps [] ∧ FnOk P w K mg base CX0 n f fd ps sp
  ne : PySem.W.findIn K (.ref C) "__ne__" = some (some (.builtin "object.__ne__"))
  top : PySem.W.mroIn K C (.type "object") = some true
def rEqO (K : PySem.W.Frag) (C : Addr) (sp : Sp) (neg : Bool) : R2 := fun x y H Q => ∃ (a dx : Addr) (fs : List (Str × V)) (t : Value), x = .ref a ∧ H a = some (.ins C dx fs) ∧ TyX K H y t ∧ PySem.W.notFirst K C t = true ∧
  sp [x, y] H (fun v H' => ∃ b, v = .bl b ∧ Q (.bl (if neg then !b else b)) H') E0
section
variable {X : Cx} {C : Addr} {n : Nat} {ps : List Str} {sp : Sp}
theorem op_eqO (M : EqC X.prog X.w X.K X.mg X.base C n ps sp) (hr : Room n X.A) : OpR X (compareOp .Eq) (rEqO X.K C sp false) := by
  intro pins s σ H x y v u Q I rx ry h
  obtain ⟨a, dx, fs, t, rfl, ha, ty, hn, q⟩ := h
  cases rx
  obtain ⟨f, fd, hs, hf, hb, F⟩ := M.ex
  obtain ⟨mA, J, _⟩ := ins_get I.hok ha
  obtain ⟨od, J, _⟩ := J.look
  obtain ⟨m, hF⟩ := I.fr
  obtain ⟨Pk, Z, pk, _⟩ := kit_of I ry ty
  show wpAny (model X.prog X.w) X.A (richCompare .Eq (.ref a) u) (EP X pins σ Q) X.xe s
  refine PySem.W.cmp_K (op := .Eq) (tb := t) hr.units0 hF I.ok.mod.kin J (Z.ty _ _ I.kIn pk) hn hs hf ?_
  refine wpAny_mono (run_fn (us := [.ref a, u]) (vs := [.ref a, y]) F hr hb .nil pass0 I (.cons rfl (.cons ry .nil)) (show sp ([V.ref a, y] ++ []) H _ E0 from q)) (fun r s' z => ?_) fun _ _ e => e
  obtain ⟨v, H', I', rv, b, rfl, q'⟩ := z
  cases rv
  exact ⟨.bl b, H', I', rfl, q'⟩
theorem op_neO (M : EqC X.prog X.w X.K X.mg X.base C n ps sp) (hr : Room (n + 1) X.A) : OpR X (compareOp .NotEq) (rEqO X.K C sp true) := by
  intro pins s σ H x y v u Q I rx ry h
  obtain ⟨a, dx, fs, t, rfl, ha, ty, hn, q⟩ := h
  cases rx
  obtain ⟨f, fd, hs, hf, hb, F⟩ := M.ex
  obtain ⟨mA, J, _⟩ := ins_get I.hok ha
  obtain ⟨od, J, _⟩ := J.look
  obtain ⟨m, hF⟩ := I.fr
  obtain ⟨Pk, Z, pk, _⟩ := kit_of I ry ty
  show wpAny (model X.prog X.w) X.A (richCompare .NotEq (.ref a) u) (EP X pins σ Q) X.xe s
  refine ne_K (tb := t) (hu_of hr) hF I.ok.mod.kin J (Z.ty _ _ I.kIn pk) hn M.ne M.top hs hf ?_
  have e0 : Env0 X.prog X.w X.K X.mg X.base X.A.in1 X.stack s H := I.env0.in1
  have r2 : Vals ([V.ref a, y] ++ []) ([Value.ref a, u] ++ []) := (Vals.append (.cons rfl (.cons ry .nil)) .nil)
  have hsp : sp ([V.ref a, y] ++ []) H (fun v H' => ∃ b, v = .bl b ∧ Q (.bl (!b)) H') E0 := q
  have hl : ([Value.ref a, u] ++ []).length = ps.length := by rw [← r2.length]; exact F.len _ _ _ _ hsp
  refine wpAny_call (codeAny_mono (F.run X.A.in1 X.stack s H ⟨[.ref a, u], []⟩ _ _ _ E0 hr.in1 e0 (hb s [.ref a, u] I.kIn hl) r2 hsp) fun r s' hq => ?_)
  cases r with
  | error e => exact pass0 pins σ H s e s' I hq
  | ok fl =>
    cases fl with
    | ret u =>
      obtain ⟨v, H', I', rv, b, rfl, q'⟩ := I.after hq
      cases rv
      exact ⟨b, rfl, .bl (!b), H', I', rfl, q'⟩
    | next => exact False.elim hq
    | brk => exact False.elim hq
    | cont => exact False.elim hq
end
end Fp
/-! Defs that may show data: no repr under way -/
namespace L2
open PySem PySem.Spec PyProof.Rows
structure FnOkG (P : Program) (w : World) (K : PySem.W.Frag) (mg : Str → Option Value) (base : Heap) (CX : CXT) (k : Nat) (f : Addr) (fd : FuncData) (ps : List Str) (sp : Sp) : Prop where
  len : ∀ vs H Q E, sp vs H Q E → vs.length = ps.length
  run : ∀ (A : Around) (outer : List Env) (s : Shared) (H : Hp) (args : Args) (us : List Value) (vs : List V) (Q : VK) (E : XK), Room k A → A.guards = some [] → Env0 P w K mg base A outer s H → BindsTo s fd args (ps.zip us) → Vals vs us → sp vs H Q E →
    codeAny (model P w) A (.call (.ref f) args) (CR CX outer P w H s Q E) s
theorem fn_ofG {CX : CXT} {P : Program} {w : World} {K : PySem.W.Frag} {mg : Str → Option Value} {base : Heap} {k : Nat} {f : Addr} {name qual : Str} {params : Arguments} {body : List Stmt} {scope : Scope} {dV kV doc pm cdv ct oc : Value} {an od : Option Addr}
    {osl : Array (Option Value)} {N ps : List Str} {sp : Sp} (lk : K.lookup f = some ⟨oc, od, .func (PySem.W.fnOf name qual params body scope dV kV doc pm an cdv ct), osl⟩) (hcd : PySem.W.codeIn K cdv qual = true) (S : FnScope N ps scope)
    (len : ∀ vs H Q E, sp vs H Q E → vs.length = ps.length)
    (hbody : ∀ (A : Around) (outer : List Env) (s : Shared) (H : Hp) (vs : List V) (Q : VK) (E : XK), Room k (A.deeper (envOfC qual scope s.heap.objs.size f cdv)) → (A.deeper (envOfC qual scope s.heap.objs.size f cdv)).guards = some [] → sp vs H Q E →
      ∃ t, PSs (cxOf CX P w K mg base N qual scope f cdv A outer s H E) body t ∧ t { nx := fun _ H' => Q .non H', rt := Q } (start N vs) H) :
    FnOkG P w K mg base CX (k + 1) f (PySem.W.fnOf name qual params body scope dV kV doc pm an cdv ct) ps sp := by
  refine ⟨len, fun A outer s H args us vs Q E hr hgu e0 hb r hsp => ?_⟩
  have hl := len _ _ _ _ hsp
  have KX : K.In s.heap := e0.mod.kin.keeps fun b o e => (e0.bs b o e).1
  have lim : s.heap.NoLimit := e0.mod.nolimit.keeps fun b o e => (e0.bs b o e).1
  have hkind : ∀ y ∈ ps.zip us, scope.names.lookup y.1 = some .local ∨ (scope.names.lookup y.1 = some .cell ∧ ((cellsFrom (s.heap.objs.size + 1) scope.names []).lookup y.1).isSome = true) := fun ⟨n, v⟩ hy => by
    rcases S.par n (List.of_mem_zip hy).1 with q | q
    · exact .inl q
    · exact .inr ⟨q, PySem.W.cellsFrom_some _ _ _ (.inl q)⟩
  refine codeAny_call_function hr.depth (KX _ _ lk) rfl S.co S.gen rfl (PySem.W.codeRec_of KX hcd) (hb _ _ _ _ ?_)
  refine wpAny_newFunctionEnv_cells S.kind hkind fun env he s1 x => ?_
  subst he
  refine ⟨lim.keeps x.toInCall.keep, codeAny_func ?_⟩
  obtain ⟨t, ht, hq⟩ := hbody A outer s H vs Q E (hr.deeper _) hgu hsp
  have I : Inv (cxOf CX P w K mg base N qual scope f cdv A outer s H E) [] (start N vs) H s1 := inv_start S hr.hd e0 hl r x
  refine wpAny_mono (ht.run [] s1 (start N vs) H _ I hq) (fun fl s' hs => ?_) fun e s' hs => hs
  have fin : ∀ {σ' : St} {H' : Hp} {v : V} {u : Value}, Inv (cxOf CX P w K mg base N qual scope f cdv A outer s H E) [] σ' H' s' → RelV v u → Q v H' → CE outer P w H s Q u s' :=
    fun {σ' H' v u} J rv q => ⟨v, H', J.os, J.bare, J.base, J.hok, rv, q⟩
  cases fl with
  | ret u =>
    obtain ⟨v, σ', H', J, rv, q⟩ := hs
    exact fin J rv q
  | next =>
    obtain ⟨σ', H', J, q⟩ := hs
    exact fin (v := V.non) (u := Value.none) J rfl q
  | brk =>
    obtain ⟨_, _, _, q⟩ := hs
    exact False.elim q
  | cont =>
    obtain ⟨_, _, _, q⟩ := hs
    exact False.elim q
theorem law_callG {P : Program} {w : World} {K : PySem.W.Frag} {mg mb : Str → Option Value} {CX : CXT} {k : Nat} {fa a : Addr} {fd : FuncData} {x : Str} {sp : Sp} {s₁ : Shared} {vs : List Value} {ns : List Int}
    (KX : K.In s₁.heap) (hns : s₁.heap.Ns mainGlobals mg) (hb : s₁.heap.Ns builtinsNs mb) (hbb : ∀ x : Str, x ≠ "__name__" → mb x = bootBuiltins x) (hlim : s₁.heap.NoLimit) (hg : s₁.gens = #[])
    (ha : s₁.heap.get? a = some { cls := .type "list", data := .seq vs.toArray }) (hi : IntsAre vs ns) (hl : ns.length ≤ sizeLine) (hr : Room k callerA)
    (F : ∀ base : Heap, K.In base → base.Ns mainGlobals mg → FnOkG P w K mg base CX k fa fd [x] sp) (hbind : ∀ (s : Shared) (u : Value), BindsTo s fd ⟨[u], []⟩ [(x, u)])
    (hsp : ∀ H : Hp, Only H → SqL K H a (ns.map V.int) → sp [.ref a] H (fun v _ => v = .bl true) fun _ _ _ => False)
    (hCX : ∀ H e s', CX [] H s₁ (fun _ _ _ => False) e s' → False) :
    codeAny (model P w) callerA (.call (.ref fa) ⟨[.ref a], []⟩) (fun r s' => r = .ok (.ret (.bool true)) ∧ OldK s₁.heap s'.heap ∧ s'.os = s₁.os ∧ AllBare s'.gens) s₁ := by
  have rv := vals_ints hi
  have lenV := hi.length
  -- from an abstract heap in which nothing but the script may be tracked
  have core : ∀ H : Hp, Only H → SqL K H a (ns.map V.int) → HOk P w H s₁.heap → (∀ b, H b ≠ none → b = a) → (H a ≠ none → K.lookup a = none) →
      codeAny (model P w) callerA (.call (.ref fa) ⟨[.ref a], []⟩) (fun r s' => r = .ok (.ret (.bool true)) ∧ OldK s₁.heap s'.heap ∧ s'.os = s₁.os ∧ AllBare s'.gens) s₁ := by
    intro H hO hS hok hA hK
    have base_of : ∀ {b : Addr} {o : Obj}, s₁.heap.get? b = some o → H b = none → (hidT s₁.heap H).get? b = some o := fun e n => hidT_get e n
    have noA : ∀ {b : Addr} {o : Obj} {es : Array DictEntry} {ep : Nat}, s₁.heap.get? b = some o → o.data = .dict es ep → H b = none := fun {b o es ep} e d => by
      cases q : H b with
      | none => rfl
      | some u =>
        have e' : b = a := hA b (by rw [q]; simp)
        subst e'
        rw [ha] at e; cases e
        have d' : Data.seq vs.toArray _ = Data.dict es ep := d
        cases d'
    have nsK : ∀ {b : Addr} {m : Str → Option Value}, s₁.heap.Ns b m → (hidT s₁.heap H).Ns b m := fun {b m} ⟨o, es, ep, e, d, r⟩ => ⟨o, es, ep, base_of e (noA e d), d, r⟩
    have hKb : K.In (hidT s₁.heap H) := fun b o e => base_of (KX b o e) (by
      cases q : H b with
      | none => rfl
      | some u =>
        have e' : b = a := hA b (by rw [q]; simp)
        subst e'
        rw [hK (by rw [q]; simp)] at e; cases e)
    have hM : Mod K mg (hidT s₁.heap H) := ⟨hKb, nsK hns, ⟨mb, nsK hb, hbb⟩, let ⟨mc, h1, h2⟩ := hlim; ⟨mc, nsK h1, h2⟩⟩
    have e0 : Env0 P w K mg (hidT s₁.heap H) callerA [] s₁ H := ⟨rfl, hM, fun b o e => of_hidT e, Nat.le_of_eq (hidT_size _ _), trivial, fun b hb => absurd (show b ∈ ([] : List Addr) from hb) (by simp), hok, .of_eq hg⟩
    refine codeAny_mono ((F _ hKb (nsK hns)).run callerA [] s₁ H ⟨[.ref a], []⟩ [.ref a] [.ref a] _ _ hr rfl e0 (hbind s₁ (.ref a)) (.cons rfl .nil) (hsp H hO hS)) fun r s' h => ?_
    cases r with
    | error e => exact (hCX H e s' h).elim
    | ok fl =>
      cases fl with
      | next => exact False.elim h
      | brk => exact False.elim h
      | cont => exact False.elim h
      | ret u =>
        obtain ⟨v, H', os, bare, un, hok', r', q⟩ := h
        have q' : v = .bl true := q
        subst q'
        obtain rfl : u = Value.bool true := r'
        refine ⟨rfl, OldK.of_keep fun b o e => ?_, os, bare⟩
        cases q : H b with
        | none => exact un.keep b o e q (by intro z; exact absurd (show b ∈ ([] : List Addr) from z) (by simp)) (by simp)
        | some u =>
          rcases hO b with z | ⟨ob, xs, z⟩
          · rw [q] at z; cases z
          · have z2 := un.frzs b ob _ z
            obtain ⟨e1, _⟩ := hok b _ z
            obtain ⟨e2, _⟩ := hok' b _ z2
            rw [e] at e1; cases e1
            exact e2
  cases hk : K.lookup a with
  | some o =>
    -- the script is one of the module's own objects
    have e := KX a o hk
    rw [ha] at e
    cases e
    refine core (fun _ => none) (fun _ => .inl rfl) (.inr ⟨_, vs.toArray, _, hk, rfl, rfl, rfl, by rw [List.size_toArray, lenV]; exact hl, by simpa using rv⟩) (fun b u z => by have z' : (none : Option HO) = some u := z; cases z') (fun b z => absurd rfl z) fun z => absurd rfl z
  | none =>
    refine core (fun b => if b = a then some (.frz { cls := .type "list", data := .seq vs.toArray } (.lst (ns.map V.int))) else none) (fun b => ?_) (.inl (.inr ⟨{ cls := .type "list", data := .seq vs.toArray }, if_pos rfl⟩)) (fun b u z => ?_) (fun b z => ?_) fun _ => hk
    · by_cases hb : b = a
      · exact .inr ⟨_, _, if_pos hb⟩
      · exact .inl (if_neg hb)
    · by_cases hb : b = a
      · have z' := (if_pos hb).symm.trans z
        cases z'
        subst hb
        exact ⟨ha, by rw [List.length_map]; exact hl, vs, _, rv, ha⟩
      · have z' := (if_neg hb).symm.trans z
        cases z'
    · by_cases hb : b = a
      · exact hb
      · exact absurd (if_neg hb) z
theorem walk_ofG {l : PySem.W.OpenLaw} {n k : Nat} {q : Program} {loose : List Str} {XP : (Str → Option Value) → Heap → Prop} {YP : World → Heap → Prop} {d : DefRec} {K : Params → PySem.W.Frag} {CX : World → CXT} {sp : World → Sp} {x : Str}
    (hn : l.most = some n) (hn2 : n ≤ sizeLine) (hdf : d.params.defaults = []) (hr : Room k callerA)
    (hY : ∀ (w : World) (h : Heap), YP w h → (K w.params).In h)
    (F : ∀ (w : World) (mg : Str → Option Value) (fa : Addr) (h : Heap), (K w.params).In h → h.Ns mainGlobals mg → mg d.name = some (.ref fa) →
      ∃ fd : FuncData, (∀ (s : Shared) (u : Value), BindsTo s fd ⟨[u], []⟩ [(x, u)]) ∧
        ∀ base : Heap, (K w.params).In base → base.Ns mainGlobals mg → FnOkG l.prog w (K w.params) mg base (CX w) k fa fd [x] (sp w))
    (hsp : ∀ (w : World) (H : Hp) (a : Addr) (ns : List Int), ns.length ≤ n → Only H → SqL (K w.params) H a (ns.map V.int) → sp w [.ref a] H (fun v _ => v = .bl true) fun _ _ _ => False)
    (hCX : ∀ (w : World) (H : Hp) (s : Shared) (e : Value) (s' : Shared), CX w [] H s (fun _ _ _ => False) e s' → False) :
    PySem.W.WalkO q loose XP YP l.row.toRowW d [] (fun f vs => PySem.call f vs) := by
  refine Att.attach_call hn hdf fun w s₀ s₁ mg mb fa o pm cd doc a vs ns G Y ho hd hcd hmg hobj hints hlen hg => ?_
  have KX := hY w _ Y
  obtain ⟨fd, hb, hF⟩ := F w mg fa _ KX G.T.g hmg
  exact law_callG KX G.T.g G.T.b G.T.builtins G.T.nolimit hg hobj hints (Nat.le_trans hlen hn2) hr hF hb (fun H hO hS => hsp w H a ns hlen hO hS) fun H e s' => hCX w H s₁ e s'
theorem FnOk.toG {P : Program} {w : World} {K : PySem.W.Frag} {mg : Str → Option Value} {base : Heap} {CX : CXT} {k : Nat} {f : Addr} {fd : FuncData} {ps : List Str} {sp : Sp} (F : FnOk P w K mg base CX k f fd ps sp) : FnOkG P w K mg base CX k f fd ps sp :=
  ⟨F.len, fun A outer s H args us vs Q E hr _ => F.run A outer s H args us vs Q E hr⟩
end L2
namespace Fp
open PySem PySem.Spec PyProof.Rows L2
section
variable {P : Program} {w : World} {K : PySem.W.Frag} {mg : Str → Option Value} {base : Heap}
theorem fun_okG {x qual : Str} {st : Stmt} {f : Addr} {fd : FuncData} {N ps : List Str} {k : Nat} {sp : Sp} (F : Fun K x qual st f fd) (S : FnScope N ps (defScope st)) (len : ∀ vs H Q E, sp vs H Q E → vs.length = ps.length)
    (hbody : ∀ (cdv : Value) (A : Around) (outer : List Env) (s : Shared) (H : Hp) (vs : List V) (Q : VK) (E : XK), Room k (A.deeper (envOfC qual (defScope st) s.heap.objs.size f cdv)) → (A.deeper (envOfC qual (defScope st) s.heap.objs.size f cdv)).guards = some [] → sp vs H Q E →
      ∃ t, PSs (cxOf CX0 P w K mg base N qual (defScope st) f cdv A outer s H E).nox (defBody st) t ∧ t { nx := fun _ H' => Q .non H', rt := Q } (start N vs) H) : FnOkG P w K mg base CX0 (k + 1) f fd ps sp := by
  obtain ⟨oc, od, kV, doc, pm, an, cdv, ct, osl, rfl, lk, hcd⟩ := F.ex
  refine fn_ofG lk hcd S len fun A outer s H vs Q E hr hg hsp => ?_
  obtain ⟨t, h, q⟩ := hbody cdv A outer s H vs Q E hr hg hsp
  exact ⟨t, h.nox, q⟩
structure FdG (P : Program) (w : World) (K : PySem.W.Frag) (mg : Str → Option Value) (base : Heap) (CX : CXT) (x : Str) (k : Nat) (ps : List Str) (sp : Sp) : Prop where
  ex : ∃ (f : Addr) (fd : FuncData), mg x = some (.ref f) ∧ PySem.W.keepIn K (.ref f) = true ∧ Binds K fd ps [] ∧ FnOkG P w K mg base CX k f fd ps sp
end
section
variable {X : Cx} {x : Str} {k : Nat} {ps : List Str} {sp : Sp} {e : Expr} {es : List Expr} {t : TA} {p pos : Pos}
theorem pe_fdG (G : FdG X.prog X.w X.K X.mg X.base CX0 x k ps sp) (hr : Room k X.A) (hgu : X.A.guards = some []) (hg : Gl X x) (ha : PA X (e :: es) t) (hdb : (x == ("__debug__" : Str)) = false := by decide)
    (he : starEach (e :: es) X.env = (false, eval e X.env) :: starEach es X.env := by rfl) (hpl : (backTo pos (starEach es X.env)).any (·.1) = false := by rfl) :
    PE X (.Call (.Name x p) (e :: es) [] pos) (tCall sp [] E0 t) := by
  obtain ⟨f, fd, hm, hk, hb, F⟩ := G.ex
  refine ⟨fun pins s σ H Q I h => ?_⟩
  refine wpAny_Call_Name_kw (ld_glob I hg hm ?_ hdb)
  refine PySem.W.callWith_K (h₀ := X.base) I.ok.mod.kin hk (thn (ha.run pos pins s σ H _ I h) fun us s1 ⟨vs, H1, I1, r, q⟩ => ⟨I1.kIn, ?_⟩) he hpl
  have r2 : Vals (vs ++ []) (us ++ []) := r.append .nil
  have hl : (us ++ []).length = ps.length := by rw [← r2.length]; exact F.len _ _ _ _ q
  refine wpAny_call (codeAny_mono (F.run X.A X.stack s1 H1 ⟨us, []⟩ (us ++ []) (vs ++ []) Q E0 hr hgu I1.env0 (hb s1 us I1.kIn hl) r2 q) fun r s' hq => ?_)
  cases r with
  | error e => exact pass0 pins σ H1 s1 e s' I1 hq
  | ok fl =>
    cases fl with
    | ret u => exact I1.after hq
    | next => exact False.elim hq
    | brk => exact False.elim hq
    | cont => exact False.elim hq
/-- repr(x), x of data -/
theorem call_reprG (hgu : X.A.guards = some []) (hu : X.A.units + 64 < cLine) : CallR X (.builtin "repr") (fun xs H Q => ∃ (p : Addr) (d : PyData), xs = [.ref p] ∧ Dp X.K H (.ref p) d ∧ d.showable = true ∧ d.hasDict = false ∧ d.depth ≤ 60 ∧ d.shown.length ≤ sizeLine ∧ Q (.str d.shown) H) := by
  intro pins s σ H xs us Q I r h
  obtain ⟨p, d, rfl, hd, h1, h2, h3, h4, q⟩ := h
  obtain ⟨u, rfl, rx⟩ := vals1 r
  obtain ⟨as, rd⟩ := Dp.reads I d _ u hd rx
  cases rx
  exact repr_of_reads' rd h1 (fun z => by rw [h2] at z; cases z) hgu (by omega) (fun _ _ z => z) (fun h' u tk k => ⟨.str d.shown, H, I.kept (t' := tk) k, ⟨_, rfl⟩, q⟩) h4
end
end Fp
namespace Fp
open PySem PySem.Spec PyProof.Rows L2
/-! ### for i, x in enumerate(tuple, start) -/
def ItF (K : PySem.W.Frag) (a : Addr) (lo : Int) : It :=
  ⟨fun i H => ∃ (ys : List V) (y : V), SqT K H a ys ∧ ys[i]? = some y,
   fun i H v H' => ∃ T y, v = .ref T ∧ H T = none ∧ H' = upd H T (.tup [.int (lo + (i : Nat)), y]) ∧ ∀ ys, SqT K H a ys → ys[i]? = some y,
   fun i H => ∃ ys : List V, SqT K H a ys ∧ ys.length ≤ i⟩
theorem turn_enumF {P : Program} {w : World} {K : PySem.W.Frag} {elts : List Expr} {kk : Nat} {tpos : Pos} (a e it : Addr) (lo : Int) :
    Turn P w K (.Tuple elts kk tpos) (ItF K a lo) [e, it] e (fun i h => (∃ was, IsEnum h e it (lo + ((i : Nat) : Int)) was) ∧ h.IsTupleIter it a i ∧ e ≠ it) where
  mem := List.mem_cons_self
  obj := fun i h st b hb => by
    obtain ⟨⟨was, he⟩, ⟨o, ho, hc, hd⟩, _⟩ := st
    rcases List.mem_cons.mp hb with z | z
    · subst z
      exact ⟨_, he, fun v q => nomatch q⟩
    · have z' := List.mem_singleton.mp z
      subst z'
      exact ⟨o, ho, fun v q => by rw [hd] at q; cases q⟩
  keep := fun i h h' st k => ⟨st.1.imp fun was he => k e (by simp) _ he, st.2.1.at fun o q => k it (by simp) o q, st.2.2⟩
  item := by
    intro X hP hw hK hc i pins s σ H E I hf st hg
    subst hP hw hK
    obtain ⟨⟨was, he⟩, hit, hne⟩ := st
    obtain ⟨ys, y, hq, hx⟩ := hg
    obtain ⟨its, rv, lp, hz⟩ := I.tuple hq
    obtain ⟨u, hu, ru⟩ := rv.get hx
    have le : e < s.heap.objs.size := Heap.lt_size he
    have li : it < s.heap.objs.size := by
      obtain ⟨_, q, _⟩ := hit
      exact Heap.lt_size q
    have fr := I.hok.fresh (Nat.le_refl s.heap.objs.size)
    have hL := lp
    have nel : e ≠ a := fun z => by
      obtain ⟨o, ho, hc', _⟩ := hL
      rw [← z, (show s.heap.get? e = some _ from he)] at ho
      cases ho
      injection hc' with z'
      exact absurd z' (by decide)
    have nil' : a ≠ it := fun z => by
      obtain ⟨o, ho, hc', _⟩ := hL
      obtain ⟨o2, ho2, hc2, _⟩ := hit
      rw [z, ho2] at ho
      cases ho
      rw [hc2] at hc'
      injection hc' with z'
      exact absurd z' (by decide)
    have hiu : its.toArray[i]? = some u := by simpa using hu
    have hlt : i < its.toArray.size := by
      by_cases z : i < its.toArray.size
      · exact z
      · rw [Array.getElem?_eq_none (by omega)] at hiu
        cases hiu
    refine wpAny_pyNext_enum_itemC (Draws.tuple (A := X.A.in1) (I.ok.hd hc) it a nil' its.toArray) he ⟨hit, hL⟩ hlt hne (by simp [hne, nel]) fun x h1 tk hx1 ho hst1 hT hsz hk => ⟨_, rfl, ?_⟩
    rw [hiu] at hx1
    cases hx1
    have hit1 := hst1.1
    refine wpAny_letOwnedTupleGo_enum (s := { s with heap := h1, toks := tk + 1 }) ho fun h2 he2 sb => ?_
    have hT2 := (sb.2 _ (Nat.ne_of_gt le)).trans hT
    have mem2 : ∀ {b : Addr}, b ∈ [e, it] → b < s.heap.objs.size := fun {b} hb => by
      rcases List.mem_cons.mp hb with z | z
      · rw [z]; exact le
      · rw [List.mem_singleton.mp z]; exact li
    refine ⟨.ref s.heap.objs.size, upd H s.heap.objs.size (.tup [.int (lo + (i : Nat)), y]), ?_, rfl, ⟨_, y, rfl, fr, rfl, fun zs hy => by rw [I.tuple_inj hy hq]; exact hx⟩, ⟨⟨u, ?_⟩, hit1.at fun o q => (sb.2 it (Ne.symm hne)).trans q, hne⟩, fun b hb => ?_⟩
    · refine I.turnedNew (ch := [e, it]) (fun b ob hb q => ?_) hf (Nat.le_refl _) ⟨by show 2 ≤ sizeLine; decide, [.int (lo + (i : Nat)) tk, u], .cons ⟨_, rfl⟩ (.cons ru .nil), ⟨_, hT2, rfl, _, rfl⟩⟩
      have be : b ≠ e := fun z => hb (by simp [z])
      have bi : b ≠ it := fun z => hb (by simp [z])
      exact (sb.2 b be).trans (hk b ob be bi q)
    · have e1 : lo + (((i + 1 : Nat)) : Int) = lo + (i : Int) + 1 := by omega
      rw [e1]
      exact he2
    · rw [upd_ne (Nat.ne_of_lt (mem2 hb))]
      exact (hf b hb).1
  done := by
    intro X hP hw hK hc i pins s σ H E I hf st hg
    subst hP hw hK
    obtain ⟨⟨was, he⟩, hit, hne⟩ := st
    obtain ⟨ys, hq, hx⟩ := hg
    obtain ⟨its, rv, lp, hz⟩ := I.tuple hq
    obtain ⟨f0, f1, f2, f3, f4, f5⟩ := hf it (by simp)
    have hl := rv.length
    have D : Draws X.prog X.w X.A.in1 it [it, a] i (fun _ _ => False) (fun j h => j = i ∧ h.IsTupleIter it a i ∧ h.IsTuple a its.toArray) := {
      live := fun j h st => by
        obtain ⟨_, ⟨o, ho, _⟩, _⟩ := st
        exact ⟨o, ho⟩
      frame := fun j h h' st k => ⟨st.1, st.2.1.at fun o q => k it (by simp) o q, st.2.2.at fun o q => k a (by simp) o q⟩
      item := fun j s Q E hj st _ => by
        have := st.1
        omega
      done := fun s Q E st hE => wpAny_nextOf_tuple_end (I.ok.hd hc) st.2.1 st.2.2 (by simp; omega) hE }
    exact wpAny_pyNext_enum_endD D he ⟨rfl, hit, lp⟩ fun h1 eb => ⟨rfl, I.turned (t' := s.toks) (fun b o hb q => eb b o hb q) f0 f1 f3 f4 f5⟩
  self := fun A i s Q E st h => st.1.elim fun _ he => wpAny_pyIter_enum he h
def iEnumF (K : PySem.W.Frag) (ta : TA) : TI := fun σ H R => ta σ H fun vs H1 => ∃ a xs lo, vs = [.ref a, .int lo] ∧ SqT K H1 a xs ∧ -(2 ^ 62) ≤ lo ∧ lo < 2 ^ 62 ∧ R (ItF K a lo) H1
theorem pi_enumF {X : Cx} {e1 e2 : Expr} {ta : TA} {p pos tpos : Pos} {elts : List Expr} {kk : Nat} (hg : Gl X "enumerate") (hm : X.mg "enumerate" = none) (ha : PA X [e1, e2] ta)
    (he : starEach (e1 :: [e2]) X.env = (false, eval e1 X.env) :: starEach [e2] X.env := by rfl) (hpl : (backTo pos (starEach [e2] X.env)).any (·.1) = false := by rfl) :
    PI X (.Tuple elts kk tpos) (.Call (.Name "enumerate" p) [e1, e2] [] pos) (iEnumF X.K ta) := by
  refine ⟨fun pins s σ H R I h => ?_⟩
  refine Call_ (ld_blt I hg hm boot_enumerate (PyProof.Rows.callWith_type1 (thn (ha.run pos pins s σ H _ I h) fun us s1 hh => ?_) he hpl))
  obtain ⟨vs, H1, I1, r1, a, xs, lo, ex, hq, hl0, hl1, q⟩ := hh
  subst ex
  obtain ⟨u1, u2, rfl, ra, rb⟩ := vals2 r1
  obtain rfl : u1 = Value.ref a := ra
  obtain ⟨t, rfl⟩ := rb
  obtain ⟨its, rv, lp, hz⟩ := I1.tuple hq
  refine enum_begins (begins_tuple a its.toArray) lp (by omega) (by omega) fun h1 he hit hsz hk => wpAny_pyIter_enum he ?_
  have I2 : Inv X pins σ H1 { s1 with heap := h1 } := I1.kept (t' := s1.toks) hk
  refine ⟨s1.heap.objs.size + 1, [s1.heap.objs.size + 1, s1.heap.objs.size], _, _, H1, rfl, I2, turn_enumF a (s1.heap.objs.size + 1) s1.heap.objs.size lo, ⟨⟨.none, by simpa using he⟩, ⟨_, hit, rfl, rfl⟩, Nat.succ_ne_self _⟩, fun b hb => ?_, q⟩
  have hle : s1.heap.objs.size ≤ b := by
    rcases List.mem_cons.mp hb with z | z
    · rw [z]; exact Nat.le_add_right _ _
    · rw [List.mem_singleton.mp z]; exact Nat.le_refl _
  exact I1.fpOk hle (I1.hok.fresh hle)

set_option maxHeartbeats 1000000 in
theorem meets_enumerate_newB1 {v : Value} {o : Obj} {H : Heap → Prop} (B : Begins v o H) :
    Meets (Builtin.«enumerate.__new__» ⟨[.type "enumerate", v], []⟩) (fun _ R s => H s.heap ∧
      R (.ok (.ret (.ref (s.heap.push o).objs.size))) { s with heap := (s.heap.push o).push { cls := .type "enumerate", data := .fields #[.none, .bool false, .ref s.heap.objs.size, rawInt 0, .none, .none] } }) :=
  .of_wp fun prog w A R s h => by
    obtain ⟨hp, g, d, tk, os⟩ := s; obtain ⟨h1, h⟩ := h
    have hsub := sub_enumerate
    have q1 : ∀ {A' : Around} {E : Value → Shared → Prop} {Q : Value → Shared → Prop}, Q (.ref hp.objs.size) ⟨hp.push o, g, d, tk, os⟩ → wpAny (model prog w) A' (pyIter v) Q E ⟨hp, g, d, tk, os⟩ :=
      fun q => B.iter prog w _ _ ⟨hp, g, d, tk, os⟩ _ h1 q
    wp_walk using q1
    refine wpAny_stack_any fun st => wpAny_pure ?_
    split
    · rename_i c _ _ _ _ _
      cases (c == Value.type "enumerate")
      · wp_walk using q1
        exact ⟨_, rfl, h⟩
      · wp_walk using q1
        exact ⟨_, rfl, h⟩
    · wp_walk using q1
      exact ⟨_, rfl, h⟩
section
variable {prog : Program} {w : World} {A : Around} {E : Value → Shared → Prop} {s : Shared}
theorem enum_begins1 {v : Value} {o : Obj} {H : Heap → Prop} {Q : Value → Shared → Prop} (B : Begins v o H) (h1 : H s.heap)
    (h : ∀ h', IsEnum h' (s.heap.objs.size + 1) s.heap.objs.size 0 .none → h'.get? s.heap.objs.size = some o → h'.objs.size = s.heap.objs.size + 2 →
      (∀ b o, s.heap.get? b = some o → h'.get? b = some o) → Q (.ref (s.heap.objs.size + 1)) { s with heap := h' }) :
    wpAny (model prog w) A (call (.type "enumerate") [v]) Q E s := by
  refine callType_new F.called_enumerate (by decide) (F.typeCall_enumerate_1 _) (F.newCall_enumerate_1 _) (fun obj => F.args_object_init_2 obj _) F.entry_enumerate_new
    (meets_enumerate_newB1 B) ⟨h1, ?_⟩
  have hz : (s.heap.push o).objs.size = s.heap.objs.size + 1 := Heap.size_push ..
  show _ ∧ _
  rw [hz]
  have he : IsEnum ((s.heap.push o).push { cls := .type "enumerate", data := .fields #[.none, .bool false, .ref s.heap.objs.size, rawInt 0, .none, .none] }) (s.heap.objs.size + 1) s.heap.objs.size 0 .none := by
    have := Heap.get?_push_size (s.heap.push o) (o := { cls := .type "enumerate", data := .fields #[.none, .bool false, .ref s.heap.objs.size, rawInt 0, .none, .none] }) rfl
    rw [hz] at this; exact this
  refine ⟨⟨_, he, rfl⟩, h _ he (Heap.get?_push_of_some _ (Heap.get?_push_size _ B.free)) (by rw [Heap.size_push, hz]) fun b o x => Heap.get?_push_of_some _ (Heap.get?_push_of_some _ x)⟩
end
def iEnumT (K : PySem.W.Frag) (ta : TA) : TI := fun σ H R => ta σ H fun vs H1 => ∃ a xs, vs = [.ref a] ∧ SqT K H1 a xs ∧ R (ItF K a 0) H1
theorem pi_enumT {X : Cx} {e1 : Expr} {ta : TA} {p pos tpos : Pos} {elts : List Expr} {kk : Nat} (hg : Gl X "enumerate") (hm : X.mg "enumerate" = none) (ha : PA X [e1] ta)
    (hs : starEach [e1] X.env = [(false, eval e1 X.env)] := by rfl) :
    PI X (.Tuple elts kk tpos) (.Call (.Name "enumerate" p) [e1] [] pos) (iEnumT X.K ta) := by
  refine ⟨fun pins s σ H R I h => ?_⟩
  refine Call_ (ld_blt I hg hm boot_enumerate (PyProof.Rows.callWith_type1 (thn (ha.run pos pins s σ H _ I h) fun us s1 hh => ?_) hs rfl))
  obtain ⟨vs, H1, I1, r1, a, xs, ex, hq, q⟩ := hh
  subst ex
  obtain ⟨u1, rfl, ra⟩ := vals1 r1
  obtain rfl : u1 = Value.ref a := ra
  obtain ⟨its, rv, lp, hz⟩ := I1.tuple hq
  refine enum_begins1 (begins_tuple a its.toArray) lp fun h1 he hit hsz hk => wpAny_pyIter_enum he ?_
  have I2 : Inv X pins σ H1 { s1 with heap := h1 } := I1.kept (t' := s1.toks) hk
  refine ⟨s1.heap.objs.size + 1, [s1.heap.objs.size + 1, s1.heap.objs.size], _, _, H1, rfl, I2, turn_enumF a (s1.heap.objs.size + 1) s1.heap.objs.size 0, ⟨⟨.none, by simpa using he⟩, ⟨_, hit, rfl, rfl⟩, Nat.succ_ne_self _⟩, fun b hb => ?_, q⟩
  have hle : s1.heap.objs.size ≤ b := by
    rcases List.mem_cons.mp hb with z | z
    · rw [z]; exact Nat.le_add_right _ _
    · rw [List.mem_singleton.mp z]; exact Nat.le_refl _
  exact I1.fpOk hle (I1.hok.fresh hle)
theorem walk_enumT {K : PySem.W.Frag} {a : Addr} {xs : List V} {lo : Int} : Walk (ItF K a lo) xs.length (fun H => SqT K H a xs) (fun i H v H' => ∃ T y, v = .ref T ∧ H T = none ∧ H' = upd H T (.tup [.int (lo + (i : Nat)), y]) ∧ xs[i]? = some y) where
  goes := fun i H hi h => ⟨xs, xs[i], h, List.getElem?_eq_getElem hi⟩
  stops := fun H h => ⟨xs, h, Nat.le_refl _⟩
  yields := fun i H v H' hi h y => by
    obtain ⟨T, y, e1, e2, e3, e4⟩ := y
    exact ⟨T, y, e1, e2, e3, e4 _ h⟩
end Fp
/-! Rules: tuple * 1, tuple.index of flat items, repr of any data, not equal -/
namespace L2
open PySem PySem.Spec PyProof.Rows
theorem tuple_mul1 (l : Addr) (items : Array Value) (n : Nat) (dd : Option Addr) (sl : Array (Option Value)) (u : Tok) :
    Meets (Builtin.«tuple.__mul__» ⟨[.ref l, .int 1 u], []⟩) (fun _ R s => s.heap.get? l = some { cls := .type "tuple", dict := dd, data := .seq items n, slots := sl } ∧
      R (.ok (.ret (Value.ref l))) s) :=
  .of_wp fun prog w A R s h => by
    obtain ⟨hp, g, d, tk, os⟩ := s
    obtain ⟨hl, h⟩ := h
    have f1 := AutoSeq1.idx_int
    have c0 : ¬ ((decide ((1 : Int) < -(2 ^ 63)) || decide ((1 : Int) ≥ 2 ^ 63)) = true) := by decide
    have c1 : (items.isEmpty || (1 : Int) == 1) = true := by simp
    wp_walk using wpAny_loadPart' hl
    repeat (first
      | (refine wpAny_ite_false (decide_eq_false (by decide)) ?_; wp_walk using wpAny_loadPart' hl)
      | (refine wpAny_ite_true (decide_eq_true c1) ?_; wp_walk using wpAny_loadPart' hl))
    all_goals first | exact ⟨_, rfl, h⟩ | exact h
def rRepU (K : PySem.W.Frag) : R2 := fun x y H Q => ∃ l k xs, x = .ref l ∧ y = .int k ∧ SqT K H l xs ∧ xs ≠ [] ∧ 1 ≤ k ∧ k ≤ 1000 ∧ xs.length ≤ 1000 ∧ (k = 1 → Q (.ref l) H) ∧ (2 ≤ k → ∀ p, H p = none → Q (.ref p) (upd H p (.tup (List.replicate k.toNat xs).flatten)))
section
variable {X : Cx}
theorem op_repU : OpR X (binaryOp .Mult) (rRepU X.K) := by
  intro pins s σ H x y v u Q I rx ry h
  obtain ⟨l, k, xs, rfl, rfl, hT, hne, h1, h2, hz, q1, q2⟩ := h
  by_cases hk : k = 1
  · subst hk
    cases rx
    obtain ⟨t, rfl⟩ := ry
    obtain ⟨its, r, ⟨⟨cls, dd, data, sl⟩, ho, hc, n, hd⟩, hs⟩ := I.tuple hT
    simp only at hc hd
    subst hc hd
    refine wpAny_binaryOp_repeat_ref (T := "tuple") (U := "int") (by decide) ⟨_, ho, rfl⟩ (fun s' => typeIs_int s' 1 t) noFill_tuple_mul F.fills_int_mul F.slot_int_rmul repeat_tuple F.slot_int_index.lookup
      (call_meets F.slot_int_rmul (typeIs_int s 1 t) F.entry_int_rmul (F.args_int_rmul_2 _ _) (int_rmul_tuple 1 t l its.toArray n dd sl)
        ⟨ho, rfl, ⟨_, ho, rfl⟩, call_meets F.slot_tuple_mul ⟨_, ho, rfl⟩ F.entry_tuple_mul (F.args_tuple_mul_2 _ _) (tuple_mul1 l its.toArray n dd sl t) ⟨ho, ?_⟩⟩)
    exact ⟨.ref l, H, I, rfl, q1 rfl⟩
  · exact op_repT pins s σ H _ _ v u Q I rx ry ⟨l, k, xs, rfl, rfl, hT, hne, by omega, h2, hz, q2 (by omega)⟩
/-- t.index(x), x and all of t flat: the first place -/
theorem mt_tindex : MtR X "tuple.index" (fun x xs H Q => ∃ (p : Addr) (ys : List V) (y : V) (j : Nat) (z : V), x = .ref p ∧ xs = [y] ∧ SqT X.K H p ys ∧ flatV y = true ∧ ys.all flatV = true ∧ ys[j]? = some z ∧ eqV z y = true ∧
    (∀ (m : Nat) (z' : V), m < j → ys[m]? = some z' → eqV z' y = false) ∧ Q (.int (j : Nat)) H) := by
  intro pins s σ H x xs v us Q I rx rs h
  obtain ⟨p, ys, y, j, z, rfl, rfl, hq, fy, fys, hz, hzj, hno, q⟩ := h
  cases rx
  obtain ⟨uy, rfl, ry⟩ := vals1 rs
  obtain ⟨its, rv, pl, hlen⟩ := I.tuple hq
  obtain ⟨⟨cls, dd, dt, sl⟩, ho, hc, n, hd⟩ := pl
  simp only at hc hd
  subst hc
  subst hd
  obtain ⟨u, hu, ru⟩ := rv.get hz
  obtain ⟨hjl, hje⟩ := List.getElem?_eq_some_iff.mp hu
  have hvl := rv.length
  have hj : j < its.toArray.size := by simpa using hjl
  refine call_meets PySem.F.slot_tuple_index ⟨_, ho, rfl⟩ PySem.F.entry_tuple_index (PySem.F.args_tuple_index_2 _ _) (TI.tuple_indexAt p its.toArray n dd sl uy (eqU y) j hj ?_ ?_)
    ⟨ho, fun u' hu' => mem_eqAt ry fy rv fys u' (by simpa using hu'), ⟨.int (j : Nat), H, I.tok _, ⟨_, rfl⟩, q⟩⟩
  · have e1 : its.toArray[j] = u := by simpa using hje
    rw [e1, eqU_of ru (flat_at fys hz)]
    exact hzj
  · intro m hm hmj
    have hml : m < its.length := by simpa using hm
    have hmy : m < ys.length := by omega
    have hy' : ys[m]? = some ys[m] := List.getElem?_eq_getElem hmy
    obtain ⟨u2, hu2, ru2⟩ := rv.get hy'
    obtain ⟨_, hme⟩ := List.getElem?_eq_some_iff.mp hu2
    have e1 : its.toArray[m] = u2 := by simpa using hme
    rw [e1, eqU_of ru2 (flat_at fys hy')]
    exact hno m _ hmj hy'
/-! ### tuples of which it is known that they have no dict -/
def TF (H : Hp) (a : Addr) (xs : List V) : Prop := ∃ o, H a = some (.frz o (.tup xs)) ∧ o.dict = none
theorem TF.sq {K : PySem.W.Frag} {H : Hp} {a : Addr} {xs : List V} (h : TF H a xs) : SqT K H a xs := by
  obtain ⟨o, h, _⟩ := h
  exact .inl (.inr ⟨o, h⟩)
def tTupF (t : TA) : TE := fun σ H Q => t σ H fun xs H1 => xs.length ≤ sizeLine ∧ ∀ p o, H1 p = none → o.dict = none → Q (.ref p) (upd H1 p (.frz o (.tup xs)))
theorem pe_tupF {es : List Expr} {x1} {t : TA} {pos : Pos} (h : PA X es t) : PE X (.Tuple es x1 pos) (tTupF t) := by
  refine ⟨fun pins s σ H Q I hq => ?_⟩
  refine wpAny_Tuple_spliced (thn (h.run pos pins s σ H _ I hq) fun us s1 ⟨xs, H1, I1, r, z, q⟩ => ⟨by rw [← r.length]; exact z, ?_⟩)
  have hf : H1 s1.heap.objs.size = none := I1.hok.fresh (Nat.le_refl _)
  refine ⟨.ref s1.heap.objs.size, upd H1 s1.heap.objs.size (.frz { cls := .type "tuple", data := .seq us.toArray } (.tup xs)), I1.laid (t' := s1.toks) (fun b u e => Heap.get?_push_of_some _ e) (Nat.le_refl _) ?_, rfl, q _ _ hf rfl⟩
  exact ⟨Heap.get?_push_size _ rfl, z, us, r, ⟨_, Heap.get?_push_size _ rfl, rfl, _, rfl⟩⟩
def rCatF (K : PySem.W.Frag) : R2 := fun x y H Q => ∃ a b xs ys, x = .ref a ∧ y = .ref b ∧ SqT K H a xs ∧ SqT K H b ys ∧ xs.length + ys.length ≤ sizeLine ∧
  (xs = [] → Q (.ref b) H) ∧ (xs ≠ [] → ys = [] → Q (.ref a) H) ∧ (xs ≠ [] → ys ≠ [] → ∀ p o, H p = none → o.dict = none → Q (.ref p) (upd H p (.frz o (.tup (xs ++ ys)))))
theorem op_catF : OpR X (binaryOp .Add) (rCatF X.K) := by
  intro pins s σ H x y v u Q I rx ry h
  obtain ⟨a, b, xs, ys, rfl, rfl, ha, hb, hz, q0, q1, q2⟩ := h
  cases rx
  cases ry
  obtain ⟨its, r1, p1, _⟩ := I.tuple ha
  obtain ⟨its2, r2, p2, _⟩ := I.tuple hb
  by_cases hx : xs = []
  · subst hx
    cases r1
    exact cat_tup0 p1 p2 ⟨.ref b, H, I, rfl, q0 rfl⟩
  · refine HT.cat_tup p1 p2 (fun z => hx (r1.nil_iff.mp z)) (fun z => ⟨.ref a, H, I, rfl, q1 hx (r2.nil_iff.mp z)⟩) (fun z => ?_) (by rw [← r1.length, ← r2.length]; exact hz)
    refine ⟨.ref s.heap.objs.size, _, I.laid (t' := s.toks) (o := .frz { cls := .type "tuple", data := .seq (its ++ its2).toArray } (.tup (xs ++ ys))) (fun b ob q => Heap.get?_push_of_some _ q) (Nat.le_refl _) ?_, rfl, q2 hx (fun w => z (r2.nil_iff.mpr w)) _ _ (I.hok.fresh (Nat.le_refl _)) rfl⟩
    exact ⟨Heap.get?_push_size _ rfl, by rw [List.length_append]; exact hz, _, r1.append r2, IsTup.new _ _⟩
def rRepF (K : PySem.W.Frag) : R2 := fun x y H Q => ∃ l k xs, x = .ref l ∧ y = .int k ∧ SqT K H l xs ∧ xs ≠ [] ∧ 1 ≤ k ∧ k ≤ 1000 ∧ xs.length ≤ 1000 ∧ (k = 1 → Q (.ref l) H) ∧ (2 ≤ k → ∀ p o, H p = none → o.dict = none → Q (.ref p) (upd H p (.frz o (.tup (List.replicate k.toNat xs).flatten))))
theorem op_repF : OpR X (binaryOp .Mult) (rRepF X.K) := by
  intro pins s σ H x y v u Q I rx ry h
  obtain ⟨l, k, xs, rfl, rfl, hT, hne, h1, h2, hz, q1, q2⟩ := h
  by_cases hk : k = 1
  · subst hk
    exact op_repU pins s σ H _ _ v u Q I rx ry ⟨l, 1, xs, rfl, rfl, hT, hne, h1, h2, hz, q1, fun z => absurd z (by decide)⟩
  · cases rx
    obtain ⟨t, rfl⟩ := ry
    obtain ⟨its, r, ⟨⟨cls, dd, data, sl⟩, ho, hc, n, hd⟩, hs⟩ := I.tuple hT
    simp only at hc hd
    subst hc hd
    have hle : its.length = xs.length := r.length.symm
    have hn : its ≠ [] := fun e => hne (by
      rw [e] at hle
      exact List.eq_nil_of_length_eq_zero hle.symm)
    have hi : its.toArray.isEmpty = false := by
      cases its with
      | nil => exact absurd rfl hn
      | cons a b => rfl
    have hsz0 : its.toArray.size = xs.length := by rw [List.size_toArray, hle]
    have hm : ((its.toArray.size : Nat) : Int) * k ≤ 1000000 := by
      rw [hsz0]
      have a1 : ((xs.length : Nat) : Int) * k ≤ 1000 * k := Int.mul_le_mul_of_nonneg_right (by omega) (by omega)
      omega
    have flen : (List.replicate k.toNat its).flatten.length ≤ sizeLine := by
      rw [PyProof.Rows.lm_len_rep_flat, hle, sizeLine_eq]
      have a1 : k.toNat * xs.length ≤ 1000 * 1000 := Nat.mul_le_mul (by omega) hz
      omega
    have c0 : (decide (k < -(2 ^ 63)) || decide (k ≥ 2 ^ 63)) = false := by
      rw [decide_eq_false (by omega), decide_eq_false (by omega)] <;> rfl
    have c1 : (its.toArray.isEmpty || k == 1) = false := by
      rw [hi, Bool.false_or]
      exact beq_eq_false_iff_ne.mpr (by omega)
    have c2 : (decide (k ≤ 0) || its.toArray.isEmpty) = false := by
      rw [hi, Bool.or_false]
      exact decide_eq_false (by omega)
    have c4 : Builtin.Tuple.tupleTooMany (((its.toArray.size : Nat) : Int) * k) = false := by
      unfold Builtin.Tuple.tupleTooMany
      rw [sizeLine_eq]
      exact decide_eq_false (by omega)
    refine wpAny_binaryOp_repeat_ref (T := "tuple") (U := "int") (by decide) ⟨_, ho, rfl⟩ (fun s' => typeIs_int s' k t) noFill_tuple_mul F.fills_int_mul F.slot_int_rmul repeat_tuple F.slot_int_index.lookup
      (call_meets F.slot_int_rmul (typeIs_int s k t) F.entry_int_rmul (F.args_int_rmul_2 _ _) (int_rmul_tuple k t l its.toArray n dd sl)
        ⟨ho, rfl, ⟨_, ho, rfl⟩, call_meets F.slot_tuple_mul ⟨_, ho, rfl⟩ F.entry_tuple_mul (F.args_tuple_mul_2 _ _) (tuple_mulW l its.toArray n dd sl k t c0 c1 c2 (by omega) c4 (by rw [size_rep, List.size_toArray]; exact flen)) ⟨ho, ?_⟩⟩)
    rw [size_rep]
    refine ⟨.ref s.heap.objs.size, _, I.laid (t' := s.toks) (o := .frz { cls := .type "tuple", data := .seq (List.replicate k.toNat its).flatten.toArray } (.tup (List.replicate k.toNat xs).flatten)) (fun b ob q => Heap.get?_push_of_some _ q) (Nat.le_refl _) ?_, rfl, q2 (by omega) _ _ (I.hok.fresh (Nat.le_refl _)) rfl⟩
    exact ⟨Heap.get?_push_size _ rfl, by rw [PyProof.Rows.lm_len_rep_flat, sizeLine_eq]; have a1 : k.toNat * xs.length ≤ 1000 * 1000 := Nat.mul_le_mul (by omega) hz; omega, _, r.rep k.toNat, IsTup.new _ _⟩
/-- t.index(x) -/
def tTIdx (K : PySem.W.Frag) (to te : TE) : TE := fun σ H Q => to σ H fun x H1 => (∃ p ys, x = .ref p ∧ TF H1 p ys) ∧ te σ H1 fun y H2 => ∃ (p : Addr) (ys : List V) (j : Nat) (z : V), x = .ref p ∧ SqT K H2 p ys ∧ flatV y = true ∧ ys.all flatV = true ∧ ys[j]? = some z ∧ eqV z y = true ∧
    (∀ (m : Nat) (z' : V), m < j → ys[m]? = some z' → eqV z' y = false) ∧ Q (.int (j : Nat)) H2
theorem pe_tindex {o e : Expr} {to te : TE} {apos cpos : Pos} (ho : PE X o to) (he : PE X e te)
    (hbase : attributeBase o "index" X.env (eval o X.env) = eval o X.env := by rfl)
    (hfew : ((backTo cpos (starEach [e] X.env)).all (fun x => !x.1) && (backToKw cpos (keywordEach [] X.env)).all (fun x => x.1.isSome)
      && decide ([e].length + ([] : List Keyword).length + (if ([] : List Keyword).isEmpty then 0 else 1) < 30)) = true := by rfl)
    (hline : (apos.endLine == cpos.line) = true := by rfl) (hs : starEach [e] X.env = (false, eval e X.env) :: starEach [] X.env := by rfl) (hplain : (backTo cpos (starEach [] X.env)).any (·.1) = false := by rfl) :
    PE X (.Call (.Attribute o "index" apos) [e] [] cpos) (tTIdx X.K to te) := by
  refine ⟨fun pins s σ H Q I h => ?_⟩
  refine wpAny_Call_method_late hbase hfew hline rfl (thn (ho.run pins s σ H _ I h) fun v s1 ⟨x, H1, I1, r1, ⟨p, ys, ex, ⟨ob, hob, hdd⟩⟩, q1⟩ => ?_)
  subst ex
  cases r1
  have e1 := (I1.hok p _ hob).1
  obtain ⟨its, rv, pl, hz⟩ := I1.tuple (.inl (.inr ⟨ob, hob⟩))
  refine ⟨"tuple", "tuple.index", PySem.F.plainAttrs_tuple, PySem.F.slot_tuple_index, PySem.F.type_tuple_index, pl.typeIs, fun a ea => by cases ea; exact ⟨ob, e1, hdd⟩, ?_⟩
  have hA := (pa_cons he pa_nil hs).run cpos pins s1 σ H1 (fun vs H2 => match vs with
    | [y] => ∃ (p' : Addr) (ys : List V) (j : Nat) (z : V), V.ref p = .ref p' ∧ SqT X.K H2 p' ys ∧ flatV y = true ∧ ys.all flatV = true ∧ ys[j]? = some z ∧ eqV z y = true ∧
      (∀ (m : Nat) (z' : V), m < j → ys[m]? = some z' → eqV z' y = false) ∧ Q (.int (j : Nat)) H2
    | _ => False) I1 q1
  rw [hs] at hA ⊢
  refine Calls.callWith_builtin (by show (false || (backTo cpos (starEach [] X.env)).any (·.1)) = false; rw [hplain] <;> rfl) (Calls.evalArgs_plain ?_)
  refine thn hA fun us s2 ⟨vs, H2, I2, r2, hh⟩ => ?_
  match vs, r2, hh with
  | [y], r2, ⟨p', ys', j, z, ep, a1, a2, a3, a4, a5, a6, q⟩ =>
    cases ep
    exact mt_tindex pins s2 σ H2 (.ref p) [y] (.ref p) us Q I2 rfl r2 ⟨p, ys', y, j, z, rfl, rfl, a1, a2, a3, a4, a5, a6, q⟩
end
end L2
/-! Small data: what can be shown and compared; values that are brought -/
namespace Fp
open PySem PySem.Spec PyProof.Rows L2
theorem ite_no {c : Bool} {A B : Prop} (hc : c = false) (h : B) : if c = true then A else B := by
  rw [hc]; exact iteF h
theorem ite_yes {c : Bool} {A B : Prop} (hc : c = true) (h : A) : if c = true then A else B := by
  rw [hc]; exact iteT h
theorem get_lt {α : Type} {l : List α} {i : Nat} {x : α} (h : l[i]? = some x) : i < l.length := (List.getElem?_eq_some_iff.mp h).1
theorem u66 {k : Nat} {A : Around} (r : Room k A) : A.units + 66 < cLine := by have := r.un; omega
theorem szl {n : Nat} (h : n ≤ 10000000) : n ≤ sizeLine := by rw [sizeLine_eq]; omega
theorem szt {n : Nat} (h : n < 10000000) : n < sizeLine := by rw [sizeLine_eq]; omega
/-- data that can be shown and compared: at most so deep, at most so much -/
structure Sm (k n : Nat) (d : PyData) : Prop where
  sh : d.showable = true
  lay : d.canLay0 = true
  lv : d.leavesShort 13 = true
  blk : d.bulk ≤ n
  dep : d.depth ≤ k
theorem Sm.mono {k n k' n' : Nat} {d : PyData} (h : Sm k n d) (hk : k ≤ k') (hn : n ≤ n') : Sm k' n' d := ⟨h.sh, h.lay, h.lv, Nat.le_trans h.blk hn, Nat.le_trans h.dep hk⟩
structure Sms (k n : Nat) (ds : List PyData) : Prop where
  sh : PyData.showableAll ds = true
  lay : PyData.canLayAll0 ds = true
  lv : PyData.leavesShortAll 13 ds = true
  blk : PyData.bulkAll ds ≤ n
  dep : PyData.depthAll ds ≤ k
theorem Sms.nil {k n : Nat} : Sms k n [] := ⟨by simp [PyData.showableAll], by simp [PyData.canLayAll0], by simp [PyData.leavesShortAll], by simp [PyData.bulkAll], by simp [PyData.depthAll]⟩
theorem Sms.cons {k a b : Nat} {d : PyData} {ds : List PyData} (h : Sm k a d) (t : Sms k b ds) : Sms k (a + 1 + b) (d :: ds) :=
  ⟨by simp [PyData.showableAll, h.sh, t.sh], by simp [PyData.canLayAll0, h.lay, t.lay], by simp [PyData.leavesShortAll, h.lv, t.lv], by have := h.blk; have := t.blk; simp only [PyData.bulkAll]; omega, by have := h.dep; have := t.dep; simp only [PyData.depthAll]; omega⟩
theorem Sms.mono {k n k' n' : Nat} {d : List PyData} (h : Sms k n d) (hk : k ≤ k') (hn : n ≤ n') : Sms k' n' d := ⟨h.sh, h.lay, h.lv, Nat.le_trans h.blk hn, Nat.le_trans h.dep hk⟩
theorem Sms.all {k n : Nat} : ∀ {ds : List PyData}, (∀ d ∈ ds, Sm k n d) → Sms k ((n + 1) * ds.length) ds
  | [], _ => Sms.nil
  | d :: ds, h => (Sms.cons (h d (by simp)) (Sms.all fun e he => h e (List.mem_cons_of_mem _ he))).mono (Nat.le_refl _) (by
    rw [List.length_cons, Nat.mul_succ]; omega)
theorem Sms.tup {k n : Nat} {ds : List PyData} (h : Sms k n ds) : Sm (k + 1) n (.tuple ds) :=
  ⟨by simpa [PyData.showable] using h.sh, by simpa [PyData.canLay0] using h.lay, by simpa [PyData.leavesShort] using h.lv, by have := h.blk; simpa only [PyData.bulk] using this, by have := h.dep; simp only [PyData.depth]; omega⟩
theorem Sms.lst {k n : Nat} {ds : List PyData} (h : Sms k n ds) : Sm (k + 1) n (.list ds) :=
  ⟨by simpa [PyData.showable] using h.sh, by simpa [PyData.canLay0] using h.lay, by simpa [PyData.leavesShort] using h.lv, by have := h.blk; simpa only [PyData.bulk] using this, by have := h.dep; simp only [PyData.depth]; omega⟩
theorem Sm.non : Sm 1 0 .none := ⟨by simp [PyData.showable], by simp [PyData.canLay0], by simp [PyData.leavesShort], by simp [PyData.bulk], by simp [PyData.depth]⟩
theorem Sm.str {z : Str} {n : Nat} (hz : z.cps.size ≤ n) (hc : (z.cps.toList.all fun c => decide (c < 16 ^ 8)) = true) (ho : PyData.strOk z = true) : Sm 1 n (.str z) :=
  ⟨by simp [PyData.showable], by simp [PyData.canLay0, ho], by simpa only [PyData.leavesShort] using hc, by simpa only [PyData.bulk] using hz, by simp [PyData.depth]⟩
theorem log2_lt {i : Int} (h0 : -99999 ≤ i) (h1 : i ≤ 99999) : i.natAbs.log2 < 1920 := by
  by_cases h : i.natAbs = 0
  · rw [h]; decide
  · have : i.natAbs.log2 < 17 := (Nat.log2_lt h).mpr (show i.natAbs < 2 ^ 17 by omega)
    omega
theorem Sm.int {i : Int} (h0 : -9999 ≤ i) (h1 : i ≤ 9999) : Sm 1 0 (.int i) := by
  refine ⟨?_, by simp [PyData.canLay0], ?_, by simp [PyData.bulk], by simp [PyData.depth]⟩
  · simp only [PyData.showable, decide_eq_true_eq]
    exact log2_lt (by omega) (by omega)
  · simp only [PyData.leavesShort, decide_eq_true_eq]
    exact PyData.shown_int_le (by omega)
theorem Sm.fits {k n : Nat} {d : PyData} (h : Sm k n d) (hn : n ≤ 1000000) : d.shown.length ≤ sizeLine := PyData.shown_fits_bulk (B := 13) (by decide) (by decide) h.lv (Nat.le_trans h.blk (Nat.le_trans hn (by decide)))
theorem Sm.shaped {k n : Nat} {d : PyData} (h : Sm k n d) (hk : k ≤ 64) : SeqAt.shaped d = true := by
  unfold SeqAt.shaped
  rw [h.lay, Bool.true_and]
  exact decide_eq_true (Nat.le_trans h.dep hk)
/-! ### repr of any data -/
section
variable {X : Cx}
theorem wpAny_repr {prog : Program} {w : World} {A : Around} {E : Value → Shared → Prop} {s : Shared} {Q : Value → Shared → Prop} {v : Value} {d : PyData} {as : List Addr} (r : Reads s.heap v d as) (hs : d.showable = true) (hd : d.hasDict = false) (hz : d.shown.length ≤ sizeLine)
    (hg : A.guards = some []) (hu : A.units + (d.depth + 1) < cLine) (hQ : ∀ h' u tk, (∀ b o, s.heap.get? b = some o → h'.get? b = some o) → Q (.str d.shown u) { s with heap := h', toks := tk }) : wpAny (model prog w) A (call (.builtin "repr") [v]) Q E s := by
  cases r with
  | none => exact PySem.P.repr_of_none (hQ _ _ _ fun _ _ e => e)
  | bool b => exact PySem.P.repr_of_bool (hQ _ _ _ fun _ _ e => e)
  | int i t => exact PySem.P.repr_of_int (by simpa only [PyData.showable, decide_eq_true_eq] using hs) (by simpa only [PyData.shown] using hQ _ _ _ fun _ _ e => e)
  | str x t => exact PySem.P.repr_of_str (by simpa only [PyData.shown] using hQ _ _ _ fun _ _ e => e) (by simpa only [PyData.shown] using hz)
  | list a b c e => exact repr_of_reads' (.list a b c e) hs (fun z => by rw [hd] at z; cases z) hg hu (fun _ _ z => z) hQ hz
  | tuple a b c e => exact repr_of_reads' (.tuple a b c e) hs (fun z => by rw [hd] at z; cases z) hg hu (fun _ _ z => z) hQ hz
  | dict a b c e f => simp [PyData.hasDict] at hd
/-- repr(x), x any data -/
theorem call_reprA (hgu : X.A.guards = some []) (hu : X.A.units + 66 < cLine) : CallR X (.builtin "repr") (fun xs H Q => ∃ (x : V) (d : PyData) (k n : Nat), xs = [x] ∧ Dp X.K H x d ∧ Sm k n d ∧ k ≤ 64 ∧ n ≤ 1000000 ∧ Q (.str d.shown) H) := by
  intro pins s σ H xs us Q I r h
  obtain ⟨x, d, k, n, rfl, hd, sm, hk, hn, q⟩ := h
  obtain ⟨u, rfl, rx⟩ := vals1 r
  obtain ⟨as, rd⟩ := Dp.reads I d _ u hd rx
  have hdp := sm.dep
  exact wpAny_repr rd sm.sh (PyData.hasDict_of_canLay _ sm.lay) (sm.fits hn) hgu (by omega) (fun h' u tk k => ⟨.str d.shown, H, I.kept (t' := tk) k, ⟨_, rfl⟩, q⟩)
end
/-! ### values that are brought: None, integers, tuples of at most three such, at most so deep -/
inductive VOk : Nat → PyData → Prop where
  | non {n} : VOk n .none
  | int {n i} : -9999 ≤ i → i ≤ 9999 → VOk n (.int i)
  | tup {n ds} : (∀ d ∈ ds, VOk n d) → ds.length ≤ 3 → VOk (n + 1) (.tuple ds)
mutual
inductive VAt (H : Hp) : V → PyData → Prop where
  | non : VAt H .non .none
  | int (i : Int) : VAt H (.int i) (.int i)
  | tup {a : Addr} {xs : List V} {ds : List PyData} : H a = some (.tup xs) → VsAt H xs ds → VAt H (.ref a) (.tuple ds)
inductive VsAt (H : Hp) : List V → List PyData → Prop where
  | nil : VsAt H [] []
  | cons {v vs d ds} : VAt H v d → VsAt H vs ds → VsAt H (v :: vs) (d :: ds)
end
/-- tuples stay -/
def IsT : Option HO → Prop
  | some (.tup _) => True
  | some (.frz _ (.tup _)) => True
  | _ => False
def TK (H H' : Hp) : Prop := ∀ a, IsT (H a) → H' a = H a
theorem TK.refl (H : Hp) : TK H H := fun _ _ => rfl
theorem TK.trans {H H1 H2 : Hp} (a : TK H H1) (b : TK H1 H2) : TK H H2 := fun x h => (b x (by rw [a x h]; exact h)).trans (a x h)
theorem TK.of {H H' : Hp} (g : Same H H') : TK H H' := fun a h => by
  cases e : H a with
  | none => rw [e] at h; exact h.elim
  | some o => exact g a _ e
theorem TK.but {S : List Addr} {H H' : Hp} (g : But S H H') (h : ∀ a ∈ S, ¬ IsT (H a)) : TK H H' := fun a n => by
  cases e : H a with
  | none => rw [e] at n; exact n.elim
  | some o => exact g a _ (fun m => h a m n) e
theorem TK.put {H : Hp} {p : Addr} {o u : HO} (h : H p = some o) (n : ¬ IsT (some o)) : TK H (upd H p u) := fun a e => by
  rw [upd_ne (fun z => n (by rw [← h, ← z]; exact e))]
theorem TK.t {H H' : Hp} (g : TK H H') {a : Addr} {xs : List V} (h : H a = some (.tup xs)) : H' a = some (.tup xs) := by
  rw [g a (by rw [h]; trivial), h]
theorem TK.f {H H' : Hp} (g : TK H H') {a : Addr} {xs : List V} (h : TF H a xs) : TF H' a xs := by
  obtain ⟨o, h, d⟩ := h
  exact ⟨o, by rw [g a (by rw [h]; trivial), h], d⟩
mutual
theorem VAt.mono {H H' : Hp} (g : TK H H') : ∀ {v : V} {d : PyData}, VAt H v d → VAt H' v d
  | _, _, .non => .non
  | _, _, .int i => .int i
  | _, _, .tup a b => .tup (g.t a) (VsAt.mono g b)
theorem VsAt.mono {H H' : Hp} (g : TK H H') : ∀ {v : List V} {d : List PyData}, VsAt H v d → VsAt H' v d
  | _, _, .nil => .nil
  | _, _, .cons a b => .cons (VAt.mono g a) (VsAt.mono g b)
end
mutual
theorem VAt.dp {K : PySem.W.Frag} {H : Hp} : ∀ {v : V} {d : PyData}, VAt H v d → Dp K H v d
  | _, _, .non => .non
  | _, _, .int i => .int i
  | _, _, .tup a b => .tup (.of a) (VsAt.dp b)
theorem VsAt.dp {K : PySem.W.Frag} {H : Hp} : ∀ {v : List V} {d : List PyData}, VsAt H v d → DpAll K H v d
  | _, _, .nil => .nil
  | _, _, .cons a b => .cons (VAt.dp a) (VsAt.dp b)
end
theorem VOk.up {n : Nat} {d : PyData} (h : VOk n d) : VOk (n + 1) d := by
  induction h with
  | non => exact .non
  | int a b => exact .int a b
  | tup a b ih => exact .tup (fun d hd => ih d hd) b
def vb : Nat → Nat
  | 0 => 0
  | n + 1 => (vb n + 1) * 3
theorem VOk.sm : ∀ {n : Nat} {d : PyData}, VOk n d → Sm (n + 1) (vb n) d := by
  intro n d h
  induction h with
  | non => exact Sm.non.mono (by omega) (by omega)
  | int a b => exact (Sm.int a b).mono (by omega) (by omega)
  | tup a b ih => exact (Sms.all ih).tup.mono (Nat.le_refl _) (Nat.mul_le_mul_left _ b)
theorem VsAt.snoc {H : Hp} {v : V} {d : PyData} (h : VAt H v d) : ∀ {vs : List V} {ds : List PyData}, VsAt H vs ds → VsAt H (vs ++ [v]) (ds ++ [d])
  | _, _, .nil => .cons h .nil
  | _, _, .cons a b => .cons a (VsAt.snoc h b)
theorem VsAt.len {H : Hp} : ∀ {vs : List V} {ds : List PyData}, VsAt H vs ds → vs.length = ds.length
  | _, _, .nil => rfl
  | _, _, .cons _ b => congrArg (· + 1) b.len
theorem VsAt.get {H : Hp} : ∀ {xs : List V} {b : List PyData} {i : Nat} {x : V}, VsAt H xs b → xs[i]? = some x → ∃ it, b[i]? = some it ∧ VAt H x it
  | _, _, 0, _, .cons h _, e => by cases e; exact ⟨_, rfl, h⟩
  | _, _, i + 1, x, .cons _ r, e => VsAt.get (i := i) r e
  | _, _, _, _, .nil, e => by cases e
end Fp
/-! A door, as a plain thing -/
namespace Fp
open PySem PySem.Spec PyProof.Rows L2
abbrev Lv := Option Int
def lvV : Lv → V
  | none => .non
  | some i => .int i
structure Deed where
  stp : Bool
  p : Nat
  x : V
structure DS where
  came : List (Option V)
  lev : List Lv
  heard : List (Option V)
  seen : List (Option (List Lv))
  deeds : List Deed
inductive Told where
  | level (i : Int) | look (l : List Lv) | wait | word (v : V)
theorem getD_set {α : Type} (l : List (Option α)) (p q : Nat) (x : Option α) : (l.set p x).getD q none = if p = q ∧ p < l.length then x else l.getD q none := by
  simp only [List.getD_eq_getElem?_getD, List.getElem?_set]
  by_cases h : p = q
  · subst h
    by_cases h2 : p < l.length
    · simp [h2]
    · have e : l[p]? = none := List.getElem?_eq_none (by omega)
      simp [h2, e]
  · simp [h]
theorem getD_none_of {α : Type} {l : List (Option α)} {q : Nat} {x : α} (h : l.getD q none = some x) : q < l.length ∧ l[q]? = some (some x) := by
  rw [List.getD_eq_getElem?_getD] at h
  cases e : l[q]? with
  | none => rw [e] at h; cases h
  | some y =>
    rw [e] at h
    have h' : y = some x := h
    exact ⟨(List.getElem?_eq_some_iff.mp e).1, by rw [h']⟩
theorem getD_of {α : Type} {l : List (Option α)} {q : Nat} {y : Option α} (h : l[q]? = some y) : l.getD q none = y := by
  rw [List.getD_eq_getElem?_getD, h]; rfl
theorem mem_getD {α : Type} {l : List (Option α)} {x : α} : some x ∈ l ↔ ∃ q, l.getD q none = some x := by
  constructor
  · intro h
    obtain ⟨q, hq⟩ := List.getElem?_of_mem h
    exact ⟨q, getD_of hq⟩
  · rintro ⟨q, hq⟩
    exact List.mem_of_getElem? (getD_none_of hq).2
namespace DS
def new (n : Nat) : DS := ⟨List.replicate n none, List.replicate n none, List.replicate n none, List.replicate n none, []⟩
def cm (s : DS) (p : Nat) : Option V := s.came.getD p none
def lv (s : DS) (p : Nat) : Lv := s.lev.getD p none
def sn (s : DS) (p : Nat) : Option (List Lv) := s.seen.getD p none
def stgOf (a : Lv) (b : Option (List Lv)) : Nat := match a with
  | none => 0
  | some i => if i = 1 then (if b.isSome then 2 else 1) else 3
def stg (s : DS) (p : Nat) : Nat := stgOf (s.lv p) (s.sn p)
def kindOf : Nat → Str
  | 1 => "look" | 3 => "ask" | _ => "level"
def next (s : DS) (p : Nat) : Option Str := if (s.cm p).isSome then some (kindOf (s.stg p)) else none
def isTwo (a : Lv) : Bool := decide (a = some 2)
def two (s : DS) : Nat := s.lev.findIdx isTwo
def saw (s : DS) (p : Nat) : Bool := decide (some 2 ∈ (s.sn p).getD [])
def wr (s : DS) (p : Nat) : Int := if s.saw p then 0 else 2
def come (s : DS) (p : Nat) (v : V) : DS := { s with came := s.came.set p (some v), deeds := s.deeds ++ [⟨false, p, v⟩] }
def told (s : DS) (p : Nat) : Told := match s.stg p with
  | 0 => .level 1
  | 1 => .look s.lev
  | 2 => .level (s.wr p)
  | _ => if some 1 ∈ s.lev then .wait else .word ((s.cm s.two).getD .non)
def step (s : DS) (p : Nat) : DS := match s.stg p with
  | 0 => { s with deeds := s.deeds ++ [⟨true, p, .str "level"⟩], lev := s.lev.set p (some 1) }
  | 1 => { s with deeds := s.deeds ++ [⟨true, p, .str "look"⟩], seen := s.seen.set p (some s.lev) }
  | 2 => { s with deeds := s.deeds ++ [⟨true, p, .str "level"⟩], lev := s.lev.set p (some (s.wr p)) }
  | _ => if some 1 ∈ s.lev then { s with deeds := s.deeds ++ [⟨true, p, .str "ask"⟩] } else { s with deeds := s.deeds ++ [⟨true, p, .str "ask"⟩], heard := s.heard.set p (s.cm s.two) }
structure WF (s : DS) : Prop where
  n1 : 1 ≤ s.lev.length
  n5 : s.lev.length ≤ 5
  lc : s.came.length = s.lev.length
  lh : s.heard.length = s.lev.length
  ls : s.seen.length = s.lev.length
  vals : ∀ p x, s.lv p = some x → x = 0 ∨ x = 1 ∨ x = 2
  cmv : ∀ p, s.lv p ≠ none → s.cm p ≠ none
  snv : ∀ p, s.sn p ≠ none → s.lv p ≠ none
  lok : ∀ p x, s.lv p = some x → x ≠ 1 → s.sn p ≠ none
  z2 : ∀ p, s.lv p = some 0 → ∃ q, s.lv q = some 2
  s2 : ∀ p l, s.sn p = some l → some 2 ∈ l → ∃ q, s.lv q = some 2
theorem rep_none {α : Type} (n p : Nat) : (List.replicate n (none : Option α)).getD p none = none := by
  rw [List.getD_eq_getElem?_getD, List.getElem?_replicate]; split <;> rfl
theorem lv_new (n p : Nat) : (new n).lv p = none := rep_none n p
theorem sn_new (n p : Nat) : (new n).sn p = none := rep_none n p
theorem cm_new (n p : Nat) : (new n).cm p = none := rep_none n p
theorem WF.new {n : Nat} (h1 : 1 ≤ n) (h5 : n ≤ 5) : (new n).WF := by
  refine ⟨by simpa [DS.new] using h1, by simpa [DS.new] using h5, by simp [DS.new], by simp [DS.new], by simp [DS.new], ?_, ?_, ?_, ?_, ?_, ?_⟩ <;> intro p <;> simp only [lv_new, sn_new, cm_new] <;> simp
section
variable {s : DS} {p : Nat} {v : V}
theorem lv_come (q : Nat) : (s.come p v).lv q = s.lv q := rfl
theorem sn_come (q : Nat) : (s.come p v).sn q = s.sn q := rfl
theorem cm_come (q : Nat) : (s.come p v).cm q = if p = q ∧ p < s.came.length then some v else s.cm q := getD_set _ _ _ _
theorem WF.come (h : s.WF) : (s.come p v).WF := by
  refine ⟨h.n1, h.n5, by simp [DS.come, h.lc], h.lh, h.ls, h.vals, fun q hq => ?_, h.snv, h.lok, h.z2, h.s2⟩
  rw [cm_come]
  split
  · simp
  · exact h.cmv q hq
theorem stg_lt (s : DS) (p : Nat) : s.stg p ≤ 3 := by
  unfold stg stgOf
  split
  · omega
  · split
    · split <;> omega
    · omega
theorem stg0 : s.stg p = 0 ↔ s.lv p = none := by
  unfold stg stgOf
  cases s.lv p with
  | none => simp
  | some i => simp only; split <;> (try split) <;> simp
theorem stg1 : s.stg p = 1 ↔ s.lv p = some 1 ∧ s.sn p = none := by
  unfold stg stgOf
  cases s.lv p with
  | none => simp
  | some i =>
    simp only
    cases s.sn p <;> by_cases hi : i = 1 <;> simp [hi]
theorem stg2 : s.stg p = 2 ↔ s.lv p = some 1 ∧ s.sn p ≠ none := by
  unfold stg stgOf
  cases s.lv p with
  | none => simp
  | some i =>
    simp only
    cases s.sn p <;> by_cases hi : i = 1 <;> simp [hi]
theorem stg3 : s.stg p = 3 ↔ ∃ x, s.lv p = some x ∧ x ≠ 1 := by
  unfold stg stgOf
  cases s.lv p with
  | none => simp
  | some i =>
    simp only
    cases s.sn p <;> by_cases hi : i = 1 <;> simp [hi]
/-- the step by its stage -/
theorem step0 (h : s.stg p = 0) : s.step p = { s with deeds := s.deeds ++ [⟨true, p, .str "level"⟩], lev := s.lev.set p (some 1) } := by simp only [step, h]
theorem step1 (h : s.stg p = 1) : s.step p = { s with deeds := s.deeds ++ [⟨true, p, .str "look"⟩], seen := s.seen.set p (some s.lev) } := by simp only [step, h]
theorem step2 (h : s.stg p = 2) : s.step p = { s with deeds := s.deeds ++ [⟨true, p, .str "level"⟩], lev := s.lev.set p (some (s.wr p)) } := by simp only [step, h]
theorem step3 (h : s.stg p = 3) : s.step p = if some 1 ∈ s.lev then { s with deeds := s.deeds ++ [⟨true, p, .str "ask"⟩] } else { s with deeds := s.deeds ++ [⟨true, p, .str "ask"⟩], heard := s.heard.set p (s.cm s.two) } := by simp only [step, h]
theorem told0 (h : s.stg p = 0) : s.told p = .level 1 := by simp only [told, h]
theorem told1 (h : s.stg p = 1) : s.told p = .look s.lev := by simp only [told, h]
theorem told2 (h : s.stg p = 2) : s.told p = .level (s.wr p) := by simp only [told, h]
theorem told3 (h : s.stg p = 3) : s.told p = if some 1 ∈ s.lev then .wait else .word ((s.cm s.two).getD .non) := by simp only [told, h]
theorem cm_step (q : Nat) : (s.step p).cm q = s.cm q := by
  unfold step
  split <;> (try split) <;> rfl
theorem came_step : (s.step p).came = s.came := by
  unfold step
  split <;> (try split) <;> rfl
theorem len_step : (s.step p).lev.length = s.lev.length := by
  unfold step
  split <;> (try split) <;> simp
theorem two_lev (h : ∃ q, s.lv q = some 2) : s.two < s.lev.length ∧ s.lv s.two = some 2 ∧ ∀ m, m < s.two → s.lv m ≠ some 2 := by
  obtain ⟨q, hq⟩ := h
  obtain ⟨hl, he⟩ := getD_none_of hq
  have hm : ∃ x ∈ s.lev, isTwo x = true := ⟨some 2, List.mem_of_getElem? he, by simp [isTwo]⟩
  have h1 : s.two < s.lev.length := List.findIdx_lt_length_of_exists hm
  refine ⟨h1, ?_, fun m hlt => ?_⟩
  · have e : isTwo s.lev[s.two] = true := List.findIdx_getElem (p := isTwo) (xs := s.lev) (w := h1)
    have e' : s.lev[s.two] = some 2 := by simpa [isTwo] using e
    exact getD_of (by rw [List.getElem?_eq_getElem h1, e'])
  · intro z
    have hml : m < s.lev.length := by omega
    have e : isTwo s.lev[m] = false := by simpa using List.not_of_lt_findIdx (p := isTwo) (xs := s.lev) hlt
    have z' : s.lev[m] = some 2 := by
      obtain ⟨_, z2⟩ := getD_none_of z
      rw [List.getElem?_eq_getElem hml] at z2
      exact Option.some.inj z2
    rw [z'] at e
    simp [isTwo] at e
theorem findIdx_ext {α : Type} {f g : α → Bool} : ∀ {l m : List α}, l.length = m.length → (∀ (i : Nat) x y, l[i]? = some x → m[i]? = some y → f x = g y) → l.findIdx f = m.findIdx g
  | [], [], _, _ => rfl
  | [], _ :: _, h, _ => by simp at h
  | _ :: _, [], h, _ => by simp at h
  | a :: l, b :: m, h, hp => by
    have e := hp 0 a b rfl rfl
    rw [List.findIdx_cons, List.findIdx_cons, e, findIdx_ext (l := l) (m := m) (by simpa using h) fun i x y hx hy => hp (i + 1) x y (by simpa using hx) (by simpa using hy)]
theorem two_same {s t : DS} (hl : t.lev.length = s.lev.length) (h : ∀ q, t.lv q = some 2 ↔ s.lv q = some 2) : t.two = s.two := by
  refine findIdx_ext hl fun i x y hx hy => ?_
  have h1 := h i
  rw [show t.lv i = x from getD_of hx, show s.lv i = y from getD_of hy] at h1
  unfold isTwo
  exact decide_eq_decide.mpr h1
theorem lv_step0 (h : s.stg p = 0) (hp : p < s.lev.length) (q : Nat) : (s.step p).lv q = if p = q then some 1 else s.lv q := by
  rw [step0 h]
  show (s.lev.set p (some 1)).getD q none = _
  rw [getD_set]
  by_cases e : p = q <;> simp [e, hp, lv] <;> omega
theorem lv_step1 (h : s.stg p = 1) (q : Nat) : (s.step p).lv q = s.lv q := by rw [step1 h]; rfl
theorem lv_step2 (h : s.stg p = 2) (hp : p < s.lev.length) (q : Nat) : (s.step p).lv q = if p = q then some (s.wr p) else s.lv q := by
  rw [step2 h]
  show (s.lev.set p (some (s.wr p))).getD q none = _
  rw [getD_set]
  by_cases e : p = q
  · subst e; simp [hp]
  · simp [e, lv]
theorem lv_step3 (h : s.stg p = 3) (q : Nat) : (s.step p).lv q = s.lv q := by rw [step3 h]; split <;> rfl
theorem sn_step1 (h : s.stg p = 1) (hp : p < s.seen.length) (q : Nat) : (s.step p).sn q = if p = q then some s.lev else s.sn q := by
  rw [step1 h]
  show (s.seen.set p (some s.lev)).getD q none = _
  rw [getD_set]
  by_cases e : p = q
  · subst e; simp [hp]
  · simp [e, sn]
theorem sn_stepN (h : s.stg p ≠ 1) (q : Nat) : (s.step p).sn q = s.sn q := by
  unfold step
  split <;> (try split) <;> first | rfl | (rename_i e; exact absurd e h)
theorem wr02 (s : DS) (p : Nat) : s.wr p = 0 ∧ s.saw p = true ∨ s.wr p = 2 ∧ s.saw p = false := by
  unfold wr
  cases s.saw p <;> simp
theorem saw_iff : s.saw p = true ↔ ∃ l, s.sn p = some l ∧ some 2 ∈ l := by
  unfold saw
  rw [decide_eq_true_iff]
  cases s.sn p with
  | none => simp
  | some l => simp
theorem lt_of_cm (h : s.WF) (hc : s.cm p ≠ none) : p < s.lev.length := by
  cases e : s.cm p with
  | none => exact absurd e hc
  | some v => rw [← h.lc]; exact (getD_none_of e).1
theorem has2_step (h : s.WF) (hc : s.cm p ≠ none) (h2 : ∃ q, s.lv q = some 2) : ∃ q, (s.step p).lv q = some 2 := by
  obtain ⟨q, hq⟩ := h2
  refine ⟨q, ?_⟩
  have hp := lt_of_cm h hc
  have := stg_lt s p
  rcases (show s.stg p = 0 ∨ s.stg p = 1 ∨ s.stg p = 2 ∨ s.stg p = 3 by omega) with e | e | e | e
  · rw [lv_step0 e hp, if_neg]; exact hq
    intro z; subst z; rw [stg0.mp e] at hq; cases hq
  · rw [lv_step1 e]; exact hq
  · rw [lv_step2 e hp, if_neg]; exact hq
    intro z; subst z; rw [(stg2.mp e).1] at hq; cases hq
  · rw [lv_step3 e]; exact hq
theorem WF.step (h : s.WF) (hc : s.cm p ≠ none) : (s.step p).WF := by
  have hp := lt_of_cm h hc
  have hps : p < s.seen.length := by rw [h.ls]; exact hp
  have h4 := stg_lt s p
  have hlen := len_step (s := s) (p := p)
  have k2 := has2_step h hc
  have lens : (s.step p).came.length = (s.step p).lev.length ∧ (s.step p).heard.length = (s.step p).lev.length ∧ (s.step p).seen.length = (s.step p).lev.length := by
    rw [hlen, came_step]
    refine ⟨h.lc, ?_, ?_⟩
    · unfold DS.step; split <;> (try split) <;> simp [h.lh]
    · unfold DS.step; split <;> (try split) <;> simp [h.ls]
  rcases (show s.stg p = 0 ∨ s.stg p = 1 ∨ s.stg p = 2 ∨ s.stg p = 3 by omega) with e | e | e | e
  · have L := lv_step0 e hp
    have S : ∀ q, (s.step p).sn q = s.sn q := sn_stepN (by omega)
    refine ⟨by rw [hlen]; exact h.n1, by rw [hlen]; exact h.n5, lens.1, lens.2.1, lens.2.2, fun q x hq => ?_, fun q hq => ?_, fun q hq => ?_, fun q x hq hx => ?_, fun q hq => ?_, fun q l hq hl => ?_⟩
    · rw [L] at hq; split at hq
      · cases hq; omega
      · exact h.vals q x hq
    · rw [cm_step]; rw [L] at hq; split at hq
      · rename_i z; subst z; exact hc
      · exact h.cmv q hq
    · rw [S] at hq; rw [L]; split
      · simp
      · exact h.snv q hq
    · rw [S]; rw [L] at hq; split at hq
      · cases hq; exact absurd rfl hx
      · exact h.lok q x hq hx
    · rw [L] at hq; split at hq
      · cases hq
      · exact k2 (h.z2 q hq)
    · rw [S] at hq; exact k2 (h.s2 q l hq hl)
  · have L := lv_step1 e
    have S := sn_step1 e hps
    obtain ⟨e1, e2⟩ := stg1.mp e
    refine ⟨by rw [hlen]; exact h.n1, by rw [hlen]; exact h.n5, lens.1, lens.2.1, lens.2.2, fun q x hq => h.vals q x (by rw [← L]; exact hq), fun q hq => ?_, fun q hq => ?_, fun q x hq hx => ?_, fun q hq => ?_, fun q l hq hl => ?_⟩
    · rw [cm_step]; exact h.cmv q (by rw [← L]; exact hq)
    · rw [L]; rw [S] at hq; split at hq
      · rename_i z; subst z; rw [e1]; simp
      · exact h.snv q hq
    · rw [S]; split
      · simp
      · exact h.lok q x (by rw [← L]; exact hq) hx
    · exact k2 (h.z2 q (by rw [← L]; exact hq))
    · rw [S] at hq; split at hq
      · cases hq; exact k2 (mem_getD.mp hl)
      · exact k2 (h.s2 q l hq hl)
  · have L := lv_step2 e hp
    have S : ∀ q, (s.step p).sn q = s.sn q := sn_stepN (by omega)
    obtain ⟨e1, e2⟩ := stg2.mp e
    have w2 := wr02 s p
    refine ⟨by rw [hlen]; exact h.n1, by rw [hlen]; exact h.n5, lens.1, lens.2.1, lens.2.2, fun q x hq => ?_, fun q hq => ?_, fun q hq => ?_, fun q x hq hx => ?_, fun q hq => ?_, fun q l hq hl => ?_⟩
    · rw [L] at hq; split at hq
      · cases hq; omega
      · exact h.vals q x hq
    · rw [cm_step]; rw [L] at hq; split at hq
      · rename_i z; subst z; exact hc
      · exact h.cmv q hq
    · rw [S] at hq; rw [L]; split
      · simp
      · exact h.snv q hq
    · rw [S]; rw [L] at hq; split at hq
      · rename_i z; subst z; exact e2
      · exact h.lok q x hq hx
    · rw [L] at hq; split at hq
      · rename_i z; subst z
        rcases w2 with ⟨_, w⟩ | ⟨w, _⟩
        · obtain ⟨l, hl, hl2⟩ := saw_iff.mp w
          exact k2 (h.s2 _ l hl hl2)
        · rw [w] at hq; cases hq
      · exact k2 (h.z2 q hq)
    · rw [S] at hq; exact k2 (h.s2 q l hq hl)
  · have L := lv_step3 e
    have S : ∀ q, (s.step p).sn q = s.sn q := sn_stepN (by omega)
    exact ⟨by rw [hlen]; exact h.n1, by rw [hlen]; exact h.n5, lens.1, lens.2.1, lens.2.2, fun q x hq => h.vals q x (by rw [← L]; exact hq), fun q hq => by rw [cm_step]; exact h.cmv q (by rw [← L]; exact hq), fun q hq => by rw [L]; exact h.snv q (by rw [← S]; exact hq),
      fun q x hq hx => by rw [S]; exact h.lok q x (by rw [← L]; exact hq) hx, fun q hq => k2 (h.z2 q (by rw [← L]; exact hq)), fun q l hq hl => k2 (h.s2 q l (by rw [← S]; exact hq) hl)⟩
/-- who asks while nobody stands at 1 finds somebody at 2, who came -/
theorem ask_two (h : s.WF) (e : s.stg p = 3) : ∃ q, s.lv q = some 2 := by
  obtain ⟨x, hx, h1⟩ := stg3.mp e
  rcases h.vals p x hx with rfl | rfl | rfl
  · exact h.z2 p hx
  · exact absurd rfl h1
  · exact ⟨p, hx⟩
theorem two_came (h : s.WF) (e : ∃ q, s.lv q = some 2) : ∃ v, s.cm s.two = some v := by
  obtain ⟨_, h2, _⟩ := two_lev e
  cases c : s.cm s.two with
  | none => exact absurd c (h.cmv _ (by rw [h2]; simp))
  | some v => exact ⟨v, rfl⟩
/-! ### going on -/
theorem stg_step (h : s.WF) (hc : s.cm p ≠ none) (q : Nat) : (s.step p).stg q = if p = q then min 3 (s.stg p + 1) else s.stg q := by
  have hp := lt_of_cm h hc
  have hps : p < s.seen.length := by rw [h.ls]; exact hp
  have h4 := stg_lt s p
  rcases (show s.stg p = 0 ∨ s.stg p = 1 ∨ s.stg p = 2 ∨ s.stg p = 3 by omega) with e | e | e | e
  · by_cases z : p = q
    · subst z
      have hsn : s.sn p = none := by
        cases c : s.sn p with
        | none => rfl
        | some l => exact absurd (stg0.mp e) (h.snv p (by rw [c]; simp))
      rw [if_pos rfl, e]
      exact stg1.mpr ⟨by rw [lv_step0 e hp, if_pos rfl], by rw [sn_stepN (by omega)]; exact hsn⟩
    · rw [if_neg z]; unfold stg; rw [lv_step0 e hp, if_neg z, sn_stepN (by omega)]
  · by_cases z : p = q
    · subst z
      rw [if_pos rfl, e]
      exact stg2.mpr ⟨by rw [lv_step1 e]; exact (stg1.mp e).1, by rw [sn_step1 e hps, if_pos rfl]; simp⟩
    · rw [if_neg z]; unfold stg; rw [lv_step1 e, sn_step1 e hps, if_neg z]
  · by_cases z : p = q
    · subst z
      rw [if_pos rfl, e]
      refine stg3.mpr ⟨s.wr p, by rw [lv_step2 e hp, if_pos rfl], ?_⟩
      rcases wr02 s p with ⟨w, _⟩ | ⟨w, _⟩ <;> rw [w] <;> decide
    · rw [if_neg z]; unfold stg; rw [lv_step2 e hp, if_neg z, sn_stepN (by omega)]
  · have : (s.step p).stg q = s.stg q := by unfold stg; rw [lv_step3 e, sn_stepN (by omega)]
    rw [this]
    by_cases z : p = q
    · subst z; rw [if_pos rfl, e]; rfl
    · rw [if_neg z]
theorem stg_come (q : Nat) : (s.come p v).stg q = s.stg q := rfl
theorem no_one (h : ∀ q, s.stg q = 0 ∨ s.stg q = 3) : some 1 ∉ s.lev := fun m => by
  obtain ⟨q, hq⟩ := mem_getD.mp m
  have hq : s.lv q = some 1 := hq
  rcases h q with e | e
  · rw [stg0.mp e] at hq; cases hq
  · obtain ⟨x, hx, hx1⟩ := stg3.mp e
    rw [hq] at hx
    cases hx
    exact hx1 rfl
end
end DS
end Fp
/-! A door in the heap; promises of the program's defs -/
namespace Fp
open PySem PySem.Spec PyProof.Rows L2
def dfl (n : Int) (a b c e f : Addr) : List (Str × V) := [("many", .int n), ("came", .ref a), ("levels", .ref b), ("heard", .ref c), ("seen", .ref e), ("deeds", .ref f)]
structure DC (K : PySem.W.Frag) (C : Addr) : Prop where
  cl : Cls K C
  nM : NoAttr K C "many"
  nC : NoAttr K C "came"
  nL : NoAttr K C "levels"
  nH : NoAttr K C "heard"
  nS : NoAttr K C "seen"
  nD : NoAttr K C "deeds"
section
variable {n n' : Int} {a b c e f a' b' c' e' f' : Addr}
theorem d_many : (dfl n a b c e f).lookup ("many" : Str) = some (.int n) := by kernel_rfl
theorem d_came : (dfl n a b c e f).lookup ("came" : Str) = some (.ref a) := by kernel_rfl
theorem d_lev : (dfl n a b c e f).lookup ("levels" : Str) = some (.ref b) := by kernel_rfl
theorem d_heard : (dfl n a b c e f).lookup ("heard" : Str) = some (.ref c) := by kernel_rfl
theorem d_seen : (dfl n a b c e f).lookup ("seen" : Str) = some (.ref e) := by kernel_rfl
theorem d_deeds : (dfl n a b c e f).lookup ("deeds" : Str) = some (.ref f) := by kernel_rfl
theorem dp_came : putF "came" (.ref a') (dfl n a b c e f) = dfl n a' b c e f := by kernel_rfl
theorem dp_lev : putF "levels" (.ref b') (dfl n a b c e f) = dfl n a b' c e f := by kernel_rfl
theorem dp_heard : putF "heard" (.ref c') (dfl n a b c e f) = dfl n a b c' e f := by kernel_rfl
theorem dp_seen : putF "seen" (.ref e') (dfl n a b c e f) = dfl n a b c e' f := by kernel_rfl
theorem dp_deeds : putF "deeds" (.ref f') (dfl n a b c e f) = dfl n a b c e f' := by kernel_rfl
theorem d_all : putF "deeds" (.ref f) (putF "seen" (.ref e) (putF "heard" (.ref c) (putF "levels" (.ref b) (putF "came" (.ref a) (putF "many" (.int n) []))))) = dfl n a b c e f := by kernel_rfl
theorem no_check : (dfl n a b c e f).lookup ("check_player" : Str) = none := by kernel_rfl
theorem no_next : (dfl n a b c e f).lookup ("next" : Str) = none := by kernel_rfl
theorem no_shows : (dfl n a b c e f).lookup ("shows_level" : Str) = none := by kernel_rfl
theorem no_asks : (dfl n a b c e f).lookup ("asks" : Str) = none := by kernel_rfl
theorem no_step : (dfl n a b c e f).lookup ("step" : Str) = none := by kernel_rfl
theorem no_come : (dfl n a b c e f).lookup ("come" : Str) = none := by kernel_rfl
theorem no_copy : (dfl n a b c e f).lookup ("copy" : Str) = none := by kernel_rfl
end
/-- (VALUE,), or None -/
def One (H : Hp) (x : V) : Option V → Prop
  | none => x = .non
  | some v => ∃ p, x = .ref p ∧ H p = some (.tup [v])
def SeenAt (H : Hp) (x : V) : Option (List Lv) → Prop
  | none => x = .non
  | some l => ∃ p, x = .ref p ∧ TF H p (l.map lvV)
def DeedAt (H : Hp) (x : V) (d : Deed) : Prop := ∃ p, x = .ref p ∧ H p = some (.tup [.str (if d.stp then "step" else "come"), .int (d.p : Nat), d.x])
theorem One.mono {H H' : Hp} (g : TK H H') {x : V} {o : Option V} (h : One H x o) : One H' x o := by
  cases o with
  | none => exact h
  | some v => obtain ⟨p, e, q⟩ := h; exact ⟨p, e, g.t q⟩
theorem SeenAt.mono {H H' : Hp} (g : TK H H') {x : V} {o : Option (List Lv)} (h : SeenAt H x o) : SeenAt H' x o := by
  cases o with
  | none => exact h
  | some v => obtain ⟨p, e, q⟩ := h; exact ⟨p, e, g.f q⟩
theorem DeedAt.mono {H H' : Hp} (g : TK H H') {x : V} {o : Deed} (h : DeedAt H x o) : DeedAt H' x o := by
  obtain ⟨p, e, q⟩ := h; exact ⟨p, e, g.t q⟩
theorem pr_imp {α β : Type} {F G : α → β → Prop} (f : ∀ a b, F a b → G a b) : ∀ {l : List α} {m : List β}, Paired F l m → Paired G l m
  | _, _, .nil => .nil
  | _, _, .cons a b => .cons (f _ _ a) (pr_imp f b)
theorem pr_len {α β : Type} {F : α → β → Prop} : ∀ {l : List α} {m : List β}, Paired F l m → l.length = m.length
  | _, _, .nil => rfl
  | _, _, .cons _ b => congrArg (· + 1) (pr_len b)
theorem pr_at {α β : Type} {F : α → β → Prop} : ∀ {l : List α} {m : List β} {i : Nat} {y : β}, Paired F l m → m[i]? = some y → ∃ x, l[i]? = some x ∧ F x y
  | _, _, 0, _, .cons h _, e => by cases e; exact ⟨_, rfl, h⟩
  | _, _, i + 1, x, .cons _ r, e => pr_at (i := i) r e
  | _, _, _, _, .nil, e => by cases e
theorem pr_set {α β : Type} {F : α → β → Prop} {x : α} {y : β} (h : F x y) : ∀ {l : List α} {m : List β} (i : Nat), Paired F l m → Paired F (l.set i x) (m.set i y)
  | _, _, _, .nil => .nil
  | _, _, 0, .cons _ r => .cons h r
  | _, _, i + 1, .cons a r => .cons a (pr_set h i r)
theorem pr_snoc {α β : Type} {F : α → β → Prop} {a : α} {b : β} (h : F a b) : ∀ {l : List α} {m : List β}, Paired F l m → Paired F (l ++ [a]) (m ++ [b])
  | _, _, .nil => .cons h .nil
  | _, _, .cons k r => .cons k (pr_snoc h r)
theorem pr_rep {α β : Type} {F : α → β → Prop} {x : α} {y : β} (h : F x y) : ∀ n : Nat, Paired F (List.replicate n x) (List.replicate n y)
  | 0 => .nil
  | n + 1 => .cons h (pr_rep h n)
/-- values that may be brought -/
def Good (H : Hp) (v : V) : Prop := ∃ d, VAt H v d ∧ VOk 3 d
theorem Good.mono {H H' : Hp} (g : TK H H') {v : V} (h : Good H v) : Good H' v := by obtain ⟨d, a, b⟩ := h; exact ⟨d, a.mono g, b⟩
structure DoorIn (C : Addr) (H : Hp) (d : Addr) (s : DS) (dx a b c e f : Addr) (cv hv sv dv : List V) : Prop where
  obj : H d = some (.ins C dx (dfl (s.lev.length : Nat) a b c e f))
  own : H dx = some (.own d)
  came : TF H a cv
  cameP : Paired (One H) cv s.came
  lev : TF H b (s.lev.map lvV)
  heard : TF H c hv
  heardP : Paired (One H) hv s.heard
  seen : TF H e sv
  seenP : Paired (SeenAt H) sv s.seen
  deeds : H f = some (.tup dv)
  deedsP : Paired (DeedAt H) dv s.deeds
  good : ∀ p v, s.cm p = some v → Good H v
  wf : s.WF
def DoorAt (C : Addr) (H : Hp) (d : Addr) (s : DS) : Prop := ∃ dx a b c e f cv hv sv dv, DoorIn C H d s dx a b c e f cv hv sv dv
theorem DoorIn.mono {C : Addr} {H H' : Hp} {d : Addr} {s : DS} {dx a b c e f : Addr} {cv hv sv dv : List V} (h : DoorIn C H d s dx a b c e f cv hv sv dv) (g : TK H H') (g1 : ∀ o, H d = some o → H' d = some o) (g2 : H' dx = H dx) : DoorIn C H' d s dx a b c e f cv hv sv dv :=
  ⟨g1 _ h.obj, by rw [g2]; exact h.own, g.f h.came, pr_imp (fun _ _ => One.mono g) h.cameP, g.f h.lev, g.f h.heard, pr_imp (fun _ _ => One.mono g) h.heardP, g.f h.seen, pr_imp (fun _ _ => SeenAt.mono g) h.seenP, g.t h.deeds, pr_imp (fun _ _ => DeedAt.mono g) h.deedsP, fun p v hv => (h.good p v hv).mono g, h.wf⟩
theorem DoorAt.same {C : Addr} {H H' : Hp} {d : Addr} {s : DS} (h : DoorAt C H d s) (g : Same H H') : DoorAt C H' d s := by
  obtain ⟨dx, a, b, c, e, f, cv, hv, sv, dv, h⟩ := h
  exact ⟨dx, a, b, c, e, f, cv, hv, sv, dv, h.mono (.of g) (fun o q => g _ _ q) (by rw [g _ _ h.own]; exact h.own.symm)⟩
/-- what is not an instance, an own dict or a tuple may change -/
theorem DoorAt.but {C : Addr} {H H' : Hp} {d : Addr} {s : DS} {S : List Addr} (h : DoorAt C H d s) (g : But S H H') (n : ∀ x ∈ S, (∃ xs, H x = some (.lst xs)) ∨ ∃ kvs, H x = some (.dK kvs)) : DoorAt C H' d s := by
  obtain ⟨dx, a, b, c, e, f, cv, hv, sv, dv, h⟩ := h
  have nd : d ∉ S := fun m => by
    rcases n d m with ⟨xs, z⟩ | ⟨xs, z⟩ <;> rw [h.obj] at z <;> cases z
  have nx : dx ∉ S := fun m => by
    rcases n dx m with ⟨xs, z⟩ | ⟨xs, z⟩ <;> rw [h.own] at z <;> cases z
  refine ⟨dx, a, b, c, e, f, cv, hv, sv, dv, h.mono (TK.but g fun x m z => ?_) (fun o q => g _ _ nd q) (by rw [g _ _ nx h.own]; exact h.own.symm)⟩
  rcases n x m with ⟨ys, z'⟩ | ⟨ys, z'⟩ <;> rw [z'] at z <;> exact z
theorem DoorAt.wf {C : Addr} {H : Hp} {d : Addr} {s : DS} (h : DoorAt C H d s) : s.WF := by
  obtain ⟨dx, a, b, c, e, f, cv, hv, sv, dv, h⟩ := h
  exact h.wf
theorem getD_at {α : Type} {l : List (Option α)} {p : Nat} (h : p < l.length) : l[p]? = some (l.getD p none) := by
  rw [List.getElem?_eq_getElem h]; exact congrArg some (getD_of (List.getElem?_eq_getElem h)).symm
theorem DS.WF.acm {s : DS} (W : s.WF) {p : Nat} (h : p < s.lev.length) : s.came[p]? = some (s.cm p) := getD_at (by rw [W.lc]; exact h)
theorem DS.WF.asn {s : DS} (W : s.WF) {p : Nat} (h : p < s.lev.length) : s.seen[p]? = some (s.sn p) := getD_at (by rw [W.ls]; exact h)
theorem alv {s : DS} {p : Nat} (h : p < s.lev.length) : s.lev[p]? = some (s.lv p) := getD_at h
theorem alvV {s : DS} {p : Nat} (h : p < s.lev.length) : (s.lev.map lvV)[p]? = some (lvV (s.lv p)) := by rw [List.getElem?_map, alv h]; rfl
theorem One.is {H : Hp} {x : V} {o : Option V} (h : One H x o) : decide (x = .non) = o.isNone := by
  cases o with
  | none => rw [show x = .non from h]; rfl
  | some v => obtain ⟨p, e, _⟩ := h; rw [e]; rfl
theorem SeenAt.is {H : Hp} {x : V} {o : Option (List Lv)} (h : SeenAt H x o) : decide (x = .non) = o.isNone := by
  cases o with
  | none => rw [show x = .non from h]; rfl
  | some v => obtain ⟨p, e, _⟩ := h; rw [e]; rfl
theorem lv_flat : ∀ l : List Lv, (l.map lvV).all flatV = true
  | [] => rfl
  | none :: l => by rw [List.map_cons, List.all_cons, lv_flat l]; rfl
  | some i :: l => by rw [List.map_cons, List.all_cons, lv_flat l]; rfl
theorem eqV_lv (i : Int) (a : Lv) : eqV (lvV a) (.int i) = decide (a = some i) := by
  cases a with
  | none => rfl
  | some j =>
    show (j == i) = _
    rw [Bool.eq_iff_iff]; simp
theorem inV_lv (i : Int) (l : List Lv) : inV (.int i) (l.map lvV) = decide (some i ∈ l) := by
  unfold inV
  rw [List.any_map, Bool.eq_iff_iff, List.any_eq_true, decide_eq_true_iff]
  constructor
  · rintro ⟨x, hx, e⟩
    have e' : eqV (lvV x) (.int i) = true := e
    rw [eqV_lv, decide_eq_true_iff] at e'
    exact e' ▸ hx
  · intro h
    exact ⟨some i, h, by show eqV (lvV (some i)) (.int i) = true; rw [eqV_lv]; simp⟩
def DS.log (s : DS) (p : Nat) : DS := { s with deeds := s.deeds ++ [⟨true, p, .str (DS.kindOf (s.stg p))⟩] }
theorem DS.log_step (s : DS) (p : Nat) : { (s.log p).step p with deeds := (s.log p).deeds } = s.step p := by
  have h4 := DS.stg_lt s p
  have e0 : (s.log p).stg p = s.stg p := rfl
  rcases (show s.stg p = 0 ∨ s.stg p = 1 ∨ s.stg p = 2 ∨ s.stg p = 3 by omega) with e | e | e | e
  · rw [DS.step0 e, DS.step0 (e0.trans e)]; unfold DS.log; rw [e]; rfl
  · rw [DS.step1 e, DS.step1 (e0.trans e)]; unfold DS.log; rw [e]; rfl
  · rw [DS.step2 e, DS.step2 (e0.trans e)]; unfold DS.log; rw [e]; rfl
  · rw [DS.step3 e, DS.step3 (e0.trans e)]; unfold DS.log; rw [e]; split <;> rfl
theorem DS.WF.log {s : DS} {p : Nat} (W : s.WF) : (s.log p).WF := ⟨W.n1, W.n5, W.lc, W.lh, W.ls, W.vals, W.cmv, W.snv, W.lok, W.z2, W.s2⟩
/-- a tuple, of either kind -/
def TT (H : Hp) (a : Addr) (xs : List V) : Prop := H a = some (.tup xs) ∨ TF H a xs
theorem TT.sq {K : PySem.W.Frag} {H : Hp} {a : Addr} {xs : List V} (h : TT H a xs) : SqT K H a xs := h.elim (fun h => .of h) fun h => h.sq
theorem TK.tt {H H' : Hp} (g : TK H H') {a : Addr} {xs : List V} (h : TT H a xs) : TT H' a xs := h.imp (fun h => g.t h) fun h => g.f h
/-- what a step tells -/
def ToldAt (H : Hp) (t : Addr) : Told → Prop
  | .level i => H t = some (.tup [.str "level", .int i])
  | .look l => ∃ q, H t = some (.tup [.str "look", .ref q]) ∧ TT H q (l.map lvV)
  | .wait => H t = some (.tup [.str "wait"])
  | .word v => H t = some (.tup [.str "word", v])
theorem ToldAt.mono {H H' : Hp} (g : TK H H') {t : Addr} {x : Told} (h : ToldAt H t x) : ToldAt H' t x := by
  cases x with
  | level i => exact g.t h
  | look l => obtain ⟨q, a, b⟩ := h; exact ⟨q, g.t a, g.tt b⟩
  | wait => exact g.t h
  | word v => exact g.t h
/-! ### the law's own door -/
def odict (l1 l2 l3 l4 l5 : Addr) (k : Int) : List (Key × V) := [(.inr "came", .ref l1), (.inr "levels", .ref l2), (.inr "stages", .ref l3), (.inr "won", .ref l4), (.inr "heard", .ref l5), (.inr "steps", .int k)]
section
variable {l1 l2 l3 l4 l5 : Addr} {k k' : Int}
theorem o_came : valV (odict l1 l2 l3 l4 l5 k) (.inr "came") = some (.ref l1) := by kernel_rfl
theorem o_lev : valV (odict l1 l2 l3 l4 l5 k) (.inr "levels") = some (.ref l2) := by kernel_rfl
theorem o_stg : valV (odict l1 l2 l3 l4 l5 k) (.inr "stages") = some (.ref l3) := by kernel_rfl
theorem o_won : valV (odict l1 l2 l3 l4 l5 k) (.inr "won") = some (.ref l4) := by kernel_rfl
theorem o_heard : valV (odict l1 l2 l3 l4 l5 k) (.inr "heard") = some (.ref l5) := by kernel_rfl
theorem o_steps : valV (odict l1 l2 l3 l4 l5 k) (.inr "steps") = some (.int k) := by kernel_rfl
theorem op_steps : putK (odict l1 l2 l3 l4 l5 k) (.inr "steps") (.int k') = odict l1 l2 l3 l4 l5 k' := by kernel_rfl
theorem o_merge : mergeK [] (odict l1 l2 l3 l4 l5 k) = odict l1 l2 l3 l4 l5 k := by kernel_rfl
theorem og_came {H : Hp} {o : Addr} (h : H o = some (.dK (odict l1 l2 l3 l4 l5 k))) : DGet H o (.str "came") (some (.ref l1)) := by
  have := DGet.k (k := .inr "came") h; rw [o_came] at this; exact this
theorem og_lev {H : Hp} {o : Addr} (h : H o = some (.dK (odict l1 l2 l3 l4 l5 k))) : DGet H o (.str "levels") (some (.ref l2)) := by
  have := DGet.k (k := .inr "levels") h; rw [o_lev] at this; exact this
theorem og_stg {H : Hp} {o : Addr} (h : H o = some (.dK (odict l1 l2 l3 l4 l5 k))) : DGet H o (.str "stages") (some (.ref l3)) := by
  have := DGet.k (k := .inr "stages") h; rw [o_stg] at this; exact this
theorem og_won {H : Hp} {o : Addr} (h : H o = some (.dK (odict l1 l2 l3 l4 l5 k))) : DGet H o (.str "won") (some (.ref l4)) := by
  have := DGet.k (k := .inr "won") h; rw [o_won] at this; exact this
theorem og_heard {H : Hp} {o : Addr} (h : H o = some (.dK (odict l1 l2 l3 l4 l5 k))) : DGet H o (.str "heard") (some (.ref l5)) := by
  have := DGet.k (k := .inr "heard") h; rw [o_heard] at this; exact this
theorem og_steps {H : Hp} {o : Addr} (h : H o = some (.dK (odict l1 l2 l3 l4 l5 k))) : DGet H o (.str "steps") (some (.int k)) := by
  have := DGet.k (k := .inr "steps") h; rw [o_steps] at this; exact this
theorem oput_steps {H : Hp} {o : Addr} (h : H o = some (.dK (odict l1 l2 l3 l4 l5 k))) : DPut H o (.str "steps") (.int k') (upd H o (.dK (odict l1 l2 l3 l4 l5 k'))) := by
  have := DPut.k (k := .inr "steps") (v := .int k') h (szt (by show 6 < _; decide)); rw [op_steps] at this; exact this
end
theorem ixn {n j : Nat} (h : j < n) : ixN n (j : Int) = some j := by
  unfold ixN
  rw [if_pos (by omega), if_pos (by omega)] <;> simp
def DS.won (s : DS) (p : Nat) : Bool := match s.sn p with
  | none => false
  | some l => !decide (some 2 ∈ l)
structure OwnIn (H : Hp) (o l1 l2 l3 l4 l5 : Addr) (s : DS) (cv hv : List V) (k : Int) : Prop where
  dict : H o = some (.dK (odict l1 l2 l3 l4 l5 k))
  came : H l1 = some (.lst cv)
  cameP : Paired (One H) cv s.came
  lev : H l2 = some (.lst (s.lev.map lvV))
  stg : H l3 = some (.lst ((List.range s.lev.length).map fun p => V.int (s.stg p : Nat)))
  won : H l4 = some (.lst ((List.range s.lev.length).map fun p => V.bl (s.won p)))
  heard : H l5 = some (.lst hv)
  heardP : Paired (One H) hv s.heard
  nd : [o, l1, l2, l3, l4, l5].Nodup
def OwnAt (H : Hp) (o : Addr) (L : List Addr) (s : DS) (k : Int) : Prop := ∃ l1 l2 l3 l4 l5 cv hv, L = [o, l1, l2, l3, l4, l5] ∧ OwnIn H o l1 l2 l3 l4 l5 s cv hv k
theorem OwnAt.but {H H' : Hp} {o : Addr} {L S : List Addr} {s : DS} {k : Int} (h : OwnAt H o L s k) (g : But S H H') (n : ∀ x ∈ S, x ∉ L) (tk : TK H H') : OwnAt H' o L s k := by
  obtain ⟨l1, l2, l3, l4, l5, cv, hv, rfl, h⟩ := h
  have w : ∀ x ∈ [o, l1, l2, l3, l4, l5], x ∉ S := fun x hx m => n x m hx
  exact ⟨l1, l2, l3, l4, l5, cv, hv, rfl, g _ _ (w o (by simp)) h.dict, g _ _ (w l1 (by simp)) h.came, pr_imp (fun _ _ => One.mono tk) h.cameP, g _ _ (w l2 (by simp)) h.lev, g _ _ (w l3 (by simp)) h.stg, g _ _ (w l4 (by simp)) h.won, g _ _ (w l5 (by simp)) h.heard, pr_imp (fun _ _ => One.mono tk) h.heardP, h.nd⟩
theorem OwnAt.same {H H' : Hp} {o : Addr} {L : List Addr} {s : DS} {k : Int} (h : OwnAt H o L s k) (g : Same H H') : OwnAt H' o L s k := h.but (S := []) (.of g) (fun _ m => by cases m) (.of g)
/-- what stands at its places -/
theorem OwnAt.kind {H : Hp} {o : Addr} {L : List Addr} {s : DS} {k : Int} (h : OwnAt H o L s k) : ∀ x ∈ L, (∃ xs, H x = some (.lst xs)) ∨ ∃ kvs, H x = some (.dK kvs) := by
  obtain ⟨l1, l2, l3, l4, l5, cv, hv, rfl, h⟩ := h
  intro x hx
  simp only [List.mem_cons, List.not_mem_nil, or_false] at hx
  rcases hx with rfl | rfl | rfl | rfl | rfl | rfl
  · exact .inr ⟨_, h.dict⟩
  · exact .inl ⟨_, h.came⟩
  · exact .inl ⟨_, h.lev⟩
  · exact .inl ⟨_, h.stg⟩
  · exact .inl ⟨_, h.won⟩
  · exact .inl ⟨_, h.heard⟩
theorem none0 {P : Program} {w : World} {K : PySem.W.Frag} {mg : Str → Option Value} {base : Heap} {f : Addr} {fd : FuncData} {sp : Sp} {ps : List Str} (h : ∀ vs H Q E, ¬ sp vs H Q E) : FnOk P w K mg base CX0 0 f fd ps sp :=
  ⟨fun vs H Q E q => absurd q (h vs H Q E), fun A outer s H args us vs Q E _ _ _ _ q => absurd q (h vs H Q E)⟩
/-! ### promises -/
def vc : Nat → Nat
  | 0 => 2
  | n + 1 => 2 + 3 * vc n
def spVal (n : Nat) : Sp := fun vs H Q _ => ∃ (p : Addr) (deep m : Nat), vs = [.ref p, .int deep] ∧ deep < n ∧ deep ≤ 2 ∧ m + vc deep ≤ 900000 ∧ PotAt H p m ∧ ∀ v d H', But [p] H H' → VAt H' v d → VOk deep d → PotAt H' p (m + vc deep) → Q v H'
def spODoor : Sp := fun vs H Q _ => ∃ n : Nat, vs = [.int n] ∧ n ≤ 5 ∧ ∀ o L H', Same H H' → (∀ x ∈ L, H x = none) → OwnAt H' o L (DS.new n) 0 → Q (.ref o) H'
def spOCome : Sp := fun vs H Q _ => ∃ (o : Addr) (L : List Addr) (p : Nat) (v : V) (s : DS) (k : Int), vs = [.ref o, .int p, v] ∧ OwnAt H o L s k ∧ p < s.lev.length ∧ s.WF ∧ ∀ H', But L H H' → OwnAt H' o L (s.come p v) k → Q .non H'
def spOStep : Sp := fun vs H Q _ => ∃ (o : Addr) (L : List Addr) (p : Nat) (s : DS) (k : Int), vs = [.ref o, .int p] ∧ OwnAt H o L s k ∧ s.cm p ≠ none ∧ s.WF ∧ ∀ t H', But L H H' → ToldAt H' t (s.told p) → OwnAt H' o L (s.step p) (k + 1) → Q (.ref t) H'
/-- a drawn deed: a coming (None as long as the player is here), or a step -/
def spDeed : Sp := fun vs H Q _ => ∃ (pt o : Addr) (L : List Addr) (s : DS) (k : Int) (m : Nat), vs = [.ref pt, .ref o] ∧ OwnAt H o L s k ∧ s.WF ∧ pt ∉ L ∧ PotAt H pt m ∧ m < 800000 ∧
  ∀ (t : Addr) (p : Nat) (H' : Hp), But [pt] H H' → PotAt H' pt (m + 100) → p < s.lev.length →
    ((s.cm p = none ∧ ∃ q v, H' t = some (.tup [.int (p : Nat), .ref q]) ∧ H' q = some (.tup [v]) ∧ ∃ d, VAt H' v d ∧ VOk 2 d) ∨ (s.cm p ≠ none ∧ H' t = some (.tup [.int (p : Nat), .non]))) → Q (.ref t) H'
def spIsWhole : Sp := fun vs H Q _ => ∃ i : Int, vs = [.int i] ∧ Q (.bl true) H
def spBelow : Sp := fun vs H Q _ => ∃ i n : Int, vs = [.int i, .int n] ∧ Q (.bl (decide (0 ≤ i ∧ i < n))) H
def spExch (K : PySem.W.Frag) : Sp := fun vs H Q _ => ∃ (a : Addr) (xs : List V) (p : Nat) (v : V), vs = [.ref a, .int p, v] ∧ SqT K H a xs ∧ p < xs.length ∧ xs.length ≤ 1000 ∧ ∀ q H', Same H H' → TF H' q (xs.set p v) → Q (.ref q) H'
def spSmW (n : Nat) : Sp := fun vs H Q _ => ∃ (v : V) (d : PyData) (m : Nat) (deep : Int), vs = [v, .int deep] ∧ VAt H v d ∧ VOk m d ∧ m < n ∧ (m : Int) ≤ deep ∧ ∀ H', Same H H' → Q (.bl true) H'
def spSmall : Sp := fun vs H Q _ => ∃ v : V, vs = [v] ∧ Good H v ∧ ∀ H', Same H H' → Q (.bl true) H'
def spDInit (C : Addr) : Sp := fun vs H Q _ => ∃ (d dx : Addr) (n : Nat), vs = [.ref d, .int n] ∧ 1 ≤ n ∧ n ≤ 5 ∧ H d = some (.ins C dx []) ∧ H dx = some (.own d) ∧
  ∀ H', But [d] H H' → DoorAt C H' d (DS.new n) → Q .non H'
def spCheck (C : Addr) : Sp := fun vs H Q _ => ∃ (d : Addr) (p : Nat) (s : DS), vs = [.ref d, .int p] ∧ DoorAt C H d s ∧ p < s.lev.length ∧ Q .non H
def optS : Option Str → V
  | none => .non
  | some z => .str z
def spNext (C : Addr) : Sp := fun vs H Q _ => ∃ (d : Addr) (p : Nat) (s : DS), vs = [.ref d, .int p] ∧ DoorAt C H d s ∧ p < s.lev.length ∧ ∀ H', Same H H' → Q (optS (s.next p)) H'
def spShows (C : Addr) : Sp := fun vs H Q _ => ∃ (d : Addr) (p : Nat) (s : DS), vs = [.ref d, .int p] ∧ DoorAt C H d s ∧ p < s.lev.length ∧ (s.stg p = 0 ∨ s.stg p = 2) ∧ s.cm p ≠ none ∧
  ∀ t H', But [d] H H' → ToldAt H' t (s.told p) → DoorAt C H' d { s.step p with deeds := s.deeds } → Q (.ref t) H'
def spAsks (C : Addr) : Sp := fun vs H Q _ => ∃ (d : Addr) (p : Nat) (s : DS), vs = [.ref d, .int p] ∧ DoorAt C H d s ∧ p < s.lev.length ∧ s.stg p = 3 ∧ s.cm p ≠ none ∧
  ∀ t H', But [d] H H' → ToldAt H' t (s.told p) → DoorAt C H' d { s.step p with deeds := s.deeds } → Q (.ref t) H'
def spStep (C : Addr) : Sp := fun vs H Q _ => ∃ (d : Addr) (p : Nat) (s : DS), vs = [.ref d, .int p] ∧ DoorAt C H d s ∧ s.cm p ≠ none ∧ s.deeds.length < 100000 ∧
  ∀ t H', But [d] H H' → ToldAt H' t (s.told p) → DoorAt C H' d (s.step p) → Q (.ref t) H'
def spCome (C : Addr) : Sp := fun vs H Q _ => ∃ (d : Addr) (p : Nat) (v : V) (s : DS), vs = [.ref d, .int p, v] ∧ DoorAt C H d s ∧ p < s.lev.length ∧ s.cm p = none ∧ Good H v ∧ s.deeds.length < 100000 ∧
  ∀ H', But [d] H H' → DoorAt C H' d (s.come p v) → Q .non H'
def DS.held (s : DS) : List Nat := (List.range s.lev.length).filter fun p => decide (s.lv p = some 1)
def spHeld (C : Addr) : Sp := fun vs H Q _ => ∃ (d : Addr) (s : DS), vs = [.ref d] ∧ DoorAt C H d s ∧ ∀ t H', Same H H' → H' t = some (.tup (s.held.map fun (p : Nat) => V.int (p : Int))) → Q (.ref t) H'
end Fp
namespace Fp
open PySem PySem.Spec PyProof.Rows L2
theorem u65 {k : Nat} {A : Around} (r : Room k A) : A.units + 65 < cLine := by have := r.un; omega
/-! ### rules that may stand within a comprehension -/
theorem op_eqDK {X : Cx} {K : PySem.W.Frag} (hu : X.A.units + 64 < cLine) (e : X.K = K := by rfl) : OpR X (compareOp .Eq) (rEqD K) := by subst e; exact op_eqD hu
theorem op_neDK {X : Cx} {K : PySem.W.Frag} (hu : X.A.units + 64 < cLine) (e : X.K = K := by rfl) : OpR X (compareOp .NotEq) (rNeD K) := by subst e; exact op_neD hu
theorem ix_tupK {X : Cx} {K : PySem.W.Frag} (e : X.K = K := by rfl) : IxR X (rIxT K) := by subst e; exact ix_tup
theorem ix_listK {X : Cx} {K : PySem.W.Frag} (e : X.K = K := by rfl) : IxR X (rIxL K) := by subst e; exact ix_list
def rRepr (K : PySem.W.Frag) : List V → Hp → VK → Prop := fun xs H Q => ∃ (x : V) (d : PyData) (k n : Nat), xs = [x] ∧ Dp K H x d ∧ Sm k n d ∧ k ≤ 64 ∧ n ≤ 1000000 ∧ Q (.str d.shown) H
theorem call_reprK {X : Cx} {K : PySem.W.Frag} (hgu : X.A.guards = some []) (hu : X.A.units + 66 < cLine) (e : X.K = K := by rfl) : CallR X (.builtin "repr") (rRepr K) := by subst e; exact call_reprA hgu hu
theorem pe_fldK {X : Cx} {K : PySem.W.Frag} {o : Expr} {f : Str} {pos : Pos} {to : TE} (h : PE X (.Attribute o f pos) (tFld X.K to f)) (e : X.K = K := by rfl) : PE X (.Attribute o f pos) (tFld K to f) := by subst e; exact h
/-! ### what is told, as data -/
def TOk (H : Hp) : Told → Prop
  | .level i => 0 ≤ i ∧ i ≤ 2
  | .look l => l.length ≤ 5 ∧ ∀ x, some x ∈ l → 0 ≤ x ∧ x ≤ 2
  | .wait => True
  | .word v => Good H v
theorem TOk.mono {H H' : Hp} (g : TK H H') {x : Told} (h : TOk H x) : TOk H' x := by
  cases x with
  | level i => exact h
  | look l => exact h
  | wait => exact h
  | word v => exact Good.mono g h
theorem DS.WF.small {s : DS} (W : s.WF) : s.lev.length ≤ 5 ∧ ∀ x, some x ∈ s.lev → 0 ≤ x ∧ x ≤ 2 := ⟨W.n5, fun x h => by
  obtain ⟨q, hq⟩ := mem_getD.mp h
  rcases W.vals q x hq with rfl | rfl | rfl <;> decide⟩
theorem DoorAt.tok {C : Addr} {H : Hp} {d : Addr} {s : DS} {p : Nat} (h : DoorAt C H d s) : TOk H (s.told p) := by
  obtain ⟨dx, a, b, c, e, f, cv, hv, sv, dv, D⟩ := h
  have W := D.wf
  have h4 := DS.stg_lt s p
  rcases (show s.stg p = 0 ∨ s.stg p = 1 ∨ s.stg p = 2 ∨ s.stg p = 3 by omega) with z | z | z | z
  · rw [DS.told0 z]; exact ⟨by decide, by decide⟩
  · rw [DS.told1 z]; exact W.small
  · rw [DS.told2 z]; rcases DS.wr02 s p with ⟨e, _⟩ | ⟨e, _⟩ <;> rw [e] <;> exact ⟨by decide, by decide⟩
  · rw [DS.told3 z]; split
    · trivial
    · obtain ⟨v, hv⟩ := DS.two_came W (DS.ask_two W z)
      rw [hv]
      exact D.good _ _ hv
def lvD : Lv → PyData
  | none => .none
  | some i => .int i
theorem lv_dp {K : PySem.W.Frag} {H : Hp} : ∀ l : List Lv, DpAll K H (l.map lvV) (l.map lvD)
  | [] => .nil
  | none :: l => .cons .non (lv_dp l)
  | some i :: l => .cons (.int i) (lv_dp l)
theorem lv_sms {l : List Lv} (h : ∀ x, some x ∈ l → 0 ≤ x ∧ x ≤ 2) (hl : l.length ≤ 5) : Sms 1 5 (l.map lvD) := by
  refine (Sms.all (k := 1) (n := 0) fun d hd => ?_).mono (Nat.le_refl _) (by rw [List.length_map]; omega)
  obtain ⟨x, hx, rfl⟩ := List.mem_map.mp hd
  cases x with
  | none => exact Sm.non
  | some i => have := h i hx; exact Sm.int (by omega) (by omega)
theorem Good.dp {K : PySem.W.Frag} {H : Hp} {v : V} (h : Good H v) : ∃ d, Dp K H v d ∧ Sm 4 39 d := by
  obtain ⟨d, a, b⟩ := h
  exact ⟨d, a.dp, b.sm⟩
theorem sm_word (z : Str) (h : (decide (z.cps.size ≤ 10) && z.cps.toList.all (fun c => decide (c < 16 ^ 8)) && PyData.strOk z) = true) : Sm 1 10 (.str z) := by
  rw [Bool.and_eq_true, Bool.and_eq_true] at h
  exact Sm.str (of_decide_eq_true h.1.1) h.1.2 h.2
/-- what is told, as one data, wherever it stands -/
theorem told_data {H : Hp} {x : Told} (o : TOk H x) : ∃ d, Sm 6 100 d ∧ ∀ (K : PySem.W.Frag) (H' : Hp) (t : Addr), TK H H' → ToldAt H' t x → Dp K H' (.ref t) d := by
  cases x with
  | level i =>
    refine ⟨.tuple [.str "level", .int i], ?_, fun K H' t _ h => .tup (.of h) (.cons (.str _) (.cons (.int _) .nil))⟩
    exact (Sms.tup (.cons (sm_word _ (by decide +kernel)) (.cons ((Sm.int (i := i) (by have := o.1; omega) (by have := o.2; omega)).mono (Nat.le_refl 1) (Nat.le_refl 0)) (Sms.nil (n := 0))))).mono (by decide) (by decide)
  | look l =>
    refine ⟨.tuple [.str "look", .tuple (l.map lvD)], ?_, fun K H' t _ h => by obtain ⟨q, a, b⟩ := h; exact .tup (.of a) (.cons (.str _) (.cons (.tup b.sq (lv_dp l)) .nil))⟩
    exact (Sms.tup (.cons ((sm_word "look" (by decide +kernel)).mono (by decide : 1 ≤ 2) (Nat.le_refl 10)) (.cons (lv_sms o.2 o.1).tup (Sms.nil (n := 0))))).mono (by decide) (by decide)
  | wait =>
    refine ⟨.tuple [.str "wait"], ?_, fun K H' t _ h => .tup (.of h) (.cons (.str _) .nil)⟩
    exact (Sms.tup (.cons (sm_word "wait" (by decide +kernel)) (Sms.nil (n := 0)))).mono (by decide) (by decide)
  | word v =>
    obtain ⟨d, hd, ho⟩ := o
    refine ⟨.tuple [.str "word", d], ?_, fun K H' t g h => .tup (.of h) (.cons (.str _) (.cons (hd.mono g).dp .nil))⟩
    exact (Sms.tup (.cons ((sm_word "word" (by decide +kernel)).mono (by decide : 1 ≤ 4) (Nat.le_refl 10)) (.cons ho.sm (Sms.nil (n := 0))))).mono (by decide) (by decide)
/-- two tellings of one thing are one in data -/
theorem told_two {K : PySem.W.Frag} {H : Hp} {t1 t2 : Addr} {x : Told} (h1 : ToldAt H t1 x) (h2 : ToldAt H t2 x) (o : TOk H x) : ∃ d, Dp K H (.ref t1) d ∧ Dp K H (.ref t2) d ∧ Sm 6 100 d := by
  cases x with
  | level i =>
    refine ⟨.tuple [.str "level", .int i], .tup (.of h1) (.cons (.str _) (.cons (.int _) .nil)), .tup (.of h2) (.cons (.str _) (.cons (.int _) .nil)), ?_⟩
    exact (Sms.tup (.cons (sm_word _ (by decide +kernel)) (.cons ((Sm.int (i := i) (by have := o.1; omega) (by have := o.2; omega)).mono (Nat.le_refl 1) (Nat.le_refl 0)) (Sms.nil (n := 0))))).mono (by decide) (by decide)
  | look l =>
    obtain ⟨q1, a1, b1⟩ := h1
    obtain ⟨q2, a2, b2⟩ := h2
    refine ⟨.tuple [.str "look", .tuple (l.map lvD)], .tup (.of a1) (.cons (.str _) (.cons (.tup b1.sq (lv_dp l)) .nil)), .tup (.of a2) (.cons (.str _) (.cons (.tup b2.sq (lv_dp l)) .nil)), ?_⟩
    exact (Sms.tup (.cons ((sm_word "look" (by decide +kernel)).mono (by decide : 1 ≤ 2) (Nat.le_refl 10)) (.cons (lv_sms o.2 o.1).tup (Sms.nil (n := 0))))).mono (by decide) (by decide)
  | wait =>
    refine ⟨.tuple [.str "wait"], .tup (.of h1) (.cons (.str _) .nil), .tup (.of h2) (.cons (.str _) .nil), ?_⟩
    exact (Sms.tup (.cons (sm_word "wait" (by decide +kernel)) (Sms.nil (n := 0)))).mono (by decide) (by decide)
  | word v =>
    obtain ⟨d, hd, sm⟩ := Good.dp (K := K) o
    refine ⟨.tuple [.str "word", d], .tup (.of h1) (.cons (.str _) (.cons hd .nil)), .tup (.of h2) (.cons (.str _) (.cons hd .nil)), ?_⟩
    exact (Sms.tup (.cons ((sm_word "word" (by decide +kernel)).mono (by decide : 1 ≤ 4) (Nat.le_refl 10)) (.cons sm (Sms.nil (n := 0))))).mono (by decide) (by decide)
/-! ### lots of players -/
def natV (l : List Nat) : List V := l.map fun (p : Nat) => V.int (p : Int)
theorem natV_dp {K : PySem.W.Frag} {H : Hp} : ∀ l : List Nat, DpAll K H (natV l) (l.map fun (p : Nat) => PyData.int (p : Int))
  | [] => .nil
  | p :: l => .cons (.int _) (natV_dp l)
theorem natV_sm {l : List Nat} (h : ∀ p ∈ l, p ≤ 5) (hl : l.length ≤ 5) : Sm 2 5 (.tuple (l.map fun (p : Nat) => PyData.int (p : Int))) := by
  refine (Sms.all (k := 1) (n := 0) fun d hd => ?_).tup.mono (Nat.le_refl _) (by rw [List.length_map]; omega)
  obtain ⟨x, hx, rfl⟩ := List.mem_map.mp hd
  have := h x hx
  exact Sm.int (by omega) (by omega)
theorem held_small {s : DS} (W : s.WF) : (∀ p ∈ s.held, p ≤ 5) ∧ s.held.length ≤ 5 := by
  have h5 := W.n5
  refine ⟨fun p hp => ?_, ?_⟩
  · have := List.mem_range.mp (List.mem_filter.mp hp).1
    omega
  · have := List.length_filter_le (fun p => decide (s.lv p = some 1)) (List.range s.lev.length)
    rw [List.length_range] at this
    unfold DS.held
    omega
/-! ### a law's state: a door, an own door, a pot -/
theorem But.into {S T : List Addr} {H0 H H' : Hp} (a : But S H0 H) (b : But T H H') (h : ∀ x ∈ T, H0 x = none ∨ x ∈ S) : But S H0 H' := fun c o n e => b c o (fun m => by
  rcases h c m with z | z
  · rw [z] at e; cases e
  · exact n z) (a c o n e)
theorem But.free {pt d : Addr} {H H1 : Hp} (g : But [pt] H H1) (hp : H1 pt ≠ none) (h : H1 d = none) : H d = none := by
  cases e : H d with
  | none => rfl
  | some o =>
    have := g d o (by simp only [List.mem_singleton]; intro z; exact hp (z ▸ h)) e
    rw [h] at this; cases this
theorem PotAt.ne0 {H : Hp} {p : Addr} {n : Nat} (h : PotAt H p n) : H p ≠ none := by
  obtain ⟨xs, e⟩ := h.there
  rw [e]; simp
structure Sta (C : Addr) (H0 : Hp) (pt d o : Addr) (L : List Addr) (H : Hp) (s1 s2 : DS) (m : Nat) (q : Nat) : Prop where
  fr : But [pt] H0 H
  door : DoorAt C H d s1
  own : ∃ k, OwnAt H o L s2 k
  pot : PotAt H pt m
  p0 : H0 pt ≠ none
  d0 : H0 d = none
  L0 : ∀ x ∈ L, H0 x = none
  dl : s1.deeds.length ≤ q
theorem DoorAt.ins {C : Addr} {H : Hp} {d : Addr} {s : DS} (h : DoorAt C H d s) : ∃ dx fs, H d = some (.ins C dx fs) := by
  obtain ⟨dx, a, b, c, e, f, cv, hv, sv, dv, D⟩ := h
  exact ⟨_, _, D.obj⟩
theorem DoorAt.tk {C : Addr} {H H' : Hp} {d : Addr} {s : DS} (h : DoorAt C H d s) (g : But [d] H H') : TK H H' := TK.but g fun a ha z => by
  obtain ⟨dx, fs, e⟩ := h.ins
  rw [List.mem_singleton.mp ha, e] at z
  exact z
theorem PotAt.tk {H H' : Hp} {pt : Addr} {m : Nat} (h : PotAt H pt m) (g : But [pt] H H') : TK H H' := TK.but g fun a ha z => by
  obtain ⟨xs, e⟩ := h.there
  rw [List.mem_singleton.mp ha, e] at z
  exact z
theorem OwnAt.tk {H H' : Hp} {o : Addr} {L : List Addr} {s : DS} {k : Int} (h : OwnAt H o L s k) (g : But L H H') : TK H H' := TK.but g fun a ha z => by
  rcases h.kind a ha with ⟨xs, e⟩ | ⟨xs, e⟩ <;> rw [e] at z <;> exact z
theorem PotAt.but {H H' : Hp} {pt : Addr} {m : Nat} {S : List Addr} (h : PotAt H pt m) (g : But S H H') (n : pt ∉ S) : PotAt H' pt m := by
  obtain ⟨a, b, c, e, r⟩ := h
  exact ⟨a, b, c, g _ _ n e, r⟩
section
variable {C : Addr} {H0 H H' : Hp} {pt d o : Addr} {L : List Addr} {s1 s2 s' : DS} {m m' q q' : Nat}
theorem Sta.ptL (S : Sta C H0 pt d o L H s1 s2 m q) : pt ∉ L := fun z => S.p0 (S.L0 _ z)
theorem Sta.dL (S : Sta C H0 pt d o L H s1 s2 m q) : d ∉ L := fun z => by
  obtain ⟨k, O⟩ := S.own
  obtain ⟨dx, fs, e⟩ := S.door.ins
  rcases O.kind d z with ⟨xs, e2⟩ | ⟨xs, e2⟩ <;> rw [e] at e2 <;> cases e2
theorem Sta.ptd (S : Sta C H0 pt d o L H s1 s2 m q) : pt ≠ d := fun z => S.p0 (by rw [z]; exact S.d0)
theorem Sta.same (S : Sta C H0 pt d o L H s1 s2 m q) (g : Same H H') : Sta C H0 pt d o L H' s1 s2 m q :=
  ⟨S.fr.trans (.of g), S.door.same g, let ⟨k, O⟩ := S.own; ⟨k, O.same g⟩, S.pot.but (.of (S := []) g) (by simp), S.p0, S.d0, S.L0, S.dl⟩
theorem Sta.take (S : Sta C H0 pt d o L H s1 s2 m q) (g : But [pt] H H') (hp : PotAt H' pt m') : Sta C H0 pt d o L H' s1 s2 m' q :=
  ⟨S.fr.trans g, S.door.but g fun x hx => by rw [List.mem_singleton.mp hx]; exact .inl S.pot.there, let ⟨k, O⟩ := S.own; ⟨k, O.but g (fun x hx => by rw [List.mem_singleton.mp hx]; exact S.ptL) (S.pot.tk g)⟩, hp, S.p0, S.d0, S.L0, S.dl⟩
theorem Sta.stepD (S : Sta C H0 pt d o L H s1 s2 m q) (g : But [d] H H') (hd : DoorAt C H' d s') (hl : s'.deeds.length ≤ q') : Sta C H0 pt d o L H' s' s2 m q' :=
  ⟨S.fr.into g fun x hx => by rw [List.mem_singleton.mp hx]; exact .inl S.d0, hd, let ⟨k, O⟩ := S.own; ⟨k, O.but g (fun x hx => by rw [List.mem_singleton.mp hx]; exact S.dL) (S.door.tk g)⟩, S.pot.but g (by simpa using S.ptd), S.p0, S.d0, S.L0, hl⟩
theorem Sta.stepO (S : Sta C H0 pt d o L H s1 s2 m q) (g : But L H H') {k : Int} (ho : OwnAt H' o L s' k) : Sta C H0 pt d o L H' s1 s' m q :=
  ⟨S.fr.into g fun x hx => .inl (S.L0 x hx), let ⟨k, O⟩ := S.own; S.door.but g O.kind, ⟨k, ho⟩, S.pot.but g S.ptL, S.p0, S.d0, S.L0, S.dl⟩
end
theorem deeds_step {s : DS} {p : Nat} : (s.step p).deeds.length = s.deeds.length + 1 := by
  unfold DS.step
  split <;> (try split) <;> simp
theorem deeds_come {s : DS} {p : Nat} {v : V} : (s.come p v).deeds.length = s.deeds.length + 1 := by simp [DS.come]
theorem DoorAt.ob {C : Addr} {H : Hp} {d : Addr} {s : DS} (h : DoorAt C H d s) : ∃ dx fs, H d = some (.ins C dx fs) ∧ fs.lookup ("step" : Str) = none ∧ fs.lookup ("come" : Str) = none ∧ fs.lookup ("next" : Str) = none ∧ fs.lookup ("copy" : Str) = none := by
  obtain ⟨dx, a, b, c, e, f, cv, hv, sv, dv, D⟩ := h
  exact ⟨_, _, D.obj, no_step, no_come, no_next, no_copy⟩
theorem DS.lv_other {s : DS} {p q : Nat} (W : s.WF) (hc : s.cm p ≠ none) (h : p ≠ q) : (s.step p).lv q = s.lv q := by
  have hp := DS.lt_of_cm W hc
  have h4 := DS.stg_lt s p
  rcases (show s.stg p = 0 ∨ s.stg p = 1 ∨ s.stg p = 2 ∨ s.stg p = 3 by omega) with e | e | e | e
  · rw [DS.lv_step0 e hp, if_neg h]
  · rw [DS.lv_step1 e]
  · rw [DS.lv_step2 e hp, if_neg h]
  · rw [DS.lv_step3 e]
theorem natV_rep (n : Nat) (l : List Nat) : (List.replicate n (natV l)).flatten = natV (List.replicate n l).flatten := by
  unfold natV
  rw [List.map_flatten, List.map_replicate]
theorem count_rep (n p : Nat) (l : List Nat) (h : p ∈ l) : n ≤ (List.replicate n l).flatten.count p := by
  induction n with
  | zero => omega
  | succ n ih =>
    rw [List.replicate_succ, List.flatten_cons, List.count_append]
    have := List.count_pos_iff.mpr h
    omega
theorem mem_rep {n p : Nat} {l : List Nat} (h : p ∈ (List.replicate n l).flatten) : p ∈ l := by
  obtain ⟨x, hx, hp⟩ := List.mem_flatten.mp h
  rw [(List.mem_replicate.mp hx).2] at hp
  exact hp
theorem natV_get {l : List Nat} {i : Nat} {x : V} (h : (natV l)[i]? = some x) : ∃ p, l[i]? = some p ∧ x = .int (p : Int) := by
  unfold natV at h
  rw [List.getElem?_map] at h
  cases e : l[i]? with
  | none => rw [e] at h; cases h
  | some p => rw [e] at h; cases h; exact ⟨p, rfl, rfl⟩
theorem take_snoc {l : List Nat} {i p : Nat} (h : l[i]? = some p) : l.take (i + 1) = l.take i ++ [p] := by
  rw [List.take_add_one, h]; rfl
theorem rep_len (n : Nat) (l : List Nat) : (List.replicate n l).flatten.length = n * l.length := by simp
theorem two_str {a b : Str} (h : a = b) : (!decide (V.str a = V.str b)) = false := by rw [h]; simp
theorem Fst {H : Hp} {t : Addr} {x : Told} (h : ToldAt H t x) : ∃ ys, H t = some (.tup (.str (match x with | .level _ => "level" | .look _ => "look" | .wait => "wait" | .word _ => "word") :: ys)) := by
  cases x with
  | level i => exact ⟨_, h⟩
  | look l => obtain ⟨q, h, _⟩ := h; exact ⟨_, h⟩
  | wait => exact ⟨_, h⟩
  | word v => exact ⟨_, h⟩
theorem stg_ge {s : DS} {p q : Nat} {l : List Nat} (W : s.WF) (hc : s.cm p ≠ none) (h : min 3 (l.count q) ≤ s.stg q) : min 3 ((l ++ [p]).count q) ≤ (s.step p).stg q := by
  rw [DS.stg_step W hc, List.count_append, List.count_singleton]
  by_cases e : p = q
  · subst e; simp; omega
  · rw [if_neg e]; simp [e]; omega
/-- a door and an own door are made -/
theorem Sta.make {C : Addr} {H H1 H2 H3 : Hp} {pt d dx o : Addr} {L : List Addr} {N m : Nat} (hP : PotAt H pt 0) (g1 : But [pt] H H1) (hP1 : PotAt H1 pt m) (hd : H1 d = none) (hdx : H1 dx = none) (hne : dx ≠ d)
    (b : But [d] (upd (upd H1 dx (.own d)) d (.ins C dx [])) H2) (D : DoorAt C H2 d (DS.new N)) (g3 : Same H2 H3) (hL : ∀ x ∈ L, H2 x = none) (O : OwnAt H3 o L (DS.new N) 0) : Sta C H pt d o L H3 (DS.new N) (DS.new N) m 0 := by
  have g2 : Same H1 (upd (upd H1 dx (.own d)) d (.ins C dx [])) := (same_new hdx _).trans (same_new (by rw [upd_ne (Ne.symm hne)]; exact hd) _)
  have pd : pt ≠ d := fun z => hP1.ne0 (by rw [z]; exact hd)
  have fr2 : But [pt] H H2 := (g1.trans (.of g2)).into b fun x hx => by rw [List.mem_singleton.mp hx]; exact .inl (g1.free hP1.ne0 hd)
  have hP2 : PotAt H2 pt m := (hP1.but (.of (S := []) g2) (by simp)).but b (by simpa using pd)
  exact ⟨fr2.trans (.of g3), D.same g3, ⟨_, O⟩, hP2.but (.of (S := []) g3) (by simp), hP.ne0, g1.free hP1.ne0 hd, fun x hx => fr2.free hP2.ne0 (hL x hx), Nat.le_refl _⟩
theorem filter_one : ∀ N, N ≤ 5 → ∀ st, st < N → (List.range N).filter (fun p => decide (p = st)) = [st] := by decide
theorem eqv_self_nat (l : List Nat) : PyData.eqv (.tuple (l.map fun (p : Nat) => PyData.int (p : Int))) (.tuple (l.map fun (p : Nat) => PyData.int (p : Int))) = true := by
  have h : ∀ l : List Nat, PyData.eqvAll (l.map fun (p : Nat) => PyData.int (p : Int)) (l.map fun (p : Nat) => PyData.int (p : Int)) = true := fun l => by
    induction l with
    | nil => simp [PyData.eqvAll]
    | cons a r ih => simp [PyData.eqvAll, PyData.eqv, ih]
  simp only [PyData.eqv]
  exact h l
theorem held_none {s : DS} (h : ∀ p, p < s.lev.length → s.lv p ≠ some 1) : s.held = [] := by
  unfold DS.held
  rw [List.filter_eq_nil_iff]
  intro p hp
  simpa using h p (List.mem_range.mp hp)
theorem held_only {s : DS} (W : s.WF) {st : Nat} (hst : st < s.lev.length) (h1 : s.lv st = some 1) (h : ∀ p, p < s.lev.length → p ≠ st → s.lv p ≠ some 1) : s.held = [st] := by
  unfold DS.held
  rw [← filter_one _ W.n5 st hst]
  refine List.filter_congr fun p hp => ?_
  rw [decide_eq_decide]
  constructor
  · intro z
    by_cases e : p = st
    · exact e
    · exact absurd z (h p (List.mem_range.mp hp) e)
  · intro z; rw [z]; exact h1
theorem lv_of3 {s : DS} {p : Nat} (h : s.stg p = 3) : s.lv p ≠ some 1 := by
  obtain ⟨x, hx, h1⟩ := DS.stg3.mp h
  rw [hx]; intro z; injection z with z; exact h1 z
theorem Sta.put {C : Addr} {H0 H : Hp} {pt d o D : Addr} {L : List Addr} {s1 s2 : DS} {m q : Nat} {xs ys : List V} (S : Sta C H0 pt d o L H s1 s2 m q) (h : H D = some (.lst xs)) (n0 : H0 D = none) (nL : D ∉ L) : Sta C H0 pt d o L (upd H D (.lst ys)) s1 s2 m q := by
  have g : But [D] H (upd H D (.lst ys)) := (But.refl _ _).put (by simp)
  have np : pt ≠ D := fun z => S.p0 (by rw [z]; exact n0)
  have tk : TK H (upd H D (.lst ys)) := .put h fun z => z
  exact ⟨S.fr.into g fun x hx => by rw [List.mem_singleton.mp hx]; exact .inl n0, S.door.but g fun x hx => by rw [List.mem_singleton.mp hx]; exact .inl ⟨_, h⟩,
    let ⟨k, O⟩ := S.own; ⟨k, O.but g (fun x hx => by rw [List.mem_singleton.mp hx]; exact nL) tk⟩, S.pot.but g (by simpa using np), S.p0, S.d0, S.L0, S.dl⟩
/-- an address that is new is none of the state's -/
theorem Sta.new {C : Addr} {H0 H : Hp} {pt d o D : Addr} {L : List Addr} {s1 s2 : DS} {m q : Nat} (S : Sta C H0 pt d o L H s1 s2 m q) (h : H D = none) : H0 D = none ∧ D ∉ L ∧ D ≠ d ∧ D ≠ pt := by
  obtain ⟨k, O⟩ := S.own
  refine ⟨S.fr.free S.pot.ne0 h, fun z => ?_, fun z => ?_, fun z => S.pot.ne0 (by rw [← z]; exact h)⟩
  · rcases O.kind D z with ⟨ys, e⟩ | ⟨ys, e⟩ <;> rw [e] at h <;> cases h
  · obtain ⟨dx', fs, e⟩ := S.door.ins; rw [z, e] at h; cases h
theorem Sta.up {C : Addr} {H0 H : Hp} {pt d o : Addr} {L : List Addr} {s1 s2 : DS} {m q m' q' : Nat} (S : Sta C H0 pt d o L H s1 s2 m q) (hm : m ≤ m') (hq : q ≤ q') : Sta C H0 pt d o L H s1 s2 m' q' :=
  ⟨S.fr, S.door, S.own, S.pot.mono hm, S.p0, S.d0, S.L0, Nat.le_trans S.dl hq⟩
/-! ### one word -/
def DS.hd (s : DS) (p : Nat) : Option V := s.heard.getD p none
def DS.Closed (s : DS) : Prop := (∃ q, s.lv q = some 2) ∧ ∀ p, s.stg p = 2 → s.saw p = true
section
variable {s : DS} {p : Nat} {v : V}
theorem DS.hd_new (n p : Nat) : (DS.new n).hd p = none := DS.rep_none n p
theorem DS.hd_come (q : Nat) : (s.come p v).hd q = s.hd q := rfl
theorem DS.hd_step (W : s.WF) (hc : s.cm p ≠ none) (q : Nat) : (s.step p).hd q = if p = q ∧ s.stg p = 3 ∧ some 1 ∉ s.lev then s.cm s.two else s.hd q := by
  have hp := DS.lt_of_cm W hc
  have h4 := DS.stg_lt s p
  rcases (show s.stg p = 0 ∨ s.stg p = 1 ∨ s.stg p = 2 ∨ s.stg p = 3 by omega) with e | e | e | e
  · rw [if_neg (by omega)]; unfold DS.hd; rw [DS.step0 e]
  · rw [if_neg (by omega)]; unfold DS.hd; rw [DS.step1 e]
  · rw [if_neg (by omega)]; unfold DS.hd; rw [DS.step2 e]
  · unfold DS.hd
    rw [DS.step3 e]
    by_cases z : some 1 ∈ s.lev
    · rw [if_pos z, if_neg (by intro h; exact h.2.2 z)]
    · rw [if_neg z]
      show (s.heard.set p (s.cm s.two)).getD q none = _
      rw [getD_set]
      by_cases h : p = q
      · rw [if_pos ⟨h, by rw [W.lh]; exact hp⟩, if_pos ⟨h, e, z⟩]
      · rw [if_neg (fun h' => h h'.1), if_neg (fun h' => h h'.1)]
theorem closed_of (h : ∃ q, s.lv q = some 2) (n : some 1 ∉ s.lev) : s.Closed := ⟨h, fun p hp => absurd (mem_getD.mpr ⟨p, (DS.stg2.mp hp).1⟩) n⟩
theorem DS.Closed.step (c : s.Closed) (W : s.WF) (hc : s.cm p ≠ none) : (s.step p).Closed ∧ (s.step p).two = s.two := by
  have hp := DS.lt_of_cm W hc
  have hps : p < s.seen.length := by rw [W.ls]; exact hp
  have h4 := DS.stg_lt s p
  have k2 := DS.has2_step W hc c.1
  rcases (show s.stg p = 0 ∨ s.stg p = 1 ∨ s.stg p = 2 ∨ s.stg p = 3 by omega) with e | e | e | e
  · refine ⟨⟨k2, fun q hq => ?_⟩, DS.two_same DS.len_step fun q => ?_⟩
    · rw [DS.stg_step W hc] at hq
      have hne : p ≠ q := by intro z; rw [if_pos z, e] at hq; cases hq
      rw [if_neg hne] at hq
      unfold DS.saw; rw [DS.sn_stepN (by omega)]; exact c.2 q hq
    · rw [DS.lv_step0 e hp]; split
      · rename_i z; subst z; rw [DS.stg0.mp e]; simp
      · rfl
  · refine ⟨⟨k2, fun q hq => ?_⟩, DS.two_same DS.len_step fun q => by rw [DS.lv_step1 e]⟩
    rw [DS.stg_step W hc] at hq
    unfold DS.saw; rw [DS.sn_step1 e hps]
    by_cases z : p = q
    · rw [if_pos z]; exact decide_eq_true (mem_getD.mpr c.1)
    · rw [if_neg z] at hq ⊢; exact c.2 q hq
  · have sw := c.2 p e
    have ew : s.wr p = 0 := by unfold DS.wr; rw [if_pos sw]
    refine ⟨⟨k2, fun q hq => ?_⟩, DS.two_same DS.len_step fun q => ?_⟩
    · rw [DS.stg_step W hc] at hq
      have hne : p ≠ q := by intro z; rw [if_pos z, e] at hq; cases hq
      rw [if_neg hne] at hq
      unfold DS.saw; rw [DS.sn_stepN (by omega)]; exact c.2 q hq
    · rw [DS.lv_step2 e hp]; split
      · rename_i z; subst z; rw [ew, (DS.stg2.mp e).1]; simp
      · rfl
  · refine ⟨⟨k2, fun q hq => ?_⟩, DS.two_same DS.len_step fun q => by rw [DS.lv_step3 e]⟩
    rw [DS.stg_step W hc] at hq
    have hne : p ≠ q := by intro z; rw [if_pos z, e] at hq; cases hq
    rw [if_neg hne] at hq
    unfold DS.saw; rw [DS.sn_stepN (by omega)]; exact c.2 q hq
theorem DS.Closed.come (c : s.Closed) : (s.come p v).Closed ∧ (s.come p v).two = s.two := ⟨c, rfl⟩
theorem stg_out (W : s.WF) (h : s.cm p = none) : s.stg p = 0 := by
  refine DS.stg0.mpr ?_
  cases e : s.lv p with
  | none => rfl
  | some x => exact absurd h (W.cmv p (by rw [e]; simp))
end
/-! ### lists of players -/
def unV : V → Nat
  | .int i => i.toNat
  | _ => 0
theorem natV_perm {ys : List V} {R : List Nat} (h : ys.Perm (natV R)) : ∃ Y : List Nat, ys = natV Y ∧ Y.Perm R := by
  refine ⟨ys.map unV, ?_, ?_⟩
  · unfold natV
    rw [List.map_map]
    conv => lhs; rw [← List.map_id ys]
    refine List.map_congr_left fun x hx => ?_
    have := h.mem_iff.mp hx
    unfold natV at this
    obtain ⟨p, _, rfl⟩ := List.mem_map.mp this
    show V.int p = V.int ((unV (V.int p) : Nat) : Int)
    unfold unV
    simp
  · have := h.map unV
    refine this.trans ?_
    have e : (natV R).map unV = R := by
      unfold natV
      rw [List.map_map]
      conv => rhs; rw [← List.map_id R]
      refine List.map_congr_left fun x _ => ?_
      show unV (V.int x) = x
      unfold unV
      simp
    rw [e]
/-! ### a door and a pot -/
structure Dn (C : Addr) (H : Hp) (pt d : Addr) (s : DS) (m q : Nat) : Prop where
  door : DoorAt C H d s
  pot : PotAt H pt m
  dl : s.deeds.length ≤ q
section
variable {C : Addr} {H H' : Hp} {pt d D : Addr} {s s' : DS} {m m' q q' : Nat}
theorem Dn.ptd (S : Dn C H pt d s m q) : pt ≠ d := fun z => by
  obtain ⟨dx, fs, e⟩ := S.door.ins
  obtain ⟨xs, e2⟩ := S.pot.there
  rw [z, e] at e2; cases e2
theorem Dn.same (S : Dn C H pt d s m q) (g : Same H H') : Dn C H' pt d s m q := ⟨S.door.same g, S.pot.but (.of (S := []) g) (by simp), S.dl⟩
theorem Dn.take (S : Dn C H pt d s m q) (g : But [pt] H H') (hp : PotAt H' pt m') : Dn C H' pt d s m' q := ⟨S.door.but g fun x hx => by rw [List.mem_singleton.mp hx]; exact .inl S.pot.there, hp, S.dl⟩
theorem Dn.stepD (S : Dn C H pt d s m q) (g : But [d] H H') (hd : DoorAt C H' d s') (hl : s'.deeds.length ≤ q') : Dn C H' pt d s' m q' := ⟨hd, S.pot.but g (by simpa using S.ptd), hl⟩
theorem Dn.put {xs ys : List V} (S : Dn C H pt d s m q) (h : H D = some (.lst xs)) (n : D ≠ pt) : Dn C (upd H D (.lst ys)) pt d s m q := by
  have g : But [D] H (upd H D (.lst ys)) := (But.refl _ _).put (by simp)
  exact ⟨S.door.but g fun x hx => by rw [List.mem_singleton.mp hx]; exact .inl ⟨_, h⟩, S.pot.but g (by simpa using n.symm), S.dl⟩
theorem Dn.new (S : Dn C H pt d s m q) (h : H D = none) : D ≠ d ∧ D ≠ pt := ⟨fun z => (by obtain ⟨dx', fs, e⟩ := S.door.ins; rw [z, e] at h; cases h), fun z => S.pot.ne0 (by rw [← z]; exact h)⟩
theorem Dn.up (S : Dn C H pt d s m q) (hm : m ≤ m') (hq : q ≤ q') : Dn C H pt d s m' q' := ⟨S.door, S.pot.mono hm, Nat.le_trans S.dl hq⟩
end
/-- how often a place was asked from lap 8 on -/
def laps (e j i : Nat) : Nat := ((List.range i).filter fun l => decide (8 ≤ l ∧ l % e = j)).length
theorem laps_succ (e j i : Nat) : laps e j (i + 1) = laps e j i + if 8 ≤ i ∧ i % e = j then 1 else 0 := by
  unfold laps
  rw [List.range_succ, List.filter_append, List.length_append]
  congr 1
  by_cases h : 8 ≤ i ∧ i % e = j <;> simp [h]
theorem laps_20 : ∀ e, e ≤ 4 → ∀ j, j < e → 3 ≤ laps e j 20 := by decide
theorem word_data {dv : PyData} (ho : VOk 3 dv) : Sm 5 60 (.tuple [dv]) := (Sms.tup (.cons ho.sm (Sms.nil (n := 0)))).mono (by decide) (by decide)
theorem word_dp {K : PySem.W.Frag} {H0 H : Hp} {v : V} {dv : PyData} {t : Addr} (hv : VAt H0 v dv) (g : TK H0 H) (ht : H t = some (.tup [v])) : Dp K H (.ref t) (.tuple [dv]) := .tup (.of ht) (.cons (hv.mono g).dp .nil)
theorem sm_level {i : Int} (h0 : 0 ≤ i) (h2 : i ≤ 2) : Sm 6 100 (.tuple [.str "level", .int i]) := (Sms.tup (.cons (sm_word _ (by decide +kernel)) (.cons ((Sm.int (i := i) (by omega) (by omega)).mono (Nat.le_refl 1) (Nat.le_refl 0)) (Sms.nil (n := 0))))).mono (by decide) (by decide)
theorem sm_wait : Sm 6 100 (.tuple [.str "wait"]) := (Sms.tup (.cons (sm_word "wait" (by decide +kernel)) (Sms.nil (n := 0)))).mono (by decide) (by decide)
theorem sm_wordD {dv : PyData} (ho : VOk 3 dv) : Sm 6 100 (.tuple [.str "word", dv]) := (Sms.tup (.cons ((sm_word "word" (by decide +kernel)).mono (by decide : 1 ≤ 4) (Nat.le_refl 10)) (.cons ho.sm (Sms.nil (n := 0))))).mono (by decide) (by decide)
theorem DS.Closed.win {s : DS} (c : s.Closed) {w : Nat} (h : w = s.two ∨ (s.lv w = some 1 ∧ s.won w = true)) : w = s.two := by
  rcases h with h | ⟨h1, h2⟩
  · exact h
  · exfalso
    unfold DS.won at h2
    cases e : s.sn w with
    | none => rw [e] at h2; cases h2
    | some l =>
      rw [e] at h2
      have h2 : (!decide (some 2 ∈ l)) = true := h2
      have := c.2 w (DS.stg2.mpr ⟨h1, by rw [e]; simp⟩)
      unfold DS.saw at this
      rw [e] at this
      simp only [Option.getD_some] at this
      rw [this] at h2; cases h2
theorem DoorAt.heard {C : Addr} {H : Hp} {d : Addr} {s : DS} {K : PySem.W.Frag} (h : DoorAt C H d s) (hC : DC K C) : ∃ dx fs hv c, H d = some (.ins C dx fs) ∧ fs.lookup ("heard" : Str) = some (.ref c) ∧ TF H c hv ∧ Paired (One H) hv s.heard := by
  obtain ⟨dx, a, b, c, e, f, cv, hv, sv, dv, D⟩ := h
  exact ⟨dx, _, hv, c, D.obj, d_heard, D.heard, D.heardP⟩
theorem stg_keep {s : DS} {p q : Nat} (W : s.WF) (hc : s.cm p ≠ none) (h : p ≠ q) : (s.step p).stg q = s.stg q := by rw [DS.stg_step W hc, if_neg h]
theorem stg_self {s : DS} {p : Nat} (W : s.WF) (hc : s.cm p ≠ none) : (s.step p).stg p = min 3 (s.stg p + 1) := by rw [DS.stg_step W hc, if_pos rfl]
theorem hd_keep {s : DS} {p q : Nat} (W : s.WF) (hc : s.cm p ≠ none) (h : s.stg p ≠ 3 ∨ some 1 ∈ s.lev) : (s.step p).hd q = s.hd q := by
  rw [DS.hd_step W hc, if_neg]
  rintro ⟨_, a, b⟩
  rcases h with h | h
  · exact h a
  · exact b h
theorem hd_self {s : DS} {p : Nat} (W : s.WF) (hc : s.cm p ≠ none) (h : s.stg p = 3) (h1 : some 1 ∉ s.lev) : (s.step p).hd p = s.cm s.two := by rw [DS.hd_step W hc, if_pos ⟨rfl, h, h1⟩]
theorem lv_none_of {s : DS} {q : Nat} (h : s.stg q = 0 ∨ s.stg q = 3) : s.lv q ≠ some 1 := by
  rcases h with h | h
  · rw [DS.stg0.mp h]; simp
  · exact lv_of3 h
theorem told_lvl {H : Hp} {t : Addr} {i : Int} (h : ToldAt H t (.level i)) : H t = some (.tup [.str "level", .int i]) := h
theorem told_word {s : DS} {p : Nat} {v : V} (h : s.told p = .word v) : s.stg p = 3 ∧ some 1 ∉ s.lev ∧ v = (s.cm s.two).getD .non := by
  have h4 := DS.stg_lt s p
  rcases (show s.stg p = 0 ∨ s.stg p = 1 ∨ s.stg p = 2 ∨ s.stg p = 3 by omega) with z | z | z | z
  · rw [DS.told0 z] at h; cases h
  · rw [DS.told1 z] at h; cases h
  · rw [DS.told2 z] at h; cases h
  · rw [DS.told3 z] at h
    split at h
    · cases h
    · rename_i h1; injection h with h; exact ⟨z, h1, h.symm⟩
theorem cut_word (v : V) : cutV [V.str "word", v] (some 1) none = [v] := rfl
end Fp
/-! len(set(xs)), xs a list of texts that are all the same one -/
namespace Fp
open PySem PySem.Spec PyProof.Rows L2
/-- the set of the text z once something was put in -/
def onlyZ (z : Str) (i : Nat) (k : Str) : Bool := decide (0 < i ∧ k = z)
section
variable {prog : Program} {w : World} {A : Around} {R : Result → Shared → Prop} {I : Addr} {fp wr : List Addr} {G : Array GenState → Array GenState → Prop} {n : Nat} {P : Nat → Value → Prop} {St : Nat → Shared → Prop}
theorem SetOf_move {h h' : Heap} {a : Addr} {S : Str → Bool} {m : Nat} (e : ∀ o, h.get? a = some o → h'.get? a = some o) (hS : h.SetOf (PySem.strKind prog w) a S m) : h'.SetOf (PySem.strKind prog w) a S m := by
  obtain ⟨o, es, ep, t, ho, rest⟩ := hS
  exact ⟨o, es, ep, t, e _ ho, rest⟩
theorem onlyZ_add {h : Heap} {a : Addr} {z : Str} {i : Nat} (hS : h.SetOf (PySem.strKind prog w) a (fun k' => onlyZ z i k' || decide (k' = z)) (if onlyZ z i z = true then min i 1 else min i 1 + 1)) : h.SetOf (PySem.strKind prog w) a (onlyZ z (i + 1)) (min (i + 1) 1) := by
  refine SetOf_congr hS (fun k' => ?_) ?_
  · unfold onlyZ
    by_cases e : k' = z <;> by_cases c : 0 < i <;> simp [e, c]
  · unfold onlyZ
    by_cases c : 0 < i
    · rw [if_pos (by simp [c])]; omega
    · rw [if_neg (by simp [c])]; omega
/-- the putting in, from the i-th on -/
theorem fill_same (W : WalksS prog w A.in1 I fp wr G n P St) (D : Addr) (hD : D ∉ fp) (z : Str) (hv : ∀ i v, P i v → ∃ t, v = .str z t) (j : Nat) :
    ∀ (i : Nat) (s : Shared), i + j = n → St i s → s.heap.SetOf (PySem.strKind prog w) D (onlyZ z i) (min i 1) →
      (∀ s', Moved (D :: wr) G s s' → s'.heap.SetOf (PySem.strKind prog w) D (onlyZ z n) (min n 1) → R (.ok (.ret .none)) s') →
      codeAny (model prog w) A (.builtin "set.update.loop" ⟨[.ref D, .ref I], []⟩) R s := by
  have nw : D ∉ wr := fun h => hD (W.sub _ h)
  have more : ∀ b ∈ wr, b ∈ D :: wr := fun b hb => List.mem_cons_of_mem _ hb
  induction j with
  | zero =>
    intro i s hi st hS q
    obtain rfl : i = n := hi
    refine codeAny_builtin PyProof.Rows.F.entry_set_update_loop ?_
    rw [Around.under_plainId PyProof.Rows.F.plain_set_update_loop _]
    show wpAny _ A.in1 (pyNext (.ref I) >>= _) _ _ s
    refine wpAny_bind (W.done s _ _ st fun s' m => ?_)
    exact wpAny_pure (q s' (m.mono more) (SetOf_move (fun o e => m.heap D o nw e) hS))
  | succ j ih =>
    intro i s hi st hS q
    refine codeAny_builtin PyProof.Rows.F.entry_set_update_loop ?_
    rw [Around.under_plainId PyProof.Rows.F.plain_set_update_loop _]
    show wpAny _ A.in1 (pyNext (.ref I) >>= _) _ _ s
    refine wpAny_bind (W.item i s _ _ (by omega) st fun v s' pv st' m => ?_)
    obtain ⟨t, rfl⟩ := hv i v pv
    have hS' := SetOf_move (fun o e => m.heap D o nw e) hS
    refine wpAny_bind (wpAny_holding ?_)
    unfold setAdd
    refine wpAny_holding (wpAny_bind ((PySem.strKind prog w).pyHash (k := z) (strKind_is _ _ _ _) ?_))
    refine wpAny_setAddHashed_of (knd := PySem.strKind prog w) (s := { s' with toks := s'.toks + 1 }) (strKind_is _ _ _ _) rfl hS' (by unfold scanBound; omega) fun h' sb hS2 => ?_
    refine wpAny_pure ⟨plainId_quiet PyProof.Rows.F.plain_set_update_loop _, ih (i + 1) _ (by omega) (W.frame _ s' _ _ st' (Nat.le_succ _) fun b hb o e => ?_) (onlyZ_add hS2) fun s2 m2 hS3 => q s2 (Moved.trans W.gtrans ((m.mono more).then_heap (Nat.le_succ _) fun b o hb e => ?_) m2) hS3⟩
    · exact (sb.2 b fun (z : b = D) => hD (z ▸ hb)).trans e
    · exact (sb.2 b fun (z : b = D) => hb (by rw [z]; exact List.mem_cons_self)).trans e
end
section
variable {prog : Program} {w : World} {A : Around} {E : Value → Shared → Prop} {s : Shared}
/-- the set's object as it is made, empty -/
def setO (led : Bool) : Obj := { cls := .type "set", dict := none, data := .set #[] 0 (.fresh 0 0 led) }
set_option maxHeartbeats 3200000 in
theorem init_same {l : Addr} {its : Array Value} {z : Str} {led : Bool} (hh : A.handled = none) (hl : s.heap.IsList l its) (hz : ∀ v ∈ its.toList, ∃ t, v = .str z t) :
    codeAny (model prog w) A (.call (.builtin "set.__init__") ⟨[.ref s.heap.objs.size, .ref l], []⟩) (wants (fun r s₂ => r = .none ∧ ∃ h' tk, s₂ = { s with heap := h', toks := tk } ∧
      h'.SetOf (PySem.strKind prog w) s.heap.objs.size (onlyZ z its.size) (min its.size 1) ∧ (∀ b o, b < s.heap.objs.size → s.heap.get? b = some o → h'.get? b = some o)) E) { s with heap := s.heap.push (setO led) } := by
  have top : (s.heap.push (setO led)).get? s.heap.objs.size = some (setO led) := Heap.get?_push_size _ rfl
  have hT : Shared.TypeIs { s with heap := s.heap.push (setO led) } (.ref s.heap.objs.size) "set" := ⟨_, top, rfl⟩
  refine codeAny_call_builtin PySem.F.called_set.init.plain PySem.F.entry_set_init (check_set_init_1 hT ?_)
  obtain ⟨⟨cls, odict, odata, oslots⟩, hol, hcl, nl, hdl⟩ := hl
  simp only at hcl hdl
  subst hcl; subst hdl
  have hol' : (s.heap.push (setO led)).get? l = some { cls := .type "list", dict := odict, data := .seq its nl, slots := oslots } := Heap.get?_push_of_some _ hol
  have f1 := PySem.F.sub_list_set
  have f2 := PySem.F.sub_list_frozenset
  have f3 : (Value.type "list" == Value.type "dict") = false := by decide
  have hl1 : (s.heap.push (setO led)).IsList l its := ⟨_, hol', rfl, nl, rfl⟩
  have lt := Heap.lt_size hol
  unfold Builtin.«set.__init__» noKeywords Builtin.Frozenset.updateFrom
  generalize hPI : pyIter = PI
  wp_walk
  subst hPI
  refine wpAny_pyIter_list hl1 (wpAny_bind (wpAny_runValue ?_))
  have nI : l ≠ (s.heap.push (setO led)).objs.size := by rw [Heap.size_push]; exact Nat.ne_of_lt (Nat.lt_succ_of_lt lt)
  refine fill_same ((Walks.list (by simp [hh]) _ l nI its).toS) s.heap.objs.size ?_ z (fun i v e => hz v (Array.mem_toList_iff.mpr (Array.mem_of_getElem? e))) its.size 0 _ (Nat.zero_add _) ⟨⟨_, Heap.get?_push_size _ rfl, rfl, rfl⟩, (hl1.push _)⟩ ?_ ?_
  · rw [Heap.size_push]; simp only [List.mem_cons, List.mem_singleton, List.not_mem_nil, or_false, not_or]; exact ⟨Nat.ne_of_lt (Nat.lt_succ_self _), Nat.ne_of_gt lt⟩
  · exact SetOf_congr (n := 0) ((setObjOf_fresh (knd := PySem.strKind prog w) led).setOf (Heap.get?_push_of_some _ top) (by decide)) (fun k => by simp [onlyZ]) rfl
  · rintro ⟨h', g', d', tk', os'⟩ m hS
    obtain rfl : g' = s.gens := m.gens
    obtain rfl : d' = s.drawn := m.drawn
    obtain rfl : os' = s.os := m.os
    show wpAny _ _ _ _ _ _
    refine wpAny_pure ?_
    show wpAny _ _ (ret Value.none) _ _ _
    refine wpAny_pure ⟨rfl, h', tk', rfl, hS, fun b o hb e => m.heap b o ?_ (Heap.get?_push_of_some _ (Heap.get?_push_of_some _ e))⟩
    have b1 : b ≠ s.heap.objs.size := Nat.ne_of_lt hb
    have b2 : b ≠ (s.heap.push (setO led)).objs.size := by rw [Heap.size_push]; omega
    simp only [List.mem_cons, List.mem_singleton, List.not_mem_nil, or_false, not_or]
    exact ⟨b1, b2⟩
set_option maxHeartbeats 3200000 in
theorem call_set_same {l : Addr} {its : Array Value} {z : Str} {Q : Value → Shared → Prop} (hh : A.handled = none) (hl : s.heap.IsList l its) (hz : ∀ v ∈ its.toList, ∃ t, v = .str z t)
    (h : ∀ (h' : Heap) (tk : Nat), h'.SetOf (PySem.strKind prog w) s.heap.objs.size (onlyZ z its.size) (min its.size 1) → (∀ b o, b < s.heap.objs.size → s.heap.get? b = some o → h'.get? b = some o) → Q (.ref s.heap.objs.size) { s with heap := h', toks := tk }) :
    wpAny (model prog w) A (call (.type "set") [.ref l]) Q E s := by
  obtain ⟨c, tl, e1⟩ := PySem.F.called_set.mro
  have e2 := PySem.F.called_set.made
  have e3 := PySem.F.called_set.sub
  have e4 := PySem.F.called_set.notType
  have e5 := PySem.F.called_set.canCreate
  have e6 := PySem.F.typeCall_set_1 (.ref l)
  have e7 := PySem.F.called_set.init.lookup
  refine wpAny_call (codeAny_of_tree ?_)
  show wpAny _ _ (callAny (.type "set") _) _ _ _
  refine wpAny_pure ⟨Code.quiet_builtin _ (by decide +kernel), codeAny_builtin PySem.F.entry_type_call ?_⟩
  rw [Around.under_plain (weight_type_call_type "set" [.ref l] []) rfl]
  repeat (any_goals (first | assumption | wp_step))
  refine codeAny_mono (code_set_new_1 (.ref l) (E := E) (Q₁ := fun x s₁ => ∃ led : Bool, x = .ref s.heap.objs.size ∧ s₁ = { s with heap := s.heap.push (setO led) }) fun led => ⟨led, rfl, rfl⟩) fun r s₁ hr => ?_
  cases r with
  | error e => exact hr
  | ok fl =>
    cases fl with
    | ret x =>
      obtain ⟨led, rfl, rfl⟩ := hr
      have top : (s.heap.push (setO led)).get? s.heap.objs.size = some (setO led) := Heap.get?_push_size _ rfl
      have hT : Shared.TypeIs { s with heap := s.heap.push (setO led) } (.ref s.heap.objs.size) "set" := ⟨_, top, rfl⟩
      have e8 := PySem.F.called_set.init.bind (.ref s.heap.objs.size)
      repeat (any_goals (first | assumption | wp_step))
      refine codeAny_mono (init_same (A := A.in1) (E := E) (by simp [hh]) hl hz) fun r₂ s₂ hr₂ => ?_
      cases r₂ with
      | error e => exact hr₂
      | ok fl₂ =>
        cases fl₂ with
        | ret r =>
          obtain ⟨rfl, h', tk, rfl, hS, hk⟩ := hr₂
          repeat (any_goals (first | assumption | wp_step))
          exact h _ _ hS hk
        | _ => exact hr₂.elim
    | _ => exact hr.elim
end
section
variable {X : Cx}
theorem same_vals {z : Str} : ∀ {xs : List V} {us : List Value}, Vals xs us → (∀ x ∈ xs, x = .str z) → ∀ v ∈ us, ∃ t, v = .str z t
  | _, _, .nil, _ => fun v hv => absurd hv (by simp)
  | x :: xs, _, .cons r t, h => by
    have e := h x List.mem_cons_self
    subst e
    obtain ⟨k, rfl⟩ := r
    intro v hv
    rcases List.mem_cons.mp hv with e | hv
    · exact ⟨k, e⟩
    · exact same_vals t (fun y hy => h y (List.mem_cons_of_mem _ hy)) v hv
def tLenSame (K : PySem.W.Frag) (ta : TE) : TE := fun σ H Q => ta σ H fun x H1 => ∃ (l : Addr) (xs : List V) (z : Str), x = .ref l ∧ SqL K H1 l xs ∧ (∀ x ∈ xs, x = .str z) ∧ xs ≠ [] ∧ Q (.int 1) H1
theorem pe_lenSame {a : Expr} {ta : TE} {p p2 q pos : Pos} (hc : X.calm = true) (hg : Gl X "len") (hm : X.mg "len" = none) (hg2 : Gl X "set") (hm2 : X.mg "set" = none) (ha : PE X a ta)
    (na : starEach [a] X.env = (false, eval a X.env) :: starEach [] X.env := by rfl) : PE X (.Call (.Name "len" p) [.Call (.Name "set" p2) [a] [] q] [] pos) (tLenSame X.K ta) := by
  refine ⟨fun pins s σ H Q I h => Call_ (ld_blt I hg hm boot_len (callWith_builtin1 (args_cons (Call_ (ld_blt I hg2 hm2 boot_set (callWith_type1 (args_cons (thn (ha.run pins s σ H _ I h) fun v s1 ⟨x, H1, I1, r1, q1⟩ => args_nil ?_) na) na rfl))) rfl) rfl rfl))⟩
  obtain ⟨l, xs, z, rfl, hs, hx, hne, q1⟩ := q1
  cases r1
  obtain ⟨its, r, pl, hz⟩ := I1.list hs
  have one : min its.toArray.size 1 = 1 := by
    have : 0 < xs.length := List.length_pos_iff.mpr hne
    have := r.length
    rw [List.size_toArray]; omega
  refine call_set_same (I1.ok.hd hc) pl.isList (by simpa using same_vals r hx) fun h' tk hS hk => args_nil ?_
  rw [one] at hS
  obtain ⟨o, es, ep, t, ho, hex, hd, _, _, _, hf, hn⟩ := hS
  have I2 : Inv X pins σ H1 { s1 with heap := h', toks := tk } := I1.kept fun b o e => hk b o (Heap.lt_size e) e
  exact call_len_set ho hex hd hf (by rw [hn] <;> omega) ⟨.int 1, H1, I2.tok _, ⟨_, by rw [hn] <;> rfl⟩, q1⟩
end
end Fp
/-! set(xs), xs a list of integers; tuple(sorted(set(xs))) -/
namespace Fp
open PySem PySem.Spec PyProof.Rows L2
section
variable {prog : Program} {w : World} {A : Around} {E : Value → Shared → Prop} {s : Shared}
set_option maxHeartbeats 3200000 in
theorem init_ints {l : Addr} {its : Array Value} {ns : List Int} (hh : A.handled = none) (hl : s.heap.IsList l its) (hi : IntsAre its.toList ns) (hb : ns.length + 1 < scanBound) :
    codeAny (model prog w) A (.call (.builtin "set.__init__") ⟨[.ref s.heap.objs.size, .ref l], []⟩) (wants (fun r s₂ => r = .none ∧ ∃ h' tk c, s₂ = { s with heap := h', toks := tk } ∧
      SetR w h' s.heap.objs.size (fun j => decide (j ∈ ns)) c ∧ c ≤ ns.length ∧ (∀ b o, b < s.heap.objs.size → s.heap.get? b = some o → h'.get? b = some o)) E) { s with heap := s.heap.push (setO (!w.params.followText "set-order")) } := by
  generalize hled : (!w.params.followText "set-order") = led
  have top : (s.heap.push (setO led)).get? s.heap.objs.size = some (setO led) := Heap.get?_push_size _ rfl
  have hT : Shared.TypeIs { s with heap := s.heap.push (setO led) } (.ref s.heap.objs.size) "set" := ⟨_, top, rfl⟩
  have hsz : its.size = ns.length := by
    have q := hi.length
    rwa [Array.length_toList] at q
  refine codeAny_call_builtin PySem.F.called_set.init.plain PySem.F.entry_set_init (check_set_init_1 hT ?_)
  obtain ⟨⟨cls, odict, odata, oslots⟩, hol, hcl, nl, hdl⟩ := hl
  simp only at hcl hdl
  subst hcl; subst hdl
  have hol' : (s.heap.push (setO led)).get? l = some { cls := .type "list", dict := odict, data := .seq its nl, slots := oslots } := Heap.get?_push_of_some _ hol
  have f1 := PySem.F.sub_list_set
  have f2 := PySem.F.sub_list_frozenset
  have f3 : (Value.type "list" == Value.type "dict") = false := by decide
  have hl1 : (s.heap.push (setO led)).IsList l its := ⟨_, hol', rfl, nl, rfl⟩
  have lt := Heap.lt_size hol
  unfold Builtin.«set.__init__» noKeywords Builtin.Frozenset.updateFrom
  generalize hPI : pyIter = PI
  wp_walk
  subst hPI
  refine wpAny_pyIter_list hl1 (wpAny_bind (wpAny_runValue ?_))
  have nI : l ≠ (s.heap.push (setO led)).objs.size := by rw [Heap.size_push]; exact Nat.ne_of_lt (Nat.lt_succ_of_lt lt)
  refine set_update_ints ((Walks.list (by simp [hh]) _ l nI its).toS) s.heap.objs.size ?_ ns hsz hb (fun i v e => ?_) its.size 0 _ (Nat.sub_zero _) (Nat.zero_le _) ⟨⟨_, Heap.get?_push_size _ rfl, rfl, rfl⟩, (hl1.push _)⟩ ⟨0, Nat.le_refl 0, setR_new_at (w := w) ?_⟩ ?_
  · rw [Heap.size_push]; simp only [List.mem_cons, List.mem_singleton, List.not_mem_nil, or_false, not_or]; exact ⟨Nat.ne_of_lt (Nat.lt_succ_self _), Nat.ne_of_gt lt⟩
  · have hin : i < ns.length := by rw [← hsz]; exact (Array.getElem?_eq_some_iff.mp e).1
    obtain ⟨t, et⟩ := IntsAre.int_at hi i v (by rw [Array.getElem?_toList]; exact e)
    refine ⟨ns[i], t, List.getElem?_eq_getElem hin, ?_⟩
    rw [et, List.getD_eq_getElem?_getD, List.getElem?_eq_getElem hin] <;> rfl
  · rw [hled]
    exact Heap.get?_push_of_some _ top
  · rintro ⟨h', g', d', tk', os'⟩ c m hc hS
    obtain rfl : g' = s.gens := m.gens
    obtain rfl : d' = s.drawn := m.drawn
    obtain rfl : os' = s.os := m.os
    show wpAny _ _ _ _ _ _
    refine wpAny_pure ?_
    show wpAny _ _ (ret Value.none) _ _ _
    refine wpAny_pure ⟨rfl, h', tk', c, rfl, hS, by omega, fun b o hb e => m.heap b o ?_ (Heap.get?_push_of_some _ (Heap.get?_push_of_some _ e))⟩
    have b1 : b ≠ s.heap.objs.size := Nat.ne_of_lt hb
    have b2 : b ≠ (s.heap.push (setO led)).objs.size := by rw [Heap.size_push]; omega
    simp only [List.mem_cons, List.mem_singleton, List.not_mem_nil, or_false, not_or]
    exact ⟨b1, b2⟩
set_option maxHeartbeats 3200000 in
theorem call_set_ints {l : Addr} {its : Array Value} {ns : List Int} {Q : Value → Shared → Prop} (hh : A.handled = none) (hl : s.heap.IsList l its) (hi : IntsAre its.toList ns) (hb : ns.length + 1 < scanBound)
    (h : ∀ (h' : Heap) (tk c : Nat), SetR w h' s.heap.objs.size (fun j => decide (j ∈ ns)) c → c ≤ ns.length → (∀ b o, b < s.heap.objs.size → s.heap.get? b = some o → h'.get? b = some o) → Q (.ref s.heap.objs.size) { s with heap := h', toks := tk }) :
    wpAny (model prog w) A (call (.type "set") [.ref l]) Q E s := by
  obtain ⟨c, tl, e1⟩ := PySem.F.called_set.mro
  have e2 := PySem.F.called_set.made
  have e3 := PySem.F.called_set.sub
  have e4 := PySem.F.called_set.notType
  have e5 := PySem.F.called_set.canCreate
  have e6 := PySem.F.typeCall_set_1 (.ref l)
  have e7 := PySem.F.called_set.init.lookup
  refine wpAny_call (codeAny_of_tree ?_)
  show wpAny _ _ (callAny (.type "set") _) _ _ _
  refine wpAny_pure ⟨Code.quiet_builtin _ (by decide +kernel), codeAny_builtin PySem.F.entry_type_call ?_⟩
  rw [Around.under_plain (weight_type_call_type "set" [.ref l] []) rfl]
  repeat (any_goals (first | assumption | wp_step))
  refine codeAny_mono (code_set_led1 (.ref l) (E := E) (Q₁ := fun x s₁ => x = .ref s.heap.objs.size ∧ s₁ = { s with heap := s.heap.push (setO (!w.params.followText "set-order")) }) ⟨rfl, rfl⟩) fun r s₁ hr => ?_
  cases r with
  | error e => exact hr
  | ok fl =>
    cases fl with
    | ret x =>
      obtain ⟨rfl, rfl⟩ := hr
      have top : (s.heap.push (setO (!w.params.followText "set-order"))).get? s.heap.objs.size = some (setO (!w.params.followText "set-order")) := Heap.get?_push_size _ rfl
      have hT : Shared.TypeIs { s with heap := s.heap.push (setO (!w.params.followText "set-order")) } (.ref s.heap.objs.size) "set" := ⟨_, top, rfl⟩
      have e8 := PySem.F.called_set.init.bind (.ref s.heap.objs.size)
      repeat (any_goals (first | assumption | wp_step))
      refine codeAny_mono (init_ints (A := A.in1) (E := E) (by simp [hh]) hl hi hb) fun r₂ s₂ hr₂ => ?_
      cases r₂ with
      | error e => exact hr₂
      | ok fl₂ =>
        cases fl₂ with
        | ret r =>
          obtain ⟨rfl, h', tk, c, rfl, hS, hc, hk⟩ := hr₂
          repeat (any_goals (first | assumption | wp_step))
          exact h _ _ _ hS hc hk
        | _ => exact hr₂.elim
    | _ => exact hr.elim
end
theorem ints_vals : ∀ {ns : List Int} {us : List Value}, Vals (ns.map V.int) us → IntsAre us ns
  | [], _, .nil => .nil
  | n :: ns, _, .cons r t => by
    obtain ⟨k, rfl⟩ := r
    exact .cons n k (ints_vals t)
/-- set(xs) of a list of integers -/
def rSetI (K : PySem.W.Frag) (w : World) : List V → Hp → VK → Prop := fun xs H Q => ∃ (l : Addr) (ns : List Int), xs = [.ref l] ∧ SqL K H l (ns.map V.int) ∧ ns.length ≤ 1000 ∧ ∀ a c, c ≤ ns.length → H a = none → Q (.ref a) (upd H a (SetO w a (fun j => decide (j ∈ ns)) c))
section
variable {X : Cx}
theorem cr_setI (hc : X.calm = true) : CallR X (.type "set") (rSetI X.K X.w) := by
  intro pins s σ H xs us Q I r h
  obtain ⟨l, ns, rfl, hs, hl, q⟩ := h
  rw [Vals.ref1 r]
  obtain ⟨its, rv, pl, hz⟩ := I.list hs
  refine call_set_ints (ns := ns) (I.ok.hd hc) pl.isList (by simpa using ints_vals rv) (by unfold scanBound; omega) fun h' tk c hS hcl hk => ?_
  exact ⟨.ref s.heap.objs.size, _, I.laid (t' := tk) (fun b u e => hk b u (Heap.lt_size e) e) (Nat.le_refl _) (setO_new hS), rfl, q _ c hcl (I.hok.fresh (Nat.le_refl _))⟩
end
end Fp
/-! A stair of levels, as a plain thing -/
namespace Fp
open PySem PySem.Spec PyProof.Rows L2
theorem countP_same {α : Type} {f g : α → Bool} : ∀ {l : List α}, (∀ x ∈ l, f x = true → g x = true) → l.countP g ≤ l.countP f → ∀ x ∈ l, g x = true → f x = true
  | [], _, _, x, hx, _ => absurd hx (by simp)
  | a :: l, h, e, x, hx, hg => by
    have hm := List.countP_mono_left (l := l) fun y hy => h y (List.mem_cons_of_mem _ hy)
    have ha := h a List.mem_cons_self
    rw [List.countP_cons, List.countP_cons] at e
    by_cases fa : f a = true
    · have ga := ha fa
      rw [if_pos fa, if_pos ga] at e
      rcases List.mem_cons.mp hx with z | z
      · rw [z]; exact fa
      · exact countP_same (fun y hy => h y (List.mem_cons_of_mem _ hy)) (by omega) x z hg
    · rw [if_neg fa] at e
      by_cases ga : g a = true
      · rw [if_pos ga] at e; omega
      · rw [if_neg ga] at e
        rcases List.mem_cons.mp hx with z | z
        · rw [z] at hg; exact absurd hg ga
        · exact countP_same (fun y hy => h y (List.mem_cons_of_mem _ hy)) (by omega) x z hg
theorem countP_more {α : Type} [DecidableEq α] {f g : α → Bool} : ∀ {l : List α}, (∀ x ∈ l, f x = true → g x = true) → ∀ x ∈ l, f x = false → g x = true → l.countP f < l.countP g := fun {l} h x hx hf hg => by
  rcases Nat.lt_or_ge (l.countP f) (l.countP g) with z | z
  · exact z
  · have := countP_same h z x hx hg
    rw [hf] at this; cases this
theorem countP_range (n : Nat) (f : Nat → Bool) : (List.range n).countP f ≤ n := by
  have := List.countP_le_length (p := f) (l := List.range n)
  rwa [List.length_range] at this
inductive Due where
  | wr (l : Int) | look
structure LS where
  lev : List Lv
  vw : List (Option (List Nat))
  lk : List Bool
  run : List PyData
namespace LS
def new (n : Nat) : LS := ⟨List.replicate n none, List.replicate n none, List.replicate n false, []⟩
def n (s : LS) : Nat := s.lev.length
def lv (s : LS) (p : Nat) : Lv := s.lev.getD p none
def vi (s : LS) (p : Nat) : Option (List Nat) := s.vw.getD p none
def lo (s : LS) (p : Nat) : Bool := s.lk.getD p false
def le (a : Lv) (l : Int) : Bool := match a with
  | none => false
  | some x => decide (x ≤ l)
def below (s : LS) (l : Int) : List Nat := (List.range s.n).filter fun p => le (s.lv p) l
def next (s : LS) (p : Nat) : Option Due := if (s.vi p).isSome then none else if s.lo p then some .look else some (.wr (match s.lv p with
  | none => (s.n : Nat)
  | some l => l - 1))
def own (s : LS) (p : Nat) : Int := (s.lv p).getD 0
def seen (s : LS) (p : Nat) : Option (List Nat) := if s.own p ≤ (s.below (s.own p)).length then some (s.below (s.own p)) else none
def wrote (s : LS) (p : Nat) (l : Int) : LS := { s with lev := s.lev.set p (some l), lk := s.lk.set p true, run := s.run ++ [.tuple [.int (p : Nat), .str "write", .int l]] }
def looked (s : LS) (p : Nat) : LS := { s with vw := s.vw.set p (s.seen p), lk := s.lk.set p false, run := s.run ++ [.tuple [.int (p : Nat), .str "look", .tuple (s.lev.map lvD)]] }
def step (s : LS) (p : Nat) : LS := match s.next p with
  | none => s
  | some (.wr l) => s.wrote p l
  | some .look => s.looked p
/-- at l or below, or coming there -/
def inS (s : LS) (l : Nat) (p : Nat) : Bool := le (s.lv p) l
def inD (s : LS) (l : Nat) (p : Nat) : Bool := decide (s.lv p = some ((l : Int) + 1)) && !s.lo p && (s.vi p).isNone
structure WF (s : LS) : Prop where
  n1 : 1 ≤ s.n
  n5 : s.n ≤ 5
  lw : s.vw.length = s.n
  ll : s.lk.length = s.n
  rng : ∀ p l, s.lv p = some l → 1 ≤ l ∧ l ≤ s.n
  lkl : ∀ p, s.lo p = true → s.lv p ≠ none
  vil : ∀ p v, s.vi p = some v → ∃ l : Nat, s.lv p = some (l : Int) ∧ v = s.below l ∧ (s.below l).length = l
  vlk : ∀ p, s.vi p ≠ none → s.lo p = false
  few : ∀ l : Nat, l < s.n → (List.range s.n).countP (fun p => s.inS l p || s.inD l p) ≤ l
section
variable {s : LS} {p q : Nat} {l : Int}
theorem lv_new (n p : Nat) : (new n).lv p = none := DS.rep_none n p
theorem vi_new (n p : Nat) : (new n).vi p = none := DS.rep_none n p
theorem getB_set (l : List Bool) (p q : Nat) (x : Bool) : (l.set p x).getD q false = if p = q ∧ p < l.length then x else l.getD q false := by
  simp only [List.getD_eq_getElem?_getD, List.getElem?_set]
  by_cases h : p = q
  · subst h
    by_cases h2 : p < l.length
    · simp [h2]
    · have e : l[p]? = none := List.getElem?_eq_none (by omega)
      simp [h2, e]
  · simp [h]
theorem lo_new (n p : Nat) : (new n).lo p = false := by
  show (List.replicate n false).getD p false = false
  rw [List.getD_eq_getElem?_getD, List.getElem?_replicate]; split <;> rfl
theorem WF.new {n : Nat} (h1 : 1 ≤ n) (h5 : n ≤ 5) : (LS.new n).WF := by
  have hn : (LS.new n).n = n := by simp [LS.new, LS.n]
  refine ⟨by omega, by omega, by simp [LS.new, LS.n], by simp [LS.new, LS.n], ?_, ?_, ?_, ?_, fun l hl => ?_⟩
  · intro p l h; rw [lv_new] at h; cases h
  · intro p h; rw [lo_new] at h; cases h
  · intro p v h; rw [vi_new] at h; cases h
  · intro p h; rw [vi_new] at h; exact absurd rfl h
  · have : (List.range (LS.new n).n).countP (fun p => (LS.new n).inS l p || (LS.new n).inD l p) = 0 := by
      rw [List.countP_eq_zero]
      intro p _
      unfold inS inD
      rw [lv_new]
      simp [le]
    omega
theorem mem_below : q ∈ s.below l ↔ q < s.n ∧ le (s.lv q) l = true := by
  unfold below
  rw [List.mem_filter, List.mem_range]
theorem below_len : (s.below l).length = (List.range s.n).countP fun p => le (s.lv p) l := by
  unfold below
  rw [List.countP_eq_length_filter]
theorem le_some {x : Int} (h : s.lv q = some x) : le (s.lv q) l = decide (x ≤ l) := by rw [h]; rfl
theorem lt_of_lv {x : Int} (h : s.lv q = some x) : q < s.n := (getD_none_of h).1
theorem WF.below_le (W : s.WF) (l : Nat) (h : l ≤ s.n) : (s.below l).length ≤ l := by
  rw [below_len]
  by_cases e : l < s.n
  · refine Nat.le_trans (List.countP_mono_left fun x _ hx => ?_) (W.few l e)
    show (s.inS l x || s.inD l x) = true
    rw [show s.inS l x = true from hx]; rfl
  · have : l = s.n := by omega
    rw [this]; exact countP_range _ _
theorem n_wrote : (s.wrote p l).n = s.n := by simp [wrote, n]
theorem n_looked : (s.looked p).n = s.n := rfl
theorem n_step : (s.step p).n = s.n := by
  unfold step
  split
  · rfl
  · exact n_wrote
  · rfl
theorem lv_wrote (hp : p < s.n) : (s.wrote p l).lv q = if p = q then some l else s.lv q := by
  show (s.lev.set p (some l)).getD q none = _
  rw [getD_set]
  by_cases e : p = q
  · rw [if_pos ⟨e, hp⟩, if_pos e]
  · rw [if_neg (fun z => e z.1), if_neg e]; rfl
theorem vi_wrote : (s.wrote p l).vi q = s.vi q := rfl
theorem lo_wrote (W : s.WF) (hp : p < s.n) : (s.wrote p l).lo q = if p = q then true else s.lo q := by
  show (s.lk.set p true).getD q false = _
  rw [getB_set]
  by_cases e : p = q
  · rw [if_pos ⟨e, by rw [W.ll]; exact hp⟩, if_pos e]
  · rw [if_neg (fun z => e z.1), if_neg e]; rfl
theorem lv_looked : (s.looked p).lv q = s.lv q := rfl
theorem vi_looked (W : s.WF) (hp : p < s.n) : (s.looked p).vi q = if p = q then s.seen p else s.vi q := by
  show (s.vw.set p (s.seen p)).getD q none = _
  rw [getD_set]
  by_cases e : p = q
  · rw [if_pos ⟨e, by rw [W.lw]; exact hp⟩, if_pos e]
  · rw [if_neg (fun z => e z.1), if_neg e]; rfl
theorem lo_looked (W : s.WF) (hp : p < s.n) : (s.looked p).lo q = if p = q then false else s.lo q := by
  show (s.lk.set p false).getD q false = _
  rw [getB_set]
  by_cases e : p = q
  · rw [if_pos ⟨e, by rw [W.ll]; exact hp⟩, if_pos e]
  · rw [if_neg (fun z => e z.1), if_neg e]; rfl
theorem below_looked : (s.looked p).below l = s.below l := rfl
/-- nobody comes to a level where as many stand as can -/
theorem WF.full (W : s.WF) {l : Nat} (hl : (s.below l).length = l) (hr : l ≤ s.n) : ∀ q, q < s.n → s.inD l q = false := fun q hq => by
  cases z : s.inD l q with
  | false => rfl
  | true =>
    exfalso
    have hlv : s.lv q = some ((l : Int) + 1) := by
      unfold inD at z
      rw [Bool.and_eq_true, Bool.and_eq_true] at z
      exact of_decide_eq_true z.1.1
    have hle : le (s.lv q) l = false := by rw [le_some hlv]; exact decide_eq_false (by omega)
    have r := (W.rng q _ hlv).2
    have hf := W.few l (by omega)
    have := countP_more (l := List.range s.n) (f := fun p => le (s.lv p) l) (g := fun p => s.inS l p || s.inD l p) (fun x _ hx => by show (s.inS l x || _) = true; rw [show s.inS l x = true from hx]; rfl) q (List.mem_range.mpr hq) hle (by show (s.inS l q || s.inD l q) = true; rw [z]; simp)
    rw [← below_len, hl] at this
    omega
theorem WF.wrote (W : s.WF) (hp : p < s.n) (hv : s.vi p = none) (hk : s.lo p = false) (hl : match s.lv p with | none => l = (s.n : Nat) | some x => l = x - 1) : (s.wrote p l).WF := by
  have L := fun q => lv_wrote (s := s) (l := l) (q := q) hp
  have K := fun q => lo_wrote (l := l) (q := q) W hp
  have low : ∀ x, s.lv p = some x → 2 ≤ x := fun x hx => by
    have h1 := (W.rng p x hx).1
    rcases (show x = 1 ∨ 2 ≤ x by omega) with z | z
    · exfalso
      have hf := W.few 0 (by have := W.n1; omega)
      have hz : (List.range s.n).countP (fun p => s.inS 0 p || s.inD 0 p) = 0 := by omega
      rw [List.countP_eq_zero] at hz
      have := hz p (List.mem_range.mpr hp)
      refine this ?_
      unfold inD
      rw [hx, z, hk, hv]
      simp
    · exact z
  have lr : 1 ≤ l ∧ l ≤ s.n := by
    cases e : s.lv p with
    | none => rw [e] at hl; have := W.n1; simp only at hl; omega
    | some x => rw [e] at hl; have := low x e; have := (W.rng p x e).2; simp only at hl; omega
  -- p is counted only where it was counted
  have key : ∀ k : Nat, k < s.n → l ≤ k → s.inS k p = true ∨ s.inD k p = true := fun k hk' hlk => by
    cases e : s.lv p with
    | none => rw [e] at hl; simp only at hl; omega
    | some x =>
      rw [e] at hl
      simp only at hl
      by_cases z : x ≤ k
      · left; show le (s.lv p) k = true; rw [le_some e]; exact decide_eq_true z
      · right
        unfold inD
        rw [e, hk, hv, show x = (k : Int) + 1 by omega]
        simp
  refine ⟨by rw [n_wrote]; exact W.n1, by rw [n_wrote]; exact W.n5, by rw [n_wrote]; exact W.lw, by rw [n_wrote]; simp [LS.wrote, W.ll], fun q x hq => ?_, fun q hq => ?_, fun q v hq => ?_, fun q hq => ?_, fun k hk' => ?_⟩
  · rw [n_wrote]; rw [L] at hq
    split at hq
    · cases hq; exact lr
    · exact W.rng q x hq
  · rw [K] at hq; rw [L]
    split
    · simp
    · rename_i z; rw [if_neg z] at hq; exact W.lkl q hq
  · rw [vi_wrote] at hq
    obtain ⟨k, h1, h2, h3⟩ := W.vil q v hq
    have pq : p ≠ q := fun z => by rw [← z, hv] at hq; cases hq
    have hkn := (W.rng q _ h1).2
    have e : (s.wrote p l).below k = s.below k := by
      unfold below
      rw [n_wrote]
      refine List.filter_congr fun x hx => ?_
      rw [L]
      split
      · rename_i z
        subst z
        cases hb : le (s.lv p) k with
        | true =>
          cases e : s.lv p with
          | none => rw [e] at hb; cases hb
          | some y =>
            rw [le_some e] at hb
            have := of_decide_eq_true hb
            rw [e] at hl
            simp only at hl
            exact decide_eq_true (by omega)
        | false =>
          refine decide_eq_false fun hlk => ?_
          rcases Nat.lt_or_ge k s.n with c | c
          · have := W.full h3 (by omega) p hp
            rcases key k c (by omega) with w | w
            · have w : le (s.lv p) k = true := w
              rw [hb] at w; cases w
            · rw [this] at w; cases w
          · have kn : k = s.n := by omega
            rw [below_len] at h3
            have := countP_same (l := List.range s.n) (f := fun p => le (s.lv p) k) (g := fun _ => true) (fun _ _ _ => rfl) (by rw [h3, kn]; exact countP_range _ _) p (List.mem_range.mpr hp) rfl
            rw [hb] at this; cases this
      · rfl
    exact ⟨k, by rw [L, if_neg pq]; exact h1, by rw [e]; exact h2, by rw [e]; exact h3⟩
  · rw [vi_wrote] at hq
    rw [K, if_neg]
    · exact W.vlk q hq
    · intro z; rw [← z] at hq; exact hq hv
  · rw [n_wrote] at hk' ⊢
    refine Nat.le_trans (List.countP_mono_left fun x hx h => ?_) (W.few k hk')
    by_cases z : p = x
    · subst z
      have h1 : (s.wrote p l).inD k p = false := by unfold inD; rw [K, if_pos rfl]; simp
      rw [h1, Bool.or_false] at h
      have h : le ((s.wrote p l).lv p) k = true := h
      rw [L, if_pos rfl] at h
      have := of_decide_eq_true (show decide (l ≤ (k : Int)) = true from h)
      rcases key k hk' this with w | w <;> rw [w] <;> simp
    · have h1 : (s.wrote p l).inS k x = s.inS k x := by unfold inS; rw [L, if_neg z]
      have h2 : (s.wrote p l).inD k x = s.inD k x := by unfold inD; rw [L, if_neg z, K, if_neg z]; rfl
      rw [h1, h2] at h; exact h
theorem WF.looked (W : s.WF) (hp : p < s.n) (hk : s.lo p = true) : (s.looked p).WF := by
  have V := fun q => vi_looked (q := q) W hp
  have K := fun q => lo_looked (q := q) W hp
  have hv : s.vi p = none := by
    cases e : s.vi p with
    | none => rfl
    | some v => have := W.vlk p (by rw [e]; simp); rw [hk] at this; cases this
  obtain ⟨x, hx⟩ : ∃ x, s.lv p = some x := by
    cases e : s.lv p with
    | none => exact absurd e (W.lkl p hk)
    | some x => exact ⟨x, rfl⟩
  have ho : s.own p = x := by unfold own; rw [hx]; rfl
  obtain ⟨r1, r2⟩ := W.rng p x hx
  obtain ⟨k, rfl⟩ : ∃ k : Nat, x = k := ⟨x.toNat, by omega⟩
  refine ⟨W.n1, W.n5, by show (s.vw.set p _).length = _; rw [List.length_set]; exact W.lw, by show (s.lk.set p _).length = _; rw [List.length_set]; exact W.ll, W.rng, fun q hq => ?_, fun q v hq => ?_, fun q hq => ?_, fun j hj => ?_⟩
  · rw [K] at hq
    split at hq
    · cases hq
    · exact W.lkl q hq
  · rw [V] at hq
    by_cases z : p = q
    · rw [if_pos z] at hq
      subst z
      unfold seen at hq
      rw [ho] at hq
      split at hq
      · rename_i h
        cases hq
        have := W.below_le k (by omega)
        exact ⟨k, hx, rfl, by show (s.below k).length = k; omega⟩
      · cases hq
    · rw [if_neg z] at hq; exact W.vil q v hq
  · rw [K]
    split
    · rfl
    · rename_i z; rw [V, if_neg z] at hq; exact W.vlk q hq
  · have hj : j < s.n := hj
    show (List.range s.n).countP _ ≤ j
    have oth : ∀ q, p ≠ q → (s.looked p).inD j q = s.inD j q := fun q z => by unfold inD; rw [K, if_neg z, V, if_neg z]; rfl
    by_cases c : k = j + 1 ∧ s.seen p = none
    · obtain ⟨c1, c2⟩ := c
      have hb : (s.below (j + 1 : Nat)).length ≤ j := by
        unfold seen at c2
        rw [ho] at c2
        split at c2
        · cases c2
        · rename_i h; rw [← c1]; omega
      rw [below_len] at hb
      refine Nat.le_trans (List.countP_mono_left fun y hy h => ?_) hb
      rcases Bool.or_eq_true_iff.mp h with w | w
      · have w : le (s.lv y) j = true := w
        cases e : s.lv y with
        | none => rw [e] at w; cases w
        | some z => rw [e] at w; have := of_decide_eq_true (show decide (z ≤ (j : Int)) = true from w); exact decide_eq_true (by omega)
      · unfold inD at w
        rw [Bool.and_eq_true, Bool.and_eq_true] at w
        have := of_decide_eq_true w.1.1
        have this : s.lv y = some ((j : Int) + 1) := this
        rw [this]; exact decide_eq_true (by omega)
    · refine Nat.le_trans (List.countP_mono_left fun y hy h => ?_) (W.few j hj)
      rcases Bool.or_eq_true_iff.mp h with w | w
      · have w : s.inS j y = true := w
        rw [w]; rfl
      · by_cases z : p = y
        · subst z
          exfalso
          unfold inD at w
          rw [Bool.and_eq_true, Bool.and_eq_true] at w
          have h1 := of_decide_eq_true w.1.1
          have h1 : s.lv p = some ((j : Int) + 1) := h1
          rw [hx] at h1
          have h1 := Option.some.inj h1
          have h2 := w.2
          rw [V, if_pos rfl] at h2
          refine c ⟨by omega, ?_⟩
          cases e : s.seen p with
          | none => rfl
          | some v => rw [e] at h2; cases h2
        · rw [oth y z] at w; rw [w]; simp
theorem next_none : s.next p = none ↔ s.vi p ≠ none := by
  unfold next
  cases s.vi p with
  | none => simp; split <;> simp
  | some v => simp
theorem WF.step (W : s.WF) (hp : p < s.n) : (s.step p).WF := by
  unfold LS.step
  cases e : s.next p with
  | none => exact W
  | some du =>
    have hv : s.vi p = none := Classical.byContradiction fun z => by rw [next_none.mpr z] at e; cases e
    unfold LS.next at e
    rw [hv] at e
    simp only [Option.isSome_none, Bool.false_eq_true, if_false] at e
    cases hk : s.lo p with
    | true => rw [hk] at e; cases e; exact W.looked hp hk
    | false =>
      rw [hk] at e
      cases e
      refine W.wrote hp hv hk ?_
      cases s.lv p <;> rfl
/-- views stay -/
theorem vi_keep {v : List Nat} (W : s.WF) (hp : p < s.n) (h : s.vi q = some v) : (s.step p).vi q = some v := by
  unfold LS.step
  cases e : s.next p with
  | none => exact h
  | some du =>
    have hv : s.vi p = none := Classical.byContradiction fun z => by rw [next_none.mpr z] at e; cases e
    have pq : p ≠ q := fun z => by rw [z, h] at hv; cases hv
    cases du with
    | wr l => exact h
    | look => show (s.looked p).vi q = _; rw [vi_looked W hp, if_neg pq]; exact h
/-- how many steps one that goes on alone has still to do, at most -/
def left (s : LS) (p : Nat) : Int := if (s.vi p).isSome then 0 else match s.lv p with
  | none => 2 * (s.n : Nat)
  | some l => if s.lo p then 2 * l - 1 else 2 * l - 2
theorem left_step (W : s.WF) (hp : p < s.n) (h : s.vi p = none) : (s.step p).left p < s.left p ∧ 0 < s.left p := by
  have n1 := W.n1
  have e0 : s.left p = match s.lv p with
    | none => 2 * (s.n : Nat)
    | some l => if s.lo p then 2 * l - 1 else 2 * l - 2 := by unfold left; rw [h]; rfl
  unfold LS.step
  cases hk : s.lo p with
  | true =>
    have en : s.next p = some .look := by unfold next; rw [h, hk]; rfl
    rw [en]
    obtain ⟨x, hx⟩ : ∃ x, s.lv p = some x := by
      cases e : s.lv p with
      | none => exact absurd e (W.lkl p hk)
      | some x => exact ⟨x, rfl⟩
    have r := W.rng p x hx
    rw [hx, hk] at e0
    simp only [if_true] at e0
    rw [e0]
    show (s.looked p).left p < _ ∧ _
    refine ⟨?_, by omega⟩
    unfold left
    rw [vi_looked W hp, if_pos rfl, lo_looked W hp, if_pos rfl, lv_looked, hx]
    split
    · omega
    · simp only [Bool.false_eq_true, if_false]; omega
  | false =>
    cases hl : s.lv p with
    | none =>
      have en : s.next p = some (.wr (s.n : Nat)) := by unfold next; rw [h, hk, hl]; rfl
      rw [en]
      rw [hl] at e0
      simp only at e0
      rw [e0]
      show (s.wrote p (s.n : Nat)).left p < _ ∧ _
      refine ⟨?_, by omega⟩
      unfold left
      rw [vi_wrote, h, lo_wrote W hp, if_pos rfl, lv_wrote hp, if_pos rfl]
      simp only [Option.isSome_none, Bool.false_eq_true, if_false, if_true]
      omega
    | some x =>
      have en : s.next p = some (.wr (x - 1)) := by unfold next; rw [h, hk, hl]; rfl
      rw [en]
      rw [hl, hk] at e0
      simp only [Bool.false_eq_true, if_false] at e0
      rw [e0]
      have r := W.rng p x hl
      have x2 : 2 ≤ x := by
        rcases (show x = 1 ∨ 2 ≤ x by omega) with z | z
        · exfalso
          have hf := W.few 0 (by omega)
          have hz : (List.range s.n).countP (fun p => s.inS 0 p || s.inD 0 p) = 0 := by omega
          rw [List.countP_eq_zero] at hz
          refine hz p (List.mem_range.mpr hp) ?_
          unfold inD
          rw [hl, z, hk, h]
          simp
        · exact z
      show (s.wrote p (x - 1)).left p < _ ∧ _
      refine ⟨?_, by omega⟩
      unfold left
      rw [vi_wrote, h, lo_wrote W hp, if_pos rfl, lv_wrote hp, if_pos rfl]
      simp only [Option.isSome_none, Bool.false_eq_true, if_false, if_true]
      omega
theorem left_top (W : s.WF) : s.left p ≤ 2 * (s.n : Nat) := by
  unfold left
  split
  · omega
  · split
    · omega
    · rename_i l hl
      have := W.rng p l hl
      split <;> omega
/-- a view has its own hand, and all elder views, if the hand was fresh -/
theorem WF.self (W : s.WF) {v : List Nat} (h : s.vi p = some v) : p ∈ v := by
  obtain ⟨l, h1, h2, _⟩ := W.vil p v h
  rw [h2]
  exact mem_below.mpr ⟨lt_of_lv h1, by rw [le_some h1]; exact decide_eq_true (Int.le_refl _)⟩
theorem WF.elder (W : s.WF) {s0 : LS} (W0 : s0.WF) {v w : List Nat} (hf : s0.lv p = none) (h : s.vi p = some v) (hq : s.vi q = some w) (hq0 : s0.vi q = some w) : ∀ x ∈ w, x ∈ v := by
  obtain ⟨l, h1, h2, _⟩ := W.vil p v h
  obtain ⟨k, k1, k2, _⟩ := W.vil q w hq
  obtain ⟨k0, j1, j2, _⟩ := W0.vil q w hq0
  have hpw : p ∉ w := fun z => by
    rw [j2] at z
    have := (mem_below.mp z).2
    rw [hf] at this; cases this
  have hkl : k ≤ l := by
    rcases Nat.lt_or_ge l k with z | z
    · exfalso
      refine hpw ?_
      rw [k2]
      exact mem_below.mpr ⟨lt_of_lv h1, by rw [le_some h1]; exact decide_eq_true (by omega)⟩
    · exact z
  intro x hx
  rw [k2] at hx
  obtain ⟨a, b⟩ := mem_below.mp hx
  rw [h2]
  refine mem_below.mpr ⟨a, ?_⟩
  cases e : s.lv x with
  | none => rw [e] at b; cases b
  | some y => rw [e] at b; have := of_decide_eq_true (show decide (y ≤ (k : Int)) = true from b); exact decide_eq_true (by omega)
end
end LS
end Fp
/-! len of an object with an own __len__; data that stays, whatever lists change; C(k = v) -/
namespace Fp
open PySem PySem.Spec PyProof.Rows L2
structure LenC (P : Program) (w : World) (K : PySem.W.Frag) (mg : Str → Option Value) (base : Heap) (C : Addr) (n : Nat) (ps : List Str) (sp : Sp) : Prop where
  ex : ∃ (f : Addr) (fd : FuncData), PySem.W.findIn K (.ref C) "__len__" = some (some (.ref f)) ∧ PySem.W.isFn K (.ref f) = true ∧ Binds K fd ps [] ∧ FnOk P w K mg base CX0 n f fd ps sp
def rLenO (C : Addr) (sp : Sp) : List V → Hp → VK → Prop := fun xs H Q => ∃ (a dx : Addr) (fs : List (Str × V)), xs = [.ref a] ∧ H a = some (.ins C dx fs) ∧ sp [.ref a] H (fun v H' => ∃ n : Nat, v = .int n ∧ n < 2 ^ 62 ∧ Q (.int n) H') E0
section
variable {X : Cx} {C : Addr} {n : Nat} {ps : List Str} {sp : Sp}
theorem call_lenO (M : LenC X.prog X.w X.K X.mg X.base C n ps sp) (hr : Room (n + 1) X.A) : CallR X (.builtin "len") (rLenO C sp) := by
  intro pins s σ H xs us Q I r h
  obtain ⟨a, dx, fs, rfl, ha, q⟩ := h
  rw [Vals.ref1 r]
  obtain ⟨f, fd, hs, hf, hb, F⟩ := M.ex
  obtain ⟨mA, J, _⟩ := ins_get I.hok ha
  obtain ⟨od, J, _⟩ := J.look
  obtain ⟨m, hF⟩ := I.fr
  refine PySem.W.len_K hF I.ok.mod.kin J hs hf ?_
  have e0 : Env0 X.prog X.w X.K X.mg X.base X.A.in1 X.stack s H := I.env0.in1
  have r2 : Vals ([V.ref a] ++ []) ([Value.ref a] ++ []) := Vals.append (.cons rfl .nil) .nil
  have hsp : sp ([V.ref a] ++ []) H (fun v H' => ∃ n : Nat, v = .int n ∧ n < 2 ^ 62 ∧ Q (.int n) H') E0 := q
  have hl : ([Value.ref a] ++ []).length = ps.length := by rw [← r2.length]; exact F.len _ _ _ _ hsp
  refine wpAny_call (codeAny_mono (F.run X.A.in1 X.stack s H ⟨[.ref a], []⟩ _ _ _ E0 hr.in1 e0 (hb s [.ref a] I.kIn hl) r2 hsp) fun r s' hq => ?_)
  cases r with
  | error e => exact pass0 pins σ H s e s' I hq
  | ok fl =>
    cases fl with
    | ret u =>
      obtain ⟨v, H', I', rv, k, rfl, hk, q'⟩ := I.after hq
      obtain ⟨t, rfl⟩ := rv
      exact ⟨⟨by omega, by omega⟩, .int k, H', I'.tok _, ⟨_, rfl⟩, q'⟩
    | next => exact False.elim hq
    | brk => exact False.elim hq
    | cont => exact False.elim hq
end
/-! ### C(k = v) -/
structure MkK (P : Program) (w : World) (K : PySem.W.Frag) (mg : Str → Option Value) (base : Heap) (x : Str) (C : Addr) (k : Nat) (ps ks : List Str) (sp : Sp) : Prop where
  at_ : mg x = some (.ref C)
  ex : ∃ (f : Addr) (fd : FuncData), Mk K C f ∧ KBn K fd ps 1 ks (fun us ws => us ++ ws) (fun vs zs => vs ++ zs) ∧ FnOk P w K mg base CX0 k f fd ps sp
section
variable {X : Cx} {x : Str} {k : Nat} {ps ks : List Str} {sp : Sp} {C : Addr} {kws : List Keyword} {tk : TA} {p pos : Pos}
theorem pe_mkK (M : MkK X.prog X.w X.K X.mg X.base x C k ps ks sp) (hr : Room (k + 1) X.A) (hg : Gl X x) (hkw : PK X kws tk)
    (hall : (backToKw pos (keywordEach kws X.env)).all (·.1.isSome) = true := by rfl) (hks : (backToKw pos (keywordEach kws X.env)).filterMap (·.1) = ks := by rfl) (hdb : (x == ("__debug__" : Str)) = false := by decide)
    (hpl : ((backTo pos (starEach [] X.env)).any (·.1) || (backToKw pos (keywordEach kws X.env)).any (·.1.isNone)) = false := by rfl) :
    PE X (.Call (.Name x p) [] kws pos) (tMakeK C 0 ks.length sp (fun vs zs => vs ++ zs) E0 tNil tk) := by
  obtain ⟨f, fd, h1, h2, h3⟩ := M.ex
  exact pe_makeK0 h1 h3 hr hg M.at_ h2 pass0 hkw hall hks hdb hpl
end
/-! ### data that stays -/
def SD (K : PySem.W.Frag) (H : Hp) (x : V) (d : PyData) : Prop := ∀ H', TK H H' → Dp K H' x d
section
variable {K : PySem.W.Frag} {H H' : Hp} {x v : V} {d dv : PyData} {t : Addr} {xs : List V} {ds : List PyData}
theorem SD.mono (h : SD K H x d) (g : TK H H') : SD K H' x d := fun _ g2 => h _ (g.trans g2)
theorem SDs.mono (h : Paired (SD K H) xs ds) (g : TK H H') : Paired (SD K H') xs ds := pr_imp (fun _ _ h => SD.mono h g) h
theorem SDs.dp : ∀ {xs : List V} {ds : List PyData}, Paired (SD K H) xs ds → DpAll K H xs ds
  | _, _, .nil => .nil
  | _, _, .cons a b => .cons (a _ (.refl _)) (SDs.dp b)
theorem sd_tup (h : H t = some (.tup xs)) (a : Paired (SD K H) xs ds) : SD K H (.ref t) (.tuple ds) := fun _ g => .tup (.of (g.t h)) (SDs.dp (SDs.mono a g))
theorem sd_int (i : Int) : SD K H (.int i) (.int i) := fun _ _ => .int i
theorem sd_str (z : Str) : SD K H (.str z) (.str z) := fun _ _ => .str z
theorem sd_non : SD K H .non .none := fun _ _ => .non
theorem sd_val (h : VAt H v dv) : SD K H v dv := fun _ g => (h.mono g).dp
/-- what is told, as data, the word's being dv -/
def tdD (dv : PyData) : Told → PyData
  | .level i => .tuple [.str "level", .int i]
  | .look l => .tuple [.str "look", .tuple (l.map lvD)]
  | .wait => .tuple [.str "wait"]
  | .word _ => .tuple [.str "word", dv]
theorem sd_lv : ∀ l : List Lv, Paired (SD K H) (l.map lvV) (l.map lvD)
  | [] => .nil
  | none :: l => .cons sd_non (sd_lv l)
  | some i :: l => .cons (sd_int i) (sd_lv l)
theorem sd_told {x : Told} (h : ToldAt H t x) (hw : ∀ v, x = .word v → VAt H v dv) : SD K H (.ref t) (tdD dv x) := by
  cases x with
  | level i => exact sd_tup h (.cons (sd_str _) (.cons (sd_int _) .nil))
  | look l =>
    obtain ⟨q, a, b⟩ := h
    intro H' g
    exact .tup (.of (g.t a)) (.cons (.str _) (.cons (.tup (g.tt b).sq (SDs.dp (sd_lv l))) .nil))
  | wait => exact sd_tup h (.cons (sd_str _) .nil)
  | word v => exact sd_tup h (.cons (sd_str _) (.cons (sd_val (hw v rfl)) .nil))
end
/-- how many steps were done -/
def DS.stps (s : DS) : Nat := (s.deeds.filter (·.stp)).length
def spDLen (C : Addr) : Sp := fun vs H Q _ => ∃ (d : Addr) (s : DS), vs = [.ref d] ∧ DoorAt C H d s ∧ s.deeds.length < 100000 ∧ ∀ H', Same H H' → Q (.int (s.stps : Nat)) H'
end Fp
namespace Fp
open PySem PySem.Spec PyProof.Rows L2
/-! ### steps one by one -/
section
variable {C : Addr} {H H1 H2 : Hp} {d : Addr} {s : DS} {c h : List (Option V)} {l : List Lv} {sn : List (Option (List Lv))} {ds : List Deed} {p n m : Nat} {x : V}
theorem nx_step (e1 : ds.length = n) (e2 : (ds.filter (·.stp)).length = m) (D : DoorAt C H d (DS.mk c l h sn (ds ++ [⟨true, p, x⟩]))) :
    ∃ ds' : List Deed, ds'.length = n + 1 ∧ (ds'.filter (·.stp)).length = m + 1 ∧ DoorAt C H d ⟨c, l, h, sn, ds'⟩ := ⟨_, by rw [List.length_append, e1]; rfl, by rw [List.filter_append, List.length_append, e2]; rfl, D⟩
theorem nx_come (e1 : ds.length = n) (e2 : (ds.filter (·.stp)).length = m) (D : DoorAt C H d (DS.mk c l h sn (ds ++ [⟨false, p, x⟩]))) :
    ∃ ds' : List Deed, ds'.length = n + 1 ∧ (ds'.filter (·.stp)).length = m ∧ DoorAt C H d ⟨c, l, h, sn, ds'⟩ := ⟨_, by rw [List.length_append, e1]; rfl, by rw [List.filter_append, List.length_append, e2]; rfl, D⟩
theorem Same.into {H0 : Hp} (F : Same H0 H1) (g : But [d] H1 H2) (hd : H0 d = none) : Same H0 H2 := fun b o e => g b o (by
  rw [List.mem_singleton]
  intro z
  rw [z, hd] at e
  cases e) (F b o e)
end
theorem SD.now {K : PySem.W.Frag} {H : Hp} {x : V} {d : PyData} (h : SD K H x d) : Dp K H x d := h H (.refl _)
theorem Same.gone {H H1 : Hp} {a : Addr} (F : Same H H1) (h : H1 a = none) : H a = none := by
  cases e : H a with
  | none => rfl
  | some o => rw [F a o e] at h; cases h
theorem Same.put {H H1 : Hp} {a : Addr} {o : HO} (F : Same H H1) (h : H a = none) : Same H (upd H1 a o) := fun b u e => by
  rw [upd_ne (fun z => by rw [z, h] at e; cases e)]; exact F b u e
theorem pr_append {α β : Type} {F : α → β → Prop} : ∀ {l l' : List α} {m m' : List β}, Paired F l m → Paired F l' m' → Paired F (l ++ l') (m ++ m')
  | _, _, _, _, .nil, h => h
  | _, _, _, _, .cons a r, h => .cons a (pr_append r h)
theorem pr_two {α β : Type} {F : α → β → Prop} {l : List α} {a b : β} (h : Paired F l [a, b]) : ∃ x y, l = [x, y] ∧ F x a ∧ F y b := by
  cases h with
  | cons h1 t => cases t with
    | cons h2 t => cases t; exact ⟨_, _, rfl, h1, h2⟩
/-- one player alone, at 2, step by step -/
def lateS (v : V) : Nat → List Deed → DS
  | 0, ds => ⟨[none, none, some v], [none, none, none], [none, none, none], [none, none, none], ds⟩
  | 1, ds => ⟨[none, none, some v], [none, none, some 1], [none, none, none], [none, none, none], ds⟩
  | 2, ds => ⟨[none, none, some v], [none, none, some 1], [none, none, none], [none, none, some [none, none, some 1]], ds⟩
  | 3, ds => ⟨[none, none, some v], [none, none, some 2], [none, none, none], [none, none, some [none, none, some 1]], ds⟩
  | _, ds => ⟨[none, none, some v], [none, none, some 2], [none, none, some v], [none, none, some [none, none, some 1]], ds⟩
def lateT (v : V) : Nat → Told
  | 0 => .level 1
  | 1 => .look [none, none, some 1]
  | 2 => .level 2
  | _ => .word v
theorem late_step (v : V) (i : Nat) (ds : List Deed) (hi : i < 4) : (lateS v i ds).cm 2 ≠ none ∧ (lateS v i ds).told 2 = lateT v i ∧ (lateS v i ds).deeds = ds ∧ ∃ x, (lateS v i ds).step 2 = lateS v (i + 1) (ds ++ [⟨true, 2, x⟩]) := by
  rcases (show i = 0 ∨ i = 1 ∨ i = 2 ∨ i = 3 by omega) with rfl | rfl | rfl | rfl <;> exact ⟨fun z => (nomatch (show some v = none from z)), rfl, rfl, _, rfl⟩
theorem late_word {v x : V} {i : Nat} (hi : i < 4) (h : lateT v i = .word x) : x = v := by
  rcases (show i = 0 ∨ i = 1 ∨ i = 2 ∨ i = 3 by omega) with rfl | rfl | rfl | rfl <;> first | (cases h; done) | (injection h with h; exact h.symm)
theorem Sms.list {k n m : Nat} {ds : List PyData} (h : ∀ d ∈ ds, Sm k n d) (hm : (n + 1) * ds.length ≤ m) : Sm (k + 1) m (.list ds) := (Sms.all h).lst.mono (Nat.le_refl _) hm
theorem sm_td {dv : PyData} (ho : VOk 3 dv) (x : Told) (h : ∀ i, x = .level i → 0 ≤ i ∧ i ≤ 2) (hl : ∀ l, x = .look l → l.length ≤ 5 ∧ ∀ i, some i ∈ l → 0 ≤ i ∧ i ≤ 2) : Sm 6 100 (tdD dv x) := by
  cases x with
  | level i => exact sm_level (h i rfl).1 (h i rfl).2
  | look l =>
    have := hl l rfl
    exact (Sms.tup (.cons ((sm_word "look" (by decide +kernel)).mono (by decide : 1 ≤ 2) (Nat.le_refl 10)) (.cons (lv_sms this.2 this.1).tup (Sms.nil (n := 0))))).mono (by decide) (by decide)
  | wait => exact sm_wait
  | word v => exact sm_wordD ho
end Fp
/-! k35: the last two turned about; what deeds are as data; shown texts that differ -/
namespace Fp
open PySem PySem.Spec PyProof.Rows L2
theorem pick2 (its : List Value) (n : Nat) (a b : Value) (hn : its.length = n + 2) (ha : its[n + 1]? = some a) (hb : its[n]? = some b) : slicePick its.toArray none (some (-3)) (some (-1)) = #[a, b] := by
  unfold slicePick
  have hs : its.toArray.size = n + 2 := by simpa using hn
  have e : sliceBounds none (some (-3)) (some (-1)) its.toArray.size = ((n : Int) + 1, (n : Int) - 1, -1) := by
    rw [hs]
    unfold sliceBounds
    simp only [Option.getD_some, show ¬ ((-1 : Int) > 0) by decide, if_false, show ((-3 : Int) < 0) by decide, if_true]
    refine Prod.ext ?_ (Prod.ext ?_ rfl)
    · show ((n + 2 : Nat) : Int) - 1 = (n : Int) + 1; omega
    · show max (-1) (min (-3 + ((n + 2 : Nat) : Int)) (((n + 2 : Nat) : Int) - 1)) = (n : Int) - 1; omega
  rw [e]
  have r : sliceRange ((n : Int) + 1) ((n : Int) - 1) (-1) = [n + 1, n] := by
    unfold sliceRange
    have h : (n : Int) + 1 > (n : Int) - 1 := by omega
    have c : ((n : Int) + 1 - ((n : Int) - 1) - -1 - 1) / (- -1) = 2 := by
      rw [show (- -1 : Int) = 1 by decide, Int.ediv_one]; omega
    simp only [show ¬ ((-1 : Int) > 0) by decide, if_false, h, if_true, c]
    show [(((n : Int) + 1 + -1 * ((0 : Nat) : Int))).toNat, (((n : Int) + 1 + -1 * ((1 : Nat) : Int))).toNat] = _
    rw [show ((n : Int) + 1 + -1 * ((0 : Nat) : Int)).toNat = n + 1 by omega, show ((n : Int) + 1 + -1 * ((1 : Nat) : Int)).toNat = n by omega]
  show ((sliceRange ((n : Int) + 1) ((n : Int) - 1) (-1)).filterMap (its.toArray[·]?)).toArray = _
  rw [r]
  simp [ha, hb]
def tLast2 (K : PySem.W.Frag) (te : TE) : TE := fun σ H Q => te σ H fun x H1 => ∃ a xs u v, x = .ref a ∧ SqL K H1 a (xs ++ [u, v]) ∧ ∀ p, H1 p = none → Q (.ref p) (upd H1 p (.lst [v, u]))
section
variable {X : Cx}
theorem pe_last2 {e : Expr} {te : TE} {k k2 : Nat} {p1 p2 p3 p4 p5 pos : Pos} (he : PE X e te) : PE X (.Subscript e (.Slice none (some (.UnaryOp .USub (.Constant (.int 3) k2 p4) p5)) (some (.UnaryOp .USub (.Constant (.int 1) k p1) p2)) p3) pos) (tLast2 X.K te) := by
  refine ⟨fun pins s σ H Q I h => ?_⟩
  refine Subscript_ (thn (he.run pins s σ H _ I h) fun v s1 ⟨x, H1, I1, r1, q1⟩ => ?_)
  obtain ⟨a, xs, u1, v1, ex, hx, q⟩ := q1
  subst ex
  cases r1
  have hst : PO X (some (.UnaryOp .USub (.Constant (.int 1) k p1) p2)) (tPart (tUn (rU fun i => .int (-i)) (tC (.int 1)))) := po_some (pe_un un_neg pe_int)
  have hst3 : PO X (some (.UnaryOp .USub (.Constant (.int 3) k2 p4) p5)) (tPart (tUn (rU fun i => .int (-i)) (tC (.int 3)))) := po_some (pe_un un_neg pe_int)
  refine wpAny_Slice (thn (po_none.run pins s1 σ H1 (fun o H2 => o = none ∧ H2 = H1) I1 ⟨rfl, rfl⟩) fun vl s2 ⟨l, H2, I2, pl, el, e2⟩ => ?_)
  subst el e2
  refine thn (hst3.run pins s2 σ H2 (fun o H3 => o = some (-3) ∧ H3 = H2) I2 ⟨3, rfl, -3, rfl, rfl, rfl⟩) fun vu s3 ⟨u, H3, I3, pu, eu, e3⟩ => ?_
  subst eu e3
  refine thn (hst.run pins s3 σ H3 (fun o H4 => o = some (-1) ∧ H4 = H3) I3 ⟨1, rfl, -1, rfl, rfl, rfl⟩) fun vs s4 ⟨o, H4, I4, ps, eo, e4⟩ => ?_
  subst eo e4
  have I5 : Inv X pins σ H4 { s4 with heap := s4.heap.push { cls := .type "slice", data := .fields #[vl, vu, vs] } } := I4.kept (t' := s4.toks) fun b ob q => Heap.get?_push_of_some _ q
  obtain ⟨its, r, ht, hz⟩ := I5.list hx
  have hlen := r.length
  rw [List.length_append] at hlen
  have hl2 : its.length = xs.length + 2 := hlen.symm
  show wpAny (model X.prog X.w) X.A (subscriptTail e (.Slice none (some (.UnaryOp .USub (.Constant (.int 3) k2 p4) p5)) (some (.UnaryOp .USub (.Constant (.int 1) k p1) p2)) p3) (.ref a) (.ref s4.heap.objs.size)) (EP X pins σ Q) X.xe { s4 with heap := s4.heap.push { cls := .type "slice", data := .fields #[vl, vu, vs] } }
  refine tail_any (ops := [.ref a, .ref s4.heap.objs.size]) ht.isList.typeIs (PySem.slot_list_getitem.lookup) ?_ (by with_unfolding_all rfl)
  refine wpAny_getItem_list_slice ht.isList (Heap.IsSliceOf.new _ vl vu vs) pl pu ps (by decide) ?_ (by rw [List.size_toArray]; rw [List.length_append] at hz; omega)
  obtain ⟨w1, hw1, rw1⟩ := r.get (i := xs.length + 1) (x := v1) (by rw [List.getElem?_append_right (by omega), show xs.length + 1 - xs.length = 1 by omega]; rfl)
  obtain ⟨w2, hw2, rw2⟩ := r.get (i := xs.length) (x := u1) (by rw [List.getElem?_append_right (by omega), Nat.sub_self]; rfl)
  rw [pick2 its xs.length w1 w2 hl2 hw1 hw2]
  refine ⟨.ref _, _, I5.laid (t' := s4.toks) (o := .lst [v1, u1]) (fun b ob q => Heap.get?_push_of_some _ q) (Nat.le_refl _) ?_, rfl, q _ (I5.hok.fresh (Nat.le_refl _))⟩
  exact ⟨by show 2 ≤ sizeLine; decide, _, 0, .cons rw1 (.cons rw2 .nil), Heap.get?_push_size _ rfl⟩
end
/-! ### deeds -/
theorem DS.step_deeds (s : DS) (p : Nat) : (s.step p).deeds = s.deeds ++ [⟨true, p, .str (DS.kindOf (s.stg p))⟩] := by
  have h4 := DS.stg_lt s p
  rcases (show s.stg p = 0 ∨ s.stg p = 1 ∨ s.stg p = 2 ∨ s.stg p = 3 by omega) with e | e | e | e
  · rw [DS.step0 e, e]; rfl
  · rw [DS.step1 e, e]; rfl
  · rw [DS.step2 e, e]; rfl
  · rw [DS.step3 e, e]; split <;> rfl
structure DS.DOk (s : DS) : Prop where
  hok : ∀ q x, s.hd q = some x → ∃ r, s.cm r = some x
  dcm : ∀ d ∈ s.deeds, d.stp = false → s.cm d.p = some d.x
  dst : ∀ d ∈ s.deeds, d.stp = true → ∃ k, k ≤ 3 ∧ d.x = .str (DS.kindOf k)
  dp : ∀ d ∈ s.deeds, d.p < 5
theorem DS.DOk.new (n : Nat) : (DS.new n).DOk := ⟨fun q x h => (by rw [DS.hd_new] at h; cases h), fun d h => absurd h (by simp [DS.new]), fun d h => absurd h (by simp [DS.new]), fun d h => absurd h (by simp [DS.new])⟩
theorem DS.DOk.come {s : DS} {p : Nat} {v : V} (h : s.DOk) (W : s.WF) (hp : p < s.lev.length) (hc : s.cm p = none) : (s.come p v).DOk := by
  have keep : ∀ r x, s.cm r = some x → (s.come p v).cm r = some x := fun r x hr => by
    rw [DS.cm_come, if_neg]
    · exact hr
    · rintro ⟨z, _⟩; rw [← z, hc] at hr; cases hr
  have e : (s.come p v).deeds = s.deeds ++ [⟨false, p, v⟩] := rfl
  have h5 := W.n5
  refine ⟨fun q x hq => ?_, fun d hd hs => ?_, fun d hd hs => ?_, fun d hd => ?_⟩
  · rw [DS.hd_come] at hq
    obtain ⟨r, hr⟩ := h.hok q x hq
    exact ⟨r, keep r x hr⟩
  · rw [e] at hd
    rcases List.mem_append.mp hd with hd | hd
    · exact keep _ _ (h.dcm d hd hs)
    · rw [List.mem_singleton] at hd; subst hd
      rw [DS.cm_come, if_pos ⟨rfl, by rw [W.lc]; exact hp⟩]
  · rw [e] at hd
    rcases List.mem_append.mp hd with hd | hd
    · exact h.dst d hd hs
    · rw [List.mem_singleton] at hd; subst hd; cases hs
  · rw [e] at hd
    rcases List.mem_append.mp hd with hd | hd
    · exact h.dp d hd
    · rw [List.mem_singleton] at hd; subst hd; show p < 5; omega
theorem DS.DOk.step {s : DS} {p : Nat} (h : s.DOk) (W : s.WF) (hc : s.cm p ≠ none) : (s.step p).DOk := by
  have hp := DS.lt_of_cm W hc
  have h5 := W.n5
  refine ⟨fun q x hq => ?_, fun d hd hs => ?_, fun d hd hs => ?_, fun d hd => ?_⟩
  · rw [DS.hd_step W hc] at hq
    split at hq
    · exact ⟨s.two, by rw [DS.cm_step]; exact hq⟩
    · obtain ⟨r, hr⟩ := h.hok q x hq
      exact ⟨r, by rw [DS.cm_step]; exact hr⟩
  · rw [DS.step_deeds] at hd
    rw [DS.cm_step]
    rcases List.mem_append.mp hd with hd | hd
    · exact h.dcm d hd hs
    · rw [List.mem_singleton] at hd; subst hd; cases hs
  · rw [DS.step_deeds] at hd
    rcases List.mem_append.mp hd with hd | hd
    · exact h.dst d hd hs
    · rw [List.mem_singleton] at hd; subst hd; exact ⟨_, DS.stg_lt s p, rfl⟩
  · rw [DS.step_deeds] at hd
    rcases List.mem_append.mp hd with hd | hd
    · exact h.dp d hd
    · rw [List.mem_singleton] at hd; subst hd; show p < 5; omega
theorem kind_cases {k : Nat} (h : k ≤ 3) : DS.kindOf k = "level" ∨ DS.kindOf k = "look" ∨ DS.kindOf k = "ask" := by
  rcases (show k = 0 ∨ k = 1 ∨ k = 2 ∨ k = 3 by omega) with e | e | e | e <;> subst e
  · exact .inl rfl
  · exact .inr (.inl rfl)
  · exact .inl rfl
  · exact .inr (.inr rfl)
theorem sm_kind {k : Nat} (h : k ≤ 3) : Sm 1 10 (.str (DS.kindOf k)) := by
  rcases kind_cases h with e | e | e <;> rw [e] <;> exact sm_word _ (by decide +kernel)
/-- a deed as data -/
def DD (d : Deed) (pd : PyData) : Prop := ∃ w x, pd = .tuple [.str w, .int (d.p : Nat), x]
theorem deeds_data {H : Hp} : ∀ ds : List Deed, (∀ d ∈ ds, (d.stp = false → Good H d.x) ∧ (d.stp = true → ∃ k, k ≤ 3 ∧ d.x = .str (DS.kindOf k)) ∧ d.p < 5) →
    ∃ pds : List PyData, (∀ (K : PySem.W.Frag) (H' : Hp) (dv : List V), TK H H' → Paired (DeedAt H') dv ds → DpAll K H' dv pds) ∧ (∀ d ∈ pds, Sm 5 70 d) ∧ Paired DD ds pds
  | [], _ => ⟨[], fun K H' dv g P => by cases P; exact .nil, fun d h => absurd h (by simp), .nil⟩
  | d :: ds, h => by
    obtain ⟨pds, h1, h2, h3⟩ := deeds_data ds fun e he => h e (List.mem_cons_of_mem _ he)
    obtain ⟨g0, g1, g2⟩ := h d List.mem_cons_self
    have smp : Sm 1 0 (.int (d.p : Nat)) := Sm.int (by omega) (by omega)
    cases hs : d.stp with
    | false =>
      obtain ⟨dx, vx, ox⟩ := g0 hs
      refine ⟨.tuple [.str "come", .int (d.p : Nat), dx] :: pds, fun K H' dv g P => ?_, fun e he => ?_, .cons ⟨_, _, rfl⟩ h3⟩
      · cases P with
        | cons a r =>
          obtain ⟨q, rfl, hq⟩ := a
          rw [hs] at hq
          exact .cons (.tup (.of hq) (.cons (.str _) (.cons (.int _) (.cons (vx.mono g).dp .nil)))) (h1 K H' _ g r)
      · rcases List.mem_cons.mp he with e' | e'
        · rw [e']
          exact (Sms.tup (.cons ((sm_word "come" (by decide +kernel)).mono (by decide : 1 ≤ 4) (Nat.le_refl 10)) (.cons (smp.mono (by decide) (Nat.le_refl 0)) (.cons ox.sm (Sms.nil (n := 0)))))).mono (by decide) (by decide)
        · exact h2 e e'
    | true =>
      obtain ⟨k, hk, ex⟩ := g1 hs
      refine ⟨.tuple [.str "step", .int (d.p : Nat), .str (DS.kindOf k)] :: pds, fun K H' dv g P => ?_, fun e he => ?_, .cons ⟨_, _, rfl⟩ h3⟩
      · cases P with
        | cons a r =>
          obtain ⟨q, rfl, hq⟩ := a
          rw [hs, ex] at hq
          exact .cons (.tup (.of hq) (.cons (.str _) (.cons (.int _) (.cons (.str _) .nil)))) (h1 K H' _ g r)
      · rcases List.mem_cons.mp he with e' | e'
        · rw [e']
          exact (Sms.tup (.cons ((sm_word "step" (by decide +kernel)).mono (by decide : 1 ≤ 4) (Nat.le_refl 10)) (.cons (smp.mono (by decide) (Nat.le_refl 0)) (.cons ((sm_kind hk).mono (by decide) (Nat.le_refl 10)) (Sms.nil (n := 0)))))).mono (by decide) (by decide)
        · exact h2 e e'
theorem eqv_players : ∀ {ds es : List Deed} {pd pe : List PyData}, Paired DD ds pd → Paired DD es pe → PyData.eqvAll pd pe = true → ds.map Deed.p = es.map Deed.p
  | _, _, _, _, .nil, .nil, _ => rfl
  | _, _, _, _, .nil, .cons _ _, h => by simp [PyData.eqvAll] at h
  | _, _, _, _, .cons _ _, .nil, h => by simp [PyData.eqvAll] at h
  | _, _, _, _, .cons a r, .cons b t, h => by
    obtain ⟨w, x, rfl⟩ := a
    obtain ⟨w', x', rfl⟩ := b
    rw [PyData.eqvAll, Bool.and_eq_true] at h
    have h1 := h.1
    simp only [PyData.eqv, PyData.eqvAll, Bool.and_eq_true] at h1
    have h2 := h1.2.1
    rw [List.map_cons, List.map_cons, eqv_players r t h.2]
    congr 1
    simp at h2
    omega
theorem DS.DOk.deeds {C : Addr} {H : Hp} {d : Addr} {s : DS} (h : s.DOk) (D : DoorAt C H d s) : ∀ x ∈ s.deeds, (x.stp = false → Good H x.x) ∧ (x.stp = true → ∃ k, k ≤ 3 ∧ x.x = .str (DS.kindOf k)) ∧ x.p < 5 := by
  intro x hx
  obtain ⟨dx', a, b, c, e, f, cv', hv', sv', dv', DD⟩ := D
  exact ⟨fun z => DD.good _ _ (h.dcm x hx z), h.dst x hx, h.dp x hx⟩
/-! ### (VALUE,) or None, as data -/
theorem opt_data {H : Hp} : ∀ m : List (Option V), (∀ x, some x ∈ m → Good H x) → ∃ ds : List PyData, (∀ (K : PySem.W.Frag) (H' : Hp) (cv : List V), TK H H' → Paired (One H') cv m → DpAll K H' cv ds) ∧ (∀ d ∈ ds, Sm 5 60 d) ∧ ds.length = m.length
  | [], _ => ⟨[], fun K H' cv g P => by cases P; exact .nil, fun d h => absurd h (by simp), rfl⟩
  | o :: m, h => by
    obtain ⟨ds, h1, h2, h3⟩ := opt_data m fun x hx => h x (List.mem_cons_of_mem _ hx)
    cases o with
    | none =>
      refine ⟨.none :: ds, fun K H' cv g P => ?_, fun d hd => ?_, by simp [h3]⟩
      · cases P with
        | cons a r => rw [show _ = V.non from a]; exact .cons .non (h1 K H' _ g r)
      · rcases List.mem_cons.mp hd with e | e
        · rw [e]; exact Sm.non.mono (by decide) (by decide)
        · exact h2 d e
    | some v =>
      obtain ⟨dv, vv, ov⟩ := h v List.mem_cons_self
      refine ⟨.tuple [dv] :: ds, fun K H' cv g P => ?_, fun d hd => ?_, by simp [h3]⟩
      · cases P with
        | cons a r => obtain ⟨q, rfl, hq⟩ := a; exact .cons (word_dp vv g hq) (h1 K H' _ g r)
      · rcases List.mem_cons.mp hd with e | e
        · rw [e]; exact word_data ov
        · exact h2 d e
/-! ### shown texts -/
theorem str_ext {a b : Str} (h : a.cps.toList = b.cps.toList) : a = b := by
  cases a; cases b; congr 1; exact Array.ext' h
theorem cpl (a b : Str) : (a ++ b).cps.toList = a.cps.toList ++ b.cps.toList := by rw [Str.cps_append]; simp
theorem textFrom_app : ∀ (as bs : List Str) (k : Nat) (acc : Str), textFrom k acc (as ++ bs) = textFrom (k + as.length) (textFrom k acc as) bs
  | [], bs, k, acc => rfl
  | a :: as, bs, k, acc => by
    show textFrom (k + 1) _ (as ++ bs) = _
    rw [textFrom_app as bs, List.length_cons, show k + 1 + as.length = k + (as.length + 1) by omega]
    rfl
def digit (p : Nat) : Nat := 48 + p
theorem int_text : ∀ p : Nat, p < 5 → (toString (p : Int) : Str).cps.toList = [digit p] := by decide +kernel
theorem pair_text {p : Nat} (hp : p < 5) (c : PyData) : ∃ r, (PyData.shown (.tuple [.int (p : Nat), c])).cps.toList = 40 :: digit p :: r := by
  refine ⟨?r, ?_⟩
  rotate_left
  · simp only [PyData.shown, PyData.shownAll, tupleText, Str.join, List.length_cons, List.length_nil]
    rw [cpl, cpl, cpl, cpl, int_text p hp]
    show [40] ++ ([digit p] ++ _ ++ _) ++ _ = _
    simp only [List.cons_append, List.nil_append, List.append_assoc]
    rfl
theorem shown_list (xs : List PyData) : PyData.shown (.list xs) = listText (PyData.shownAll xs) := by rw [PyData.shown]
theorem shownAll_app : ∀ xs ys : List PyData, PyData.shownAll (xs ++ ys) = PyData.shownAll xs ++ PyData.shownAll ys
  | [], ys => by simp [PyData.shownAll]
  | x :: xs, ys => by simp [PyData.shownAll, shownAll_app xs ys]
theorem textFrom2 (k : Nat) (acc a b : Str) : ∃ z, (textFrom k acc [a, b]).cps.toList = acc.cps.toList ++ (if k > 0 then [44, 32] else []) ++ a.cps.toList ++ z := by
  refine ⟨?z, ?_⟩
  rotate_left
  · show ((acc ++ _ ++ a) ++ _ ++ b).cps.toList = _
    rw [cpl, cpl, cpl, cpl]
    have : ((if k > 0 then ", " else "" : String) : Str).cps.toList = (if k > 0 then [44, 32] else []) := by split <;> decide +kernel
    rw [this, List.append_assoc]
/-- two lists of pairs that begin alike, and go on by other players -/
theorem shown_other {xs : List PyData} {p q : Nat} {c d : PyData} (hp : p < 5) (hq : q < 5) (h : p ≠ q) :
    PyData.shown (.list (xs ++ [.tuple [.int (p : Nat), c], .tuple [.int (q : Nat), d]])) ≠ PyData.shown (.list (xs ++ [.tuple [.int (q : Nat), d], .tuple [.int (p : Nat), c]])) := by
  intro e
  rw [shown_list, shown_list, shownAll_app, shownAll_app] at e
  unfold listText at e
  rw [textFrom_app, textFrom_app] at e
  have e2 := congrArg (fun z : Str => z.cps.toList) e
  simp only [cpl] at e2
  obtain ⟨z1, h1⟩ := textFrom2 (0 + (PyData.shownAll xs).length) (textFrom 0 "[" (PyData.shownAll xs)) (PyData.shown (.tuple [.int (p : Nat), c])) (PyData.shown (.tuple [.int (q : Nat), d]))
  obtain ⟨z2, h2⟩ := textFrom2 (0 + (PyData.shownAll xs).length) (textFrom 0 "[" (PyData.shownAll xs)) (PyData.shown (.tuple [.int (q : Nat), d])) (PyData.shown (.tuple [.int (p : Nat), c]))
  obtain ⟨r1, g1⟩ := pair_text hp c
  obtain ⟨r2, g2⟩ := pair_text hq d
  have s1 : PyData.shownAll [.tuple [.int (p : Nat), c], .tuple [.int (q : Nat), d]] = [PyData.shown (.tuple [.int (p : Nat), c]), PyData.shown (.tuple [.int (q : Nat), d])] := by simp [PyData.shownAll]
  have s2 : PyData.shownAll [.tuple [.int (q : Nat), d], .tuple [.int (p : Nat), c]] = [PyData.shown (.tuple [.int (q : Nat), d]), PyData.shown (.tuple [.int (p : Nat), c])] := by simp [PyData.shownAll]
  rw [s1, s2, h1, h2, g1, g2] at e2
  simp only [List.append_assoc] at e2
  have e3 := List.append_cancel_left (List.append_cancel_left e2)
  simp only [List.cons_append, List.cons.injEq, true_and] at e3
  have := e3.1
  unfold digit at this
  omega
theorem pr_imp' {α β : Type} {F G : α → β → Prop} : ∀ {l : List α} {m : List β}, Paired F l m → (∀ n ∈ l, ∀ y, F n y → G n y) → Paired G l m
  | _, _, .nil, _ => .nil
  | _, _, .cons a r, h => .cons (h _ List.mem_cons_self _ a) (pr_imp' r fun n hn => h n (List.mem_cons_of_mem _ hn))
def rListOf (K : PySem.W.Frag) : List V → Hp → VK → Prop := fun xs H Q => ∃ p ys, xs = [.ref p] ∧ (SqL K H p ys ∨ SqT K H p ys) ∧ ∀ l, H l = none → Q (.ref l) (upd H l (.lst ys))
theorem call_list_ofK {X : Cx} {K : PySem.W.Frag} (e : X.K = K := by rfl) : CallR X (.type "list") (rListOf K) := by subst e; exact call_list_of
/-! ### promises -/
def spCopy (C : Addr) : Sp := fun vs H Q _ => ∃ (d : Addr) (s : DS), vs = [.ref d] ∧ DoorAt C H d s ∧ ∀ e H', Same H H' → H e = none → DoorAt C H' e s → Q (.ref e) H'
def spDEq (C : Addr) : Sp := fun vs H Q _ => ∃ (d : Addr) (s : DS) (y : V), vs = [.ref d, y] ∧ DoorAt C H d s ∧ s.DOk ∧
  ((∃ e t, y = .ref e ∧ DoorAt C H e t ∧ t.DOk ∧ t.lev.length = s.lev.length ∧ ∀ b, (t.deeds = s.deeds → b = true) → (s.deeds.map Deed.p ≠ t.deeds.map Deed.p → b = false) → Q (.bl b) H) ∨ (∃ o kvs, y = .ref o ∧ H o = some (.dK kvs) ∧ Q (.bl false) H))
def spONext : Sp := fun vs H Q _ => ∃ (o : Addr) (L : List Addr) (p : Nat) (s : DS) (k : Int), vs = [.ref o, .int p] ∧ OwnAt H o L s k ∧ s.WF ∧ p < s.lev.length ∧ ∀ H', Same H H' → Q (optS (s.next p)) H'
def spOCopy : Sp := fun vs H Q _ => ∃ (o : Addr) (L : List Addr) (s : DS) (k : Int), vs = [.ref o] ∧ OwnAt H o L s k ∧ ∀ o' L' H', Same H H' → (∀ x ∈ L', H x = none) → OwnAt H' o' L' s k → Q (.ref o') H'
def spIsDoor (C : Addr) : Sp := fun vs H Q _ => ∃ (d o : Addr) (L : List Addr) (s : DS), vs = [.ref d, .ref o] ∧ DoorAt C H d s ∧ OwnAt H o L s (s.stps : Nat) ∧ s.DOk ∧ s.deeds.length < 100000 ∧ ∀ H', Same H H' → Q (.bl true) H'
/-! ### what was done -/
abbrev Done := Nat × Option V
def DoneAt (H : Hp) (x : V) (e : Done) : Prop := ∃ t c, x = .ref t ∧ H t = some (.tup [.int (e.1 : Nat), c]) ∧ e.1 < 5 ∧ match e.2 with
  | none => c = .non
  | some v => ∃ q, c = .ref q ∧ H q = some (.tup [v]) ∧ Good H v
theorem DoneAt.mono {H H' : Hp} (g : TK H H') {x : V} {e : Done} (h : DoneAt H x e) : DoneAt H' x e := by
  obtain ⟨p, o⟩ := e
  obtain ⟨t, c, h1, h2, h3, h4⟩ := h
  refine ⟨t, c, h1, g.t h2, h3, ?_⟩
  cases o with
  | none => exact h4
  | some v => obtain ⟨q, a, b, d⟩ := h4; exact ⟨q, a, g.t b, d.mono g⟩
def DS.does (s : DS) (e : Done) : DS := match e.2 with
  | none => s.step e.1
  | some v => s.come e.1 v
def DS.let_ (s : DS) (e : Done) : Prop := match e.2 with
  | none => s.cm e.1 ≠ none
  | some _ => s.cm e.1 = none ∧ e.1 < s.lev.length
def DS.run (s : DS) (l : List Done) : DS := l.foldl DS.does s
inductive Leg : DS → List Done → Prop
  | nil {s} : Leg s []
  | cons {s e l} : s.let_ e → Leg (s.does e) l → Leg s (e :: l)
section
variable {s : DS} {e f : Done} {l m : List Done}
theorem Leg.snoc : ∀ {l : List Done} {s : DS}, Leg s l → (s.run l).let_ e → Leg s (l ++ [e])
  | [], _, _, h => .cons h .nil
  | _ :: _, _, .cons a r, h => .cons a (Leg.snoc r h)
theorem Leg.take : ∀ {l m : List Done} {s : DS}, Leg s (l ++ m) → Leg s l ∧ Leg (s.run l) m
  | [], _, _, h => ⟨.nil, h⟩
  | _ :: _, _, _, .cons a r => ⟨.cons a (Leg.take r).1, (Leg.take r).2⟩
theorem Leg.app : ∀ {l m : List Done} {s : DS}, Leg s l → Leg (s.run l) m → Leg s (l ++ m)
  | [], _, _, _, h => h
  | _ :: _, _, _, .cons a r, h => .cons a (Leg.app r h)
theorem run_app : s.run (l ++ m) = (s.run l).run m := List.foldl_append
theorem len_does : (s.does e).lev.length = s.lev.length := by
  obtain ⟨p, o⟩ := e
  cases o with
  | none => exact DS.len_step
  | some v => rfl
theorem len_run : ∀ {l : List Done} {s : DS}, (s.run l).lev.length = s.lev.length
  | [], _ => rfl
  | e :: l, s => (len_run (l := l) (s := s.does e)).trans len_does
theorem WF_does (W : s.WF) (h : s.let_ e) : (s.does e).WF := by
  obtain ⟨p, o⟩ := e
  cases o with
  | none => exact W.step h
  | some v => exact W.come
theorem DOk_does (D : s.DOk) (W : s.WF) (h : s.let_ e) : (s.does e).DOk := by
  obtain ⟨p, o⟩ := e
  cases o with
  | none => exact D.step W h
  | some v => exact D.come W h.2 h.1
theorem both_run : ∀ {l : List Done} {s : DS}, Leg s l → s.WF → s.DOk → (s.run l).WF ∧ (s.run l).DOk
  | [], _, _, W, D => ⟨W, D⟩
  | _ :: _, _, .cons a r, W, D => by
    have h := both_run r (WF_does W a) (DOk_does D W a)
    exact h
theorem ps_does : (s.does e).deeds.map Deed.p = s.deeds.map Deed.p ++ [e.1] := by
  obtain ⟨p, o⟩ := e
  cases o with
  | none => show (s.step p).deeds.map Deed.p = _; rw [DS.step_deeds, List.map_append]; rfl
  | some v => show (s.come p v).deeds.map Deed.p = _; rw [show (s.come p v).deeds = s.deeds ++ [⟨false, p, v⟩] from rfl, List.map_append]; rfl
theorem ps_run : ∀ {l : List Done} {s : DS}, (s.run l).deeds.map Deed.p = s.deeds.map Deed.p ++ l.map Prod.fst
  | [], s => by simp [DS.run]
  | e :: l, s => by
    show ((s.does e).run l).deeds.map Deed.p = _
    rw [ps_run, ps_does]; simp
theorem cm_does (W : s.WF) (h : s.let_ e) (q : Nat) (hq : q ≠ e.1) : (s.does e).cm q = s.cm q := by
  obtain ⟨p, o⟩ := e
  cases o with
  | none => exact DS.cm_step q
  | some v =>
    show (s.come p v).cm q = _
    rw [DS.cm_come, if_neg]
    rintro ⟨z, _⟩; exact hq z.symm
theorem let_swap (W : s.WF) (he : s.let_ e) (hf : (s.does e).let_ f) (n : f.1 ≠ e.1) : s.let_ f ∧ (s.does f).let_ e := by
  have a : s.let_ f := by
    obtain ⟨q, o⟩ := f
    cases o with
    | none => show s.cm q ≠ none; rw [← cm_does W he q n]; exact hf
    | some v => exact ⟨by rw [← cm_does W he q n]; exact hf.1, by rw [← len_does (s := s) (e := e)]; exact hf.2⟩
  refine ⟨a, ?_⟩
  obtain ⟨p, o⟩ := e
  cases o with
  | none => show (s.does f).cm p ≠ none; rw [cm_does W a p (Ne.symm n)]; exact he
  | some v => exact ⟨by rw [cm_does W a p (Ne.symm n)]; exact he.1, by rw [len_does]; exact he.2⟩
theorem len_deeds_run : (s.run l).deeds.length = s.deeds.length + l.length := by
  have := congrArg List.length (ps_run (l := l) (s := s))
  simpa using this
end
def spAgain (C : Addr) (K : PySem.W.Frag) : Sp := fun vs H Q _ => ∃ (n : Nat) (dl : Addr) (xs : List V) (l : List Done), vs = [.int n, .ref dl] ∧ 1 ≤ n ∧ n ≤ 5 ∧ H dl = some (.lst xs) ∧ Paired (DoneAt H) xs l ∧ Leg (DS.new n) l ∧ l.length < 1000 ∧
  ∀ d H', Same H H' → H d = none → DoorAt C H' d ((DS.new n).run l) → Q (.ref d) H'
def spLDeed (C : Addr) : Sp := fun vs H Q _ => ∃ (pt d o dl : Addr) (L : List Addr) (s : DS) (m : Nat) (xs : List V), vs = [.ref pt, .ref d, .ref o, .ref dl] ∧ PotAt H pt m ∧ m < 800000 ∧ DoorAt C H d s ∧ OwnAt H o L s (s.stps : Nat) ∧ H dl = some (.lst xs) ∧ xs.length < 1000 ∧ s.deeds.length < 1000 ∧
  pt ∉ L ∧ pt ≠ d ∧ pt ≠ dl ∧ dl ∉ L ∧ dl ≠ d ∧ d ∉ L ∧
  ∀ (e : Done) (x : V) H', But (pt :: d :: dl :: L) H H' → PotAt H' pt (m + 100) → s.let_ e → DoorAt C H' d (s.does e) → OwnAt H' o L (s.does e) ((s.does e).stps : Nat) → H' dl = some (.lst (xs ++ [x])) → DoneAt H' x e → Q (.bl true) H'
theorem stps_step {s : DS} {p : Nat} : (s.step p).stps = s.stps + 1 := by
  unfold DS.stps
  rw [DS.step_deeds, List.filter_append, List.length_append]; rfl
theorem stps_come {s : DS} {p : Nat} {v : V} : (s.come p v).stps = s.stps := by
  unfold DS.stps
  rw [show (s.come p v).deeds = s.deeds ++ [⟨false, p, v⟩] from rfl, List.filter_append, List.length_append]; rfl
end Fp
/-! A stair of levels in the heap; promises -/
namespace Fp
open PySem PySem.Spec PyProof.Rows L2
def lfl (n : Int) (a b r e : Addr) : List (Str × V) := [("many", .int n), ("levels", .ref a), ("views", .ref b), ("run", .ref r), ("looking", .ref e)]
structure LC (K : PySem.W.Frag) (C : Addr) : Prop where
  cl : Cls K C
  nM : NoAttr K C "many"
  nL : NoAttr K C "levels"
  nV : NoAttr K C "views"
  nR : NoAttr K C "run"
  nK : NoAttr K C "looking"
section
variable {n : Int} {a b r e a' b' r' e' : Addr}
theorem l_many : (lfl n a b r e).lookup ("many" : Str) = some (.int n) := by kernel_rfl
theorem l_lev : (lfl n a b r e).lookup ("levels" : Str) = some (.ref a) := by kernel_rfl
theorem l_vw : (lfl n a b r e).lookup ("views" : Str) = some (.ref b) := by kernel_rfl
theorem l_run : (lfl n a b r e).lookup ("run" : Str) = some (.ref r) := by kernel_rfl
theorem l_lk : (lfl n a b r e).lookup ("looking" : Str) = some (.ref e) := by kernel_rfl
theorem lp_lev : putF "levels" (.ref a') (lfl n a b r e) = lfl n a' b r e := by kernel_rfl
theorem lp_vw : putF "views" (.ref b') (lfl n a b r e) = lfl n a b' r e := by kernel_rfl
theorem lp_run : putF "run" (.ref r') (lfl n a b r e) = lfl n a b r' e := by kernel_rfl
theorem lp_lk : putF "looking" (.ref e') (lfl n a b r e) = lfl n a b r e' := by kernel_rfl
theorem l_all : putF "looking" (.ref e) (putF "run" (.ref r) (putF "views" (.ref b) (putF "levels" (.ref a) (putF "many" (.int n) [])))) = lfl n a b r e := by kernel_rfl
theorem l_copy : putF "looking" (.ref e) (putF "run" (.ref r) (putF "views" (.ref b) (putF "levels" (.ref a) (lfl n a' b' r' e')))) = lfl n a b r e := by kernel_rfl
theorem ln_next : (lfl n a b r e).lookup ("next" : Str) = none := by kernel_rfl
theorem ln_step : (lfl n a b r e).lookup ("step" : Str) = none := by kernel_rfl
theorem ln_view : (lfl n a b r e).lookup ("view_from" : Str) = none := by kernel_rfl
theorem ln_copy : (lfl n a b r e).lookup ("copy" : Str) = none := by kernel_rfl
theorem ln_weave : (lfl n a b r e).lookup ("weave" : Str) = none := by kernel_rfl
end
def ViewAt (H : Hp) (x : V) : Option (List Nat) → Prop
  | none => x = .non
  | some l => ∃ p, x = .ref p ∧ TT H p (natV l)
theorem ViewAt.mono {H H' : Hp} (g : TK H H') {x : V} {o : Option (List Nat)} (h : ViewAt H x o) : ViewAt H' x o := by
  cases o with
  | none => exact h
  | some v => obtain ⟨p, e, q⟩ := h; exact ⟨p, e, g.tt q⟩
theorem ViewAt.is {H : Hp} {x : V} {o : Option (List Nat)} (h : ViewAt H x o) : decide (x = .non) = o.isNone := by
  cases o with
  | none => rw [show x = .non from h]; rfl
  | some v => obtain ⟨p, e, _⟩ := h; rw [e]; rfl
structure LvIn (K : PySem.W.Frag) (C : Addr) (H : Hp) (d : Addr) (s : LS) (dx a b r e : Addr) (vv rv : List V) : Prop where
  obj : H d = some (.ins C dx (lfl (s.n : Nat) a b r e))
  own : H dx = some (.own d)
  lev : TF H a (s.lev.map lvV)
  vw : TF H b vv
  vwP : Paired (ViewAt H) vv s.vw
  run : H r = some (.tup rv)
  runP : Paired (SD K H) rv s.run
  lk : TF H e (s.lk.map V.bl)
def LvAt (K : PySem.W.Frag) (C : Addr) (H : Hp) (d : Addr) (s : LS) : Prop := ∃ dx a b r e vv rv, LvIn K C H d s dx a b r e vv rv
section
variable {K : PySem.W.Frag} {C : Addr} {H H' : Hp} {d dx a b r e : Addr} {s : LS} {vv rv : List V} {S : List Addr}
theorem LvIn.mono (h : LvIn K C H d s dx a b r e vv rv) (g : TK H H') (g1 : ∀ o, H d = some o → H' d = some o) (g2 : H' dx = H dx) : LvIn K C H' d s dx a b r e vv rv :=
  ⟨g1 _ h.obj, by rw [g2]; exact h.own, g.f h.lev, g.f h.vw, pr_imp (fun _ _ => ViewAt.mono g) h.vwP, g.t h.run, SDs.mono h.runP g, g.f h.lk⟩
theorem LvIn.same (h : LvIn K C H d s dx a b r e vv rv) (g : Same H H') : LvIn K C H' d s dx a b r e vv rv := h.mono (.of g) (fun o q => g _ _ q) (by rw [g _ _ h.own]; exact h.own.symm)
theorem LvAt.same (h : LvAt K C H d s) (g : Same H H') : LvAt K C H' d s := by
  obtain ⟨dx, a, b, r, e, vv, rv, h⟩ := h
  exact ⟨dx, a, b, r, e, vv, rv, h.same g⟩
theorem LvAt.off (h : LvAt K C H d s) (g : But S H H') (tk : TK H H') (n : ∀ x ∈ S, x ≠ d ∧ H x ≠ some (.own d)) : LvAt K C H' d s := by
  obtain ⟨dx, a, b, r, e, vv, rv, h⟩ := h
  have nd : d ∉ S := fun m => (n d m).1 rfl
  have nx : dx ∉ S := fun m => (n dx m).2 h.own
  exact ⟨dx, a, b, r, e, vv, rv, h.mono tk (fun o q => g _ _ nd q) (by rw [g _ _ nx h.own]; exact h.own.symm)⟩
theorem LvAt.ob (h : LvAt K C H d s) : ∃ dx fs, H d = some (.ins C dx fs) ∧ fs.lookup ("next" : Str) = none ∧ fs.lookup ("step" : Str) = none ∧ fs.lookup ("copy" : Str) = none ∧ fs.lookup ("view_from" : Str) = none ∧ fs.lookup ("weave" : Str) = none := by
  obtain ⟨dx, a, b, r, e, vv, rv, h⟩ := h
  exact ⟨_, _, h.obj, ln_next, ln_step, ln_copy, ln_view, ln_weave⟩
theorem LvAt.tk (h : LvAt K C H d s) (g : But [d] H H') : TK H H' := TK.but g fun a ha z => by
  obtain ⟨dx, fs, e, _⟩ := h.ob
  rw [List.mem_singleton.mp ha, e] at z
  exact z
end
def DueAt (H : Hp) (y : V) : Option Due → Prop
  | none => y = .non
  | some (.wr l) => ∃ t, y = .ref t ∧ H t = some (.tup [.str "write", .int l])
  | some .look => ∃ t, y = .ref t ∧ H t = some (.tup [.str "look"])
def spChkMany : Sp := fun vs H Q _ => ∃ n : Nat, vs = [.int n] ∧ 1 ≤ n ∧ n ≤ 5 ∧ Q .non H
def spLInit (K : PySem.W.Frag) (C : Addr) : Sp := fun vs H Q _ => ∃ (d dx : Addr) (n : Nat), vs = [.ref d, .int n] ∧ 1 ≤ n ∧ n ≤ 5 ∧ H d = some (.ins C dx []) ∧ H dx = some (.own d) ∧ ∀ H', But [d] H H' → LvAt K C H' d (LS.new n) → Q .non H'
def spLNext (K : PySem.W.Frag) (C : Addr) : Sp := fun vs H Q _ => ∃ (d : Addr) (p : Nat) (s : LS), vs = [.ref d, .int p] ∧ LvAt K C H d s ∧ s.WF ∧ p < s.n ∧ ∀ y H', Same H H' → DueAt H' y (s.next p) → Q y H'
def spLView (K : PySem.W.Frag) (C : Addr) : Sp := fun vs H Q _ => ∃ (d : Addr) (p : Nat) (s : LS), vs = [.ref d, .int p] ∧ LvAt K C H d s ∧ s.WF ∧ p < s.n ∧ s.lv p ≠ none ∧ ∀ y H', Same H H' → ViewAt H' y (s.seen p) → Q y H'
def spLStep (K : PySem.W.Frag) (C : Addr) : Sp := fun vs H Q _ => ∃ (d : Addr) (p : Nat) (s : LS), vs = [.ref d, .int p] ∧ LvAt K C H d s ∧ s.WF ∧ p < s.n ∧ s.next p ≠ none ∧ s.run.length < 100000 ∧
  ∀ y dd H', But [d] H H' → LvAt K C H' d (s.step p) → (s.step p).run = s.run ++ [dd] → SD K H' y dd → Q y H'
def spLCopy (K : PySem.W.Frag) (C : Addr) : Sp := fun vs H Q _ => ∃ (d : Addr) (s : LS), vs = [.ref d] ∧ LvAt K C H d s ∧ s.WF ∧ ∀ e H', Same H H' → H e = none → LvAt K C H' e s → Q (.ref e) H'
/-! ### data -/
theorem sm_write {p : Nat} {l : Int} (hp : p < 5) (h1 : 1 ≤ l) (h5 : l ≤ 5) : Sm 4 60 (.tuple [.int (p : Nat), .str "write", .int l]) :=
  (Sms.tup (.cons (Sm.int (i := (p : Nat)) (by omega) (by omega)) (.cons ((sm_word "write" (by decide +kernel)).mono (Nat.le_refl 1) (Nat.le_refl 10)) (.cons (Sm.int (i := l) (by omega) (by omega)) (Sms.nil (n := 0)))))).mono (by decide) (by decide)
theorem sm_look {p : Nat} {l : List Lv} (hp : p < 5) (hl : l.length ≤ 5) (h : ∀ x, some x ∈ l → 1 ≤ x ∧ x ≤ 5) : Sm 4 60 (.tuple [.int (p : Nat), .str "look", .tuple (l.map lvD)]) := by
  have sl : Sms 1 5 (l.map lvD) := by
    refine (Sms.all (k := 1) (n := 0) fun d hd => ?_).mono (Nat.le_refl _) (by rw [List.length_map]; omega)
    obtain ⟨x, hx, rfl⟩ := List.mem_map.mp hd
    cases x with
    | none => exact Sm.non
    | some i => have := h i hx; exact Sm.int (by omega) (by omega)
  exact (Sms.tup (.cons ((Sm.int (i := (p : Nat)) (by omega) (by omega)).mono (by decide : 1 ≤ 2) (Nat.le_refl 0)) (.cons ((sm_word "look" (by decide +kernel)).mono (by decide : 1 ≤ 2) (Nat.le_refl 10)) (.cons sl.tup (Sms.nil (n := 0)))))).mono (by decide) (by decide)
def LS.ROk (s : LS) : Prop := ∀ d ∈ s.run, Sm 4 60 d
theorem LS.ROk.new (n : Nat) : (LS.new n).ROk := fun d h => absurd h (by simp [LS.new])
theorem LS.WF.levs {s : LS} (W : s.WF) : s.lev.length ≤ 5 ∧ ∀ x, some x ∈ s.lev → 1 ≤ x ∧ x ≤ 5 := ⟨W.n5, fun x hx => by
  obtain ⟨q, hq⟩ := mem_getD.mp hx
  have := W.rng q x hq
  have := W.n5
  omega⟩
theorem LS.step_run {s : LS} {p : Nat} (W : s.WF) (hp : p < s.n) (h : s.next p ≠ none) : ∃ dd, (s.step p).run = s.run ++ [dd] ∧ Sm 4 60 dd := by
  have n5 := W.n5
  have Ws := W.step hp
  unfold LS.step at Ws ⊢
  cases e : s.next p with
  | none => exact absurd e h
  | some du =>
    rw [e] at Ws
    cases du with
    | wr l =>
      have := Ws.rng p l (by show (s.wrote p l).lv p = some l; rw [LS.lv_wrote hp, if_pos rfl])
      rw [show LS.n (match some (Due.wr l) with | none => s | some (.wr l) => s.wrote p l | some .look => s.looked p) = s.n from LS.n_wrote] at this
      exact ⟨_, rfl, sm_write (by omega) this.1 (by omega)⟩
    | look => exact ⟨_, rfl, sm_look (by omega) W.levs.1 W.levs.2⟩
theorem LS.ROk.step {s : LS} {p : Nat} (R : s.ROk) (W : s.WF) (hp : p < s.n) (h : s.next p ≠ none) : (s.step p).ROk := by
  obtain ⟨dd, e, sm⟩ := LS.step_run W hp h
  intro d hd
  rw [e] at hd
  rcases List.mem_append.mp hd with z | z
  · exact R d z
  · rw [List.mem_singleton.mp z]; exact sm
/-- views as data -/
def vwD : Option (List Nat) → PyData
  | none => .none
  | some l => .tuple (l.map fun (p : Nat) => PyData.int (p : Int))
theorem vw_dp {K : PySem.W.Frag} {H : Hp} : ∀ {vv : List V} {m : List (Option (List Nat))}, Paired (ViewAt H) vv m → DpAll K H vv (m.map vwD)
  | _, _, .nil => .nil
  | _, _, .cons (b := o) a r => by
    cases o with
    | none => rw [show _ = V.non from a]; exact .cons .non (vw_dp r)
    | some l => obtain ⟨p, rfl, q⟩ := a; exact .cons (.tup q.sq (natV_dp l)) (vw_dp r)
theorem vw_sm {s : LS} (W : s.WF) : ∀ d ∈ s.vw.map vwD, Sm 2 5 d := by
  intro d hd
  obtain ⟨o, ho, rfl⟩ := List.mem_map.mp hd
  have n5 := W.n5
  cases o with
  | none => exact Sm.non.mono (by decide) (by decide)
  | some v =>
    obtain ⟨q, hq⟩ := mem_getD.mp ho
    obtain ⟨l, h1, h2, h3⟩ := W.vil q v hq
    have := W.rng q _ h1
    rw [h2]
    refine natV_sm (fun p hp => ?_) (by omega)
    have := (LS.mem_below.mp hp).1
    omega
end Fp
/-! o.m(k = v, ..); players by other numbers -/
namespace Fp
open PySem PySem.Spec PyProof.Rows L2
/-! ### methods called by keywords alone -/
def tMethKW (C : Addr) (m : Str) (n : Nat) (sp : Sp) (gV : List V → List V → List V) (E : XK) (ta : TE) (tk : TA) : TE := fun σ H Q => ta σ H fun x H1 => ∃ a dx fs, x = .ref a ∧ H1 a = some (.ins C dx fs) ∧ fs.lookup m = none ∧ tk σ H1 fun zs H2 => zs.length = n ∧ sp (gV [.ref a] zs) H2 Q E
structure MdK (P : Program) (w : World) (K : PySem.W.Frag) (mg : Str → Option Value) (base : Heap) (CX : CXT) (C : Addr) (m : Str) (k : Nat) (ps ks : List Str) (g : List Value → List Value → List Value) (gV : List V → List V → List V) (sp : Sp) : Prop where
  ex : ∃ (f : Addr) (fd : FuncData), Meth K C m f ∧ KBn K fd ps 1 ks g gV ∧ FnOk P w K mg base CX k f fd ps sp
section
variable {X : Cx} {k : Nat} {C : Addr} {ps ks : List Str} {sp : Sp} {m : Str} {pos apos : Pos} {o : Expr} {kws : List Keyword} {ta : TE} {tk : TA} {g : List Value → List Value → List Value} {gV : List V → List V → List V}
theorem pe_mdK {pl : Sem Bool} (he : PE X o ta) (c : Cls X.K C) (M : MdK X.prog X.w X.K X.mg X.base CX0 C m k ps ks g gV sp) (hr : Room k X.A) (hkw : PK X kws tk)
    (hall : (backToKw pos (keywordEach kws X.env)).all (·.1.isSome) = true := by rfl) (hks : (backToKw pos (keywordEach kws X.env)).filterMap (·.1) = ks := by rfl)
    (hpl : ((backTo pos (starEach [] X.env)).any (·.1) || (backToKw pos (keywordEach kws X.env)).any (·.1.isNone)) = false := by rfl)
    (ht : eval (.Call (.Attribute o m apos) [] kws pos) X.env = (do
      let ov ← eval o X.env
      standAt apos.atName
      let (f, first) ← holding [ov] (getMethod ov m pl)
      callWith pos f first (backTo pos (starEach [] X.env)) (backToKw pos (keywordEach kws X.env))) := by rfl) :
    PE X (.Call (.Attribute o m apos) [] kws pos) (tMethKW C m ks.length sp gV E0 ta tk) := by
  obtain ⟨f, fd, hm, hb, F⟩ := M.ex
  refine ⟨fun pins s σ H Q I h => ?_⟩
  refine PySem.W.methodCall_KW (pl := pl) (thn (he.run pins s σ H _ I h) fun u s1 ⟨x, H1, I1, rx, a, dx, fs, ex, ea, l, q⟩ => ?_) ht
  subst ex
  obtain rfl : u = Value.ref a := rx
  refine getmeth_ok I1 ea c hm l ?_
  refine PySem.W.callWith_KW0 (first := [.ref a]) (h₀ := X.base) I.ok.mod.kin hm.kp hall ?_ hpl
  refine thn (hkw.run pos pins s1 σ H1 _ I1 q) fun ws s2 ⟨zs, H2, I2, rz, l2, q2⟩ => ⟨I2.kIn, ?_⟩
  rw [hks]
  have r1 : Vals [V.ref a] [Value.ref a] := .cons rfl .nil
  have r2 := hb.rel r1 rz
  refine wpAny_call (codeAny_mono (F.run X.A X.stack s2 H2 ⟨[.ref a], ks.zip ws⟩ (g [.ref a] ws) (gV [.ref a] zs) Q E0 hr I2.env0 (hb.to s2 [.ref a] ws I2.kIn rfl (rz.length.symm.trans l2)) r2 q2) fun r s' hq => ?_)
  cases r with
  | error e => exact pass0 pins σ H2 s2 e s' I2 hq
  | ok fl =>
    cases fl with
    | ret u => exact I2.after hq
    | next => exact False.elim hq
    | brk => exact False.elim hq
    | cont => exact False.elim hq
end
/-! ### rows by other numbers -/
structure Nu (nu : List Nat) : Prop where
  lt : ∀ q ∈ nu, q < 5
  up : nu.Pairwise (· < ·)
def ledF {β : Type} : List β → List Nat → List β → List β
  | x :: xs, q :: nu, acc => ledF xs nu (acc.set q x)
  | _, _, acc => acc
def ledL {α : Type} (nu : List Nat) (xs : List (Option α)) : List (Option α) := ledF xs nu (List.replicate 5 none)
theorem led_snoc {β : Type} {x : β} {q : Nat} : ∀ {xs : List β} {nu : List Nat} {acc : List β}, nu[xs.length]? = some q → ledF (xs ++ [x]) nu acc = (ledF xs nu acc).set q x
  | [], [], acc, h => by cases h
  | [], r :: nu, acc, h => by cases h; cases nu <;> rfl
  | y :: ys, [], acc, h => by cases h
  | y :: ys, r :: nu, acc, h => by
    show ledF (ys ++ [x]) nu (acc.set r y) = (ledF ys nu (acc.set r y)).set q x
    exact led_snoc (by simpa using h)
theorem led_len {β : Type} : ∀ (xs : List β) (nu : List Nat) (acc : List β), (ledF xs nu acc).length = acc.length
  | [], nu, acc => by cases nu <;> rfl
  | x :: xs, [], acc => rfl
  | x :: xs, q :: nu, acc => by show (ledF xs nu _).length = _; rw [led_len xs nu]; simp
theorem led_map {β γ : Type} (f : β → γ) : ∀ (xs : List β) (nu : List Nat) (acc : List β), (ledF xs nu acc).map f = ledF (xs.map f) nu (acc.map f)
  | [], nu, acc => by cases nu <;> rfl
  | x :: xs, [], acc => rfl
  | x :: xs, q :: nu, acc => by
    show (ledF xs nu _).map f = ledF (xs.map f) nu ((acc.map f).set q (f x))
    rw [led_map f xs nu, List.map_set]
theorem led_pair {β γ : Type} {F : β → γ → Prop} : ∀ {xs : List β} {ys : List γ} {nu : List Nat} {acc : List β} {bcc : List γ}, Paired F xs ys → Paired F acc bcc → Paired F (ledF xs nu acc) (ledF ys nu bcc)
  | _, _, nu, _, _, .nil, h => by cases nu <;> exact h
  | _, _, [], _, _, .cons _ _, h => h
  | _, _, q :: nu, _, _, .cons a r, h => led_pair (nu := nu) r (pr_set a q h)
theorem ledL_len {α : Type} {nu : List Nat} {xs : List (Option α)} : (ledL nu xs).length = 5 := by unfold ledL; rw [led_len]; simp
section
variable {nu : List Nat}
theorem Nu.inj (N : Nu nu) {p p' q : Nat} (h : nu[p]? = some q) (h' : nu[p']? = some q) : p = p' := by
  have a := List.getElem?_eq_some_iff.mp h
  have b := List.getElem?_eq_some_iff.mp h'
  obtain ⟨a1, a2⟩ := a
  obtain ⟨b1, b2⟩ := b
  have up := List.pairwise_iff_getElem.mp N.up
  rcases Nat.lt_trichotomy p p' with h | h | h
  · have := up p p' a1 b1 h; omega
  · exact h
  · have := up p' p b1 a1 h; omega
theorem Nu.mono (N : Nu nu) {p p' q q' : Nat} (h : nu[p]? = some q) (h' : nu[p']? = some q') : p < p' ↔ q < q' := by
  obtain ⟨a1, a2⟩ := List.getElem?_eq_some_iff.mp h
  obtain ⟨b1, b2⟩ := List.getElem?_eq_some_iff.mp h'
  have up := List.pairwise_iff_getElem.mp N.up
  constructor
  · intro z; have := up p p' a1 b1 z; omega
  · intro z
    rcases Nat.lt_trichotomy p p' with h | h | h
    · exact h
    · subst h; omega
    · have := up p' p b1 a1 h; omega
theorem Nu.five (N : Nu nu) {p q : Nat} (h : nu[p]? = some q) : q < 5 := N.lt q (List.mem_of_getElem? h)
theorem led_at {α : Type} (N : Nu nu) {xs : List (Option α)} (hl : xs.length = nu.length) : ∀ i, i ≤ xs.length → (∀ p q, p < i → nu[p]? = some q → (ledL nu (xs.take i)).getD q none = xs.getD p none) ∧ (∀ q, (∀ p, p < i → nu[p]? ≠ some q) → (ledL nu (xs.take i)).getD q none = none)
  | 0, _ => ⟨fun p q h => absurd h (by omega), fun q _ => by
    rw [List.take_zero]
    show (ledF [] nu (List.replicate 5 none)).getD q none = none
    have : ledF ([] : List (Option α)) nu (List.replicate 5 none) = List.replicate 5 none := by cases nu <;> rfl
    rw [this]; exact DS.rep_none 5 q⟩
  | i + 1, hi => by
    obtain ⟨h1, h2⟩ := led_at N hl i (by omega)
    have hx : xs[i]? = some xs[i] := List.getElem?_eq_getElem (by omega)
    obtain ⟨q0, hq0⟩ : ∃ q, nu[i]? = some q := ⟨nu[i], List.getElem?_eq_getElem (by omega)⟩
    have e : ledL nu (xs.take (i + 1)) = (ledL nu (xs.take i)).set q0 xs[i] := by
      rw [List.take_add_one, hx]
      exact led_snoc (by rw [List.length_take, Nat.min_eq_left (by omega)]; exact hq0)
    have q5 := N.five hq0
    rw [e]
    refine ⟨fun p q hp hq => ?_, fun q hq => ?_⟩
    · rw [getD_set, ledL_len]
      by_cases z : q0 = q
      · rw [if_pos ⟨z, q5⟩]
        subst z
        have := N.inj hq hq0
        subst this
        exact (getD_of hx).symm
      · rw [if_neg (fun w => z w.1)]
        refine h1 p q ?_ hq
        by_cases pi : p = i
        · subst pi; rw [hq0] at hq; exact absurd (Option.some.inj hq) z
        · omega
    · rw [getD_set, if_neg]
      · exact h2 q fun p hp => hq p (by omega)
      · rintro ⟨z, _⟩; exact hq i (by omega) (by rw [hq0, z])
theorem ledL_at {α : Type} (N : Nu nu) {xs : List (Option α)} (hl : xs.length = nu.length) {p q : Nat} (h : nu[p]? = some q) : (ledL nu xs).getD q none = xs.getD p none := by
  have := (led_at N hl xs.length (Nat.le_refl _)).1 p q (by rw [hl]; exact get_lt h) h
  rwa [List.take_length] at this
theorem ledL_off {α : Type} (N : Nu nu) {xs : List (Option α)} (hl : xs.length = nu.length) {q : Nat} (h : q ∉ nu) : (ledL nu xs).getD q none = none := by
  have := (led_at N hl xs.length (Nat.le_refl _)).2 q (fun p _ z => h (List.mem_of_getElem? z))
  rwa [List.take_length] at this
theorem mem_led {α : Type} (N : Nu nu) {xs : List (Option α)} (hl : xs.length = nu.length) (x : α) : some x ∈ ledL nu xs ↔ some x ∈ xs := by
  rw [mem_getD, mem_getD]
  constructor
  · rintro ⟨q, hq⟩
    by_cases z : q ∈ nu
    · obtain ⟨p, hp⟩ := List.getElem?_of_mem z
      exact ⟨p, by rw [← ledL_at N hl hp]; exact hq⟩
    · rw [ledL_off N hl z] at hq; cases hq
  · rintro ⟨p, hp⟩
    have hlt := (getD_none_of hp).1
    have : nu[p]? = some nu[p] := List.getElem?_eq_getElem (by omega)
    exact ⟨nu[p], by rw [ledL_at N hl this]; exact hp⟩
end
theorem ext_getD {α : Type} {l m : List (Option α)} (h : l.length = m.length) (e : ∀ q, l.getD q none = m.getD q none) : l = m := by
  refine List.ext_getElem? fun q => ?_
  by_cases hq : q < l.length
  · have := e q
    rw [getD_at hq, getD_at (by omega), this]
  · rw [List.getElem?_eq_none (by omega), List.getElem?_eq_none (by omega)]
theorem sorted_ext : ∀ {l m : List Nat}, l.Pairwise (· < ·) → m.Pairwise (· < ·) → (∀ x, x ∈ l ↔ x ∈ m) → l = m
  | [], [], _, _, _ => rfl
  | [], b :: m, _, _, h => absurd ((h b).mpr List.mem_cons_self) (by simp)
  | a :: l, [], _, _, h => absurd ((h a).mp List.mem_cons_self) (by simp)
  | a :: l, b :: m, hl, hm, h => by
    obtain ⟨a1, a2⟩ := List.pairwise_cons.mp hl
    obtain ⟨b1, b2⟩ := List.pairwise_cons.mp hm
    have eab : a = b := by
      rcases List.mem_cons.mp ((h a).mp List.mem_cons_self) with e | e
      · exact e
      · rcases List.mem_cons.mp ((h b).mpr List.mem_cons_self) with e' | e'
        · exact e'.symm
        · have := b1 a e; have := a1 b e'; omega
    subst eab
    congr 1
    refine sorted_ext a2 b2 fun x => ?_
    constructor
    · intro hx
      rcases List.mem_cons.mp ((h x).mp (List.mem_cons_of_mem _ hx)) with e | e
      · have := a1 x hx; omega
      · exact e
    · intro hx
      rcases List.mem_cons.mp ((h x).mpr (List.mem_cons_of_mem _ hx)) with e | e
      · have := b1 x hx; omega
      · exact e
/-! ### who can be told next -/
namespace DS
def cameL (s : DS) : List Nat := (List.range s.lev.length).filter fun p => (s.cm p).isSome
def readyL (s : DS) : List Nat := s.held.filter fun p => s.won p
def minN (a : Nat) (l : List Nat) : Nat := l.foldl min a
def wins (s : DS) : List Nat := if some 2 ∈ s.lev then [minN s.two s.readyL] else match s.readyL with
  | [] => s.cameL
  | r :: _ => (s.cameL.filter fun p => decide (p < r) && (s.sn p).isNone) ++ [r]
end DS
theorem minN_spec : ∀ (l : List Nat) (a : Nat), DS.minN a l ∈ a :: l ∧ ∀ x ∈ a :: l, DS.minN a l ≤ x
  | [], a => ⟨by simp [DS.minN], fun x hx => by rw [List.mem_singleton.mp hx]; exact Nat.le_refl _⟩
  | b :: l, a => by
    obtain ⟨h1, h2⟩ := minN_spec l (min a b)
    have e : DS.minN a (b :: l) = DS.minN (min a b) l := rfl
    rw [e]
    refine ⟨?_, fun x hx => ?_⟩
    · rcases List.mem_cons.mp h1 with z | z
      · rw [z]
        rcases Nat.le_total a b with w | w
        · rw [Nat.min_eq_left w]; simp
        · rw [Nat.min_eq_right w]; simp
      · simp [z]
    · have hm := h2 (min a b) List.mem_cons_self
      rcases List.mem_cons.mp hx with z | z
      · rw [z]; exact Nat.le_trans hm (Nat.min_le_left _ _)
      · rcases List.mem_cons.mp z with z | z
        · rw [z]; exact Nat.le_trans hm (Nat.min_le_right _ _)
        · exact h2 x (List.mem_cons_of_mem _ z)
theorem minN_of {a m : Nat} {l : List Nat} (h1 : m ∈ a :: l) (h2 : ∀ x ∈ a :: l, m ≤ x) : DS.minN a l = m := by
  obtain ⟨a1, a2⟩ := minN_spec l a
  exact Nat.le_antisymm (a2 m h1) (h2 _ a1)
def dedup (l : List Nat) : List Nat := l.foldl (fun acc x => if x ∈ acc then acc else acc ++ [x]) []
theorem dedup_snoc (l : List Nat) (x : Nat) : dedup (l ++ [x]) = if x ∈ dedup l then dedup l else dedup l ++ [x] := by
  unfold dedup; rw [List.foldl_append]; rfl
theorem take_last {l : List Nat} {n : Nat} (h : l.length = n + 1) : l = l.take n ++ [l[n]] := by
  conv => lhs; rw [← List.take_append_drop n l]
  congr 1
  rw [List.drop_eq_getElem_cons (by omega)]
  congr 1
  exact List.drop_eq_nil_of_le (by omega)
theorem dedup_len : ∀ (n : Nat) (l : List Nat), l.length = n → (dedup l).length ≤ n
  | 0, l, h => by rw [List.length_eq_zero_iff.mp h]; decide
  | n + 1, l, h => by
    have e := take_last h
    rw [e, dedup_snoc]
    have ih := dedup_len n (l.take n) (by rw [List.length_take]; omega)
    split
    · omega
    · rw [List.length_append]; show _ + 1 ≤ _; omega
theorem dedup_mem : ∀ (n : Nat) (l : List Nat), l.length = n → ∀ x ∈ dedup l, x ∈ l
  | 0, l, h => by rw [List.length_eq_zero_iff.mp h]; simp [dedup]
  | n + 1, l, h => by
    have e := take_last h
    rw [e, dedup_snoc]
    have ih := dedup_mem n (l.take n) (by rw [List.length_take]; omega)
    intro x hx
    split at hx
    · exact List.mem_append_left _ (ih x hx)
    · rcases List.mem_append.mp hx with z | z
      · exact List.mem_append_left _ (ih x z)
      · exact List.mem_append_right _ z
def spWinG (C : Addr) : Sp := fun vs H Q _ => ∃ (d : Addr) (s : DS), vs = [.ref d] ∧ DoorAt C H d s ∧ ∀ (l : Addr) H', Same H H' → H l = none → H' l = some (.lst (natV s.wins)) → Q (.ref l) H'
def spMayG (C : Addr) : Sp := fun vs H Q _ => ∃ (d : Addr) (s : DS) (cod : Nat → V) (dat : Nat → PyData) (cs : Nat → Nat), vs = [.ref d] ∧ DoorAt C H d s ∧ (∀ p v, s.cm p = some v → v = cod (cs p)) ∧ (∀ p, VAt H (cod (cs p)) (dat (cs p)) ∧ VOk 3 (dat (cs p))) ∧
  (∀ p q, PyData.eqv (dat (cs p)) (dat (cs q)) = decide (cs p = cs q)) ∧ ∀ t H', Same H H' → H' t = some (.tup ((dedup (s.wins.map cs)).map cod)) → Q (.ref t) H'
theorem wins_mem {s : DS} (W : s.WF) {p : Nat} (h : p ∈ s.wins) : p < s.lev.length ∧ s.cm p ≠ none := by
  have hheld : ∀ p ∈ s.held, p < s.lev.length ∧ s.lv p = some 1 := fun p hp => by
    have := List.mem_filter.mp hp
    exact ⟨List.mem_range.mp this.1, of_decide_eq_true this.2⟩
  have hr : ∀ p ∈ s.readyL, p < s.lev.length ∧ s.cm p ≠ none := fun p hp => by
    have := hheld p (List.mem_filter.mp hp).1
    exact ⟨this.1, W.cmv p (by rw [this.2]; simp)⟩
  have hc : ∀ p ∈ s.cameL, p < s.lev.length ∧ s.cm p ≠ none := fun p hp => by
    have := List.mem_filter.mp hp
    refine ⟨List.mem_range.mp this.1, fun z => ?_⟩
    rw [z] at this; exact absurd this.2 (by simp)
  unfold DS.wins at h
  split at h
  · rename_i h2
    rw [List.mem_singleton.mp h]
    obtain ⟨h1, _⟩ := minN_spec s.readyL s.two
    rcases List.mem_cons.mp h1 with z | z
    · rw [z]
      obtain ⟨m1, m2, _⟩ := DS.two_lev (mem_getD.mp h2)
      exact ⟨m1, W.cmv _ (by rw [m2]; simp)⟩
    · exact hr _ z
  · split at h
    · exact hc p h
    · rename_i r rs e
      rcases List.mem_append.mp h with z | z
      · exact hc p (List.mem_filter.mp z).1
      · rw [List.mem_singleton.mp z]; exact hr r (by rw [e]; exact List.mem_cons_self)
theorem wins_len {s : DS} (W : s.WF) : s.wins.length ≤ 6 := by
  have h5 := W.n5
  have hc : s.cameL.length ≤ 5 := by
    have := List.length_filter_le (fun p => (s.cm p).isSome) (List.range s.lev.length)
    rw [List.length_range] at this
    unfold DS.cameL; omega
  unfold DS.wins
  split
  · show 1 ≤ 6; decide
  · split
    · omega
    · rename_i r _ _
      rw [List.length_append]
      have := List.length_filter_le (fun p => decide (p < r) && (s.sn p).isNone) s.cameL
      show _ + 1 ≤ 6
      omega
/-! ### two doors, the one by other numbers -/
structure RelD (nm : V → V) (nu : List Nat) (s t : DS) : Prop where
  N : Nu nu
  ls : s.lev.length = nu.length
  lt : t.lev.length = 5
  Ws : s.WF
  Wt : t.WF
  lv : ∀ p q, nu[p]? = some q → t.lv q = s.lv p
  cm : ∀ p q, nu[p]? = some q → t.cm q = (s.cm p).map nm
  sn : ∀ p q, nu[p]? = some q → t.sn q = (s.sn p).map (ledL nu)
  hd : ∀ p q, nu[p]? = some q → t.hd q = (s.hd p).map nm
  offC : ∀ q, q ∉ nu → t.cm q = none
  offH : ∀ q, q ∉ nu → t.hd q = none
  snl : ∀ p l, s.sn p = some l → l.length = nu.length
  st : t.stps = s.stps
def mapT (nm : V → V) (nu : List Nat) : Told → Told
  | .level i => .level i
  | .look l => .look (ledL nu l)
  | .wait => .wait
  | .word v => .word (nm v)
section
variable {nm : V → V} {nu : List Nat} {s t : DS} {p q : Nat} {v : V}
theorem RelD.new {n : Nat} (N : Nu nu) (h1 : 1 ≤ n) (h5 : n ≤ 5) (hl : nu.length = n) : RelD nm nu (DS.new n) (DS.new 5) := by
  refine ⟨N, by simp [DS.new, hl], by simp [DS.new], .new h1 h5, .new (by decide) (by decide), ?_, ?_, ?_, ?_, ?_, ?_, ?_, rfl⟩
  · intro p q _; rw [DS.lv_new, DS.lv_new]
  · intro p q _; rw [DS.cm_new, DS.cm_new]; rfl
  · intro p q _; rw [DS.sn_new, DS.sn_new]; rfl
  · intro p q _; rw [DS.hd_new, DS.hd_new]; rfl
  · intro q _; exact DS.cm_new _ _
  · intro q _; exact DS.hd_new _ _
  · intro p l h; rw [DS.sn_new] at h; cases h
theorem RelD.offL (R : RelD nm nu s t) (h : q ∉ nu) : t.lv q = none := by
  cases e : t.lv q with
  | none => rfl
  | some x => exact absurd (R.offC q h) (R.Wt.cmv q (by rw [e]; simp))
theorem RelD.offS (R : RelD nm nu s t) (h : q ∉ nu) : t.sn q = none := by
  cases e : t.sn q with
  | none => rfl
  | some x => exact absurd (R.offL h) (R.Wt.snv q (by rw [e]; simp))
theorem RelD.lev (R : RelD nm nu s t) : t.lev = ledL nu s.lev := by
  refine ext_getD (by rw [R.lt, ledL_len]) fun q => ?_
  by_cases h : q ∈ nu
  · obtain ⟨p, hp⟩ := List.getElem?_of_mem h
    rw [ledL_at R.N R.ls hp]; exact R.lv p q hp
  · rw [ledL_off R.N R.ls h]; exact R.offL h
theorem RelD.heard (R : RelD nm nu s t) : t.heard = ledL nu (s.heard.map (Option.map nm)) := by
  have hl : (s.heard.map (Option.map nm)).length = nu.length := by rw [List.length_map, R.Ws.lh, R.ls]
  refine ext_getD (by rw [R.Wt.lh, R.lt, ledL_len]) fun q => ?_
  by_cases h : q ∈ nu
  · obtain ⟨p, hp⟩ := List.getElem?_of_mem h
    rw [ledL_at R.N hl hp]
    have e : (s.heard.map (Option.map nm)).getD p none = (s.hd p).map nm := by
      rw [List.getD_eq_getElem?_getD, List.getElem?_map]
      unfold DS.hd
      rw [List.getD_eq_getElem?_getD]
      cases s.heard[p]? <;> rfl
    rw [e]; exact R.hd p q hp
  · rw [ledL_off R.N hl h]; exact R.offH q h
theorem RelD.stg (R : RelD nm nu s t) (h : nu[p]? = some q) : t.stg q = s.stg p := by
  unfold DS.stg
  rw [R.lv p q h, R.sn p q h]
  unfold DS.stgOf
  cases s.sn p <;> rfl
theorem RelD.mem (R : RelD nm nu s t) (x : Int) : some x ∈ t.lev ↔ some x ∈ s.lev := by rw [R.lev]; exact mem_led R.N R.ls x
theorem RelD.saw (R : RelD nm nu s t) (h : nu[p]? = some q) : t.saw q = s.saw p := by
  unfold DS.saw
  rw [R.sn p q h]
  cases e : s.sn p with
  | none => rfl
  | some l => exact decide_eq_decide.mpr (mem_led R.N (R.snl p l e) 2)
theorem RelD.won (R : RelD nm nu s t) (h : nu[p]? = some q) : t.won q = s.won p := by
  unfold DS.won
  rw [R.sn p q h]
  cases e : s.sn p with
  | none => rfl
  | some l => show (!decide _) = (!decide _); rw [decide_eq_decide.mpr (mem_led R.N (R.snl p l e) 2)]
theorem RelD.wr (R : RelD nm nu s t) (h : nu[p]? = some q) : t.wr q = s.wr p := by unfold DS.wr; rw [R.saw h]
theorem RelD.at (R : RelD nm nu s t) (h : p < s.lev.length) : nu[p]? = some (nu.getD p 0) := by
  rw [R.ls] at h
  rw [List.getD_eq_getElem?_getD, List.getElem?_eq_getElem h]; rfl
theorem RelD.two (R : RelD nm nu s t) (h2 : ∃ p, s.lv p = some 2) : nu[s.two]? = some t.two := by
  obtain ⟨a1, a2, a3⟩ := DS.two_lev h2
  have hq := R.at a1
  have t2 : t.lv (nu.getD s.two 0) = some 2 := by rw [R.lv _ _ hq]; exact a2
  obtain ⟨b1, b2, b3⟩ := DS.two_lev ⟨_, t2⟩
  by_cases hm : t.two ∈ nu
  · obtain ⟨p', hp'⟩ := List.getElem?_of_mem hm
    have e2 : s.lv p' = some 2 := by rw [← R.lv p' _ hp']; exact b2
    have h3 : ¬ p' < s.two := fun z => a3 p' z e2
    have h4 : ¬ nu.getD s.two 0 < t.two := fun z => b3 _ z t2
    have h5 := R.N.mono hq hp'
    have : p' = s.two := by
      have : ¬ s.two < p' := fun z => h4 (h5.mp z)
      omega
    rw [← this]; exact hp'
  · rw [R.offL hm] at b2; cases b2
theorem RelD.told (R : RelD nm nu s t) (h : nu[p]? = some q) : t.told q = mapT nm nu (s.told p) := by
  have h4 := DS.stg_lt s p
  have e := R.stg h
  rcases (show s.stg p = 0 ∨ s.stg p = 1 ∨ s.stg p = 2 ∨ s.stg p = 3 by omega) with z | z | z | z <;> rw [z] at e
  · rw [DS.told0 z, DS.told0 e]; rfl
  · rw [DS.told1 z, DS.told1 e, R.lev]; rfl
  · rw [DS.told2 z, DS.told2 e, R.wr h]; rfl
  · rw [DS.told3 z, DS.told3 e]
    by_cases y : some 1 ∈ s.lev
    · rw [if_pos y, if_pos ((R.mem 1).mpr y)]; rfl
    · rw [if_neg y, if_neg (fun w => y ((R.mem 1).mp w))]
      have h2 := DS.ask_two R.Ws z
      obtain ⟨v, hv⟩ := DS.two_came R.Ws h2
      rw [R.cm _ _ (R.two h2), hv]; rfl
theorem RelD.ne (R : RelD nm nu s t) {p' q' : Nat} (h : nu[p]? = some q) (h' : nu[p']? = some q') : p = p' ↔ q = q' := by
  constructor
  · rintro rfl; rw [h] at h'; exact Option.some.inj h'
  · rintro rfl; exact R.N.inj h h'
theorem RelD.come (R : RelD nm nu s t) (h : nu[p]? = some q) : RelD nm nu (s.come p v) (t.come q (nm v)) := by
  have hp : p < s.came.length := by rw [R.Ws.lc, R.ls]; exact get_lt h
  have hq : q < t.came.length := by rw [R.Wt.lc, R.lt]; exact R.N.five h
  refine ⟨R.N, R.ls, R.lt, R.Ws.come, R.Wt.come, R.lv, fun p' q' h' => ?_, R.sn, R.hd, fun q' h' => ?_, R.offH, R.snl, by rw [stps_come, stps_come]; exact R.st⟩
  · rw [DS.cm_come, DS.cm_come]
    by_cases z : p = p'
    · rw [if_pos ⟨(R.ne h h').mp z, hq⟩, if_pos ⟨z, hp⟩]; rfl
    · rw [if_neg (fun w => z ((R.ne h h').mpr w.1)), if_neg (fun w => z w.1)]; exact R.cm p' q' h'
  · rw [DS.cm_come, if_neg]
    · exact R.offC q' h'
    · rintro ⟨z, _⟩; exact h' (z ▸ List.mem_of_getElem? h)
theorem RelD.step (R : RelD nm nu s t) (h : nu[p]? = some q) (hc : s.cm p ≠ none) : RelD nm nu (s.step p) (t.step q) := by
  have hc' : t.cm q ≠ none := by
    rw [R.cm p q h]
    cases e : s.cm p with
    | none => exact absurd e hc
    | some v => simp
  have hp := DS.lt_of_cm R.Ws hc
  have hq := DS.lt_of_cm R.Wt hc'
  have hps : p < s.seen.length := by rw [R.Ws.ls]; exact hp
  have hqs : q < t.seen.length := by rw [R.Wt.ls]; exact hq
  have e := R.stg h
  have h4 := DS.stg_lt s p
  have ne := fun p' q' (h' : nu[p']? = some q') => R.ne h h'
  have hdR : ∀ p' q', nu[p']? = some q' → (t.step q).hd q' = ((s.step p).hd p').map nm := fun p' q' h' => by
    rw [DS.hd_step R.Ws hc, DS.hd_step R.Wt hc']
    by_cases z : p = p' ∧ s.stg p = 3 ∧ some 1 ∉ s.lev
    · rw [if_pos z, if_pos ⟨(ne p' q' h').mp z.1, by rw [e]; exact z.2.1, fun w => z.2.2 ((R.mem 1).mp w)⟩]
      exact R.cm _ _ (R.two (DS.ask_two R.Ws z.2.1))
    · rw [if_neg z, if_neg (fun w => z ⟨(ne p' q' h').mpr w.1, by rw [← e]; exact w.2.1, fun y => w.2.2 ((R.mem 1).mpr y)⟩)]
      exact R.hd p' q' h'
  have offHR : ∀ q', q' ∉ nu → (t.step q).hd q' = none := fun q' h' => by
    rw [DS.hd_step R.Wt hc', if_neg]
    · exact R.offH q' h'
    · rintro ⟨z, _⟩; exact h' (z ▸ List.mem_of_getElem? h)
  have stR : (t.step q).stps = (s.step p).stps := by rw [stps_step, stps_step, R.st]
  refine ⟨R.N, by rw [DS.len_step]; exact R.ls, by rw [DS.len_step]; exact R.lt, R.Ws.step hc, R.Wt.step hc', fun p' q' h' => ?_, fun p' q' h' => by rw [DS.cm_step, DS.cm_step]; exact R.cm p' q' h', fun p' q' h' => ?_, hdR, fun q' h' => by rw [DS.cm_step]; exact R.offC q' h', offHR, fun p' l h' => ?_, stR⟩
  · rcases (show s.stg p = 0 ∨ s.stg p = 1 ∨ s.stg p = 2 ∨ s.stg p = 3 by omega) with z | z | z | z <;> rw [z] at e
    · rw [DS.lv_step0 z hp, DS.lv_step0 e hq]
      by_cases y : p = p'
      · rw [if_pos y, if_pos ((ne p' q' h').mp y)]
      · rw [if_neg y, if_neg (fun w => y ((ne p' q' h').mpr w))]; exact R.lv p' q' h'
    · rw [DS.lv_step1 z, DS.lv_step1 e]; exact R.lv p' q' h'
    · rw [DS.lv_step2 z hp, DS.lv_step2 e hq, R.wr h]
      by_cases y : p = p'
      · rw [if_pos y, if_pos ((ne p' q' h').mp y)]
      · rw [if_neg y, if_neg (fun w => y ((ne p' q' h').mpr w))]; exact R.lv p' q' h'
    · rw [DS.lv_step3 z, DS.lv_step3 e]; exact R.lv p' q' h'
  · by_cases z : s.stg p = 1
    · rw [DS.sn_step1 z hps, DS.sn_step1 (by rw [e]; exact z) hqs]
      by_cases y : p = p'
      · rw [if_pos y, if_pos ((ne p' q' h').mp y), R.lev]; rfl
      · rw [if_neg y, if_neg (fun w => y ((ne p' q' h').mpr w))]; exact R.sn p' q' h'
    · rw [DS.sn_stepN z, DS.sn_stepN (by rw [e]; exact z)]; exact R.sn p' q' h'
  · by_cases z : s.stg p = 1
    · rw [DS.sn_step1 z hps] at h'
      split at h'
      · cases h'; exact R.ls
      · exact R.snl p' l h'
    · rw [DS.sn_stepN z] at h'; exact R.snl p' l h'
/-- lots of players, by other numbers -/
theorem RelD.lots (R : RelD nm nu s t) {f g : Nat → Bool} (hg : ∀ q, q ∉ nu → g q = false) (h : ∀ p q, nu[p]? = some q → g q = f p) : (List.range t.lev.length).filter g = ((List.range s.lev.length).filter f).map fun p => nu.getD p 0 := by
  have rs : ∀ n, (List.range n).Pairwise (· < ·) := fun n => List.pairwise_lt_range
  refine sorted_ext ((rs _).filter _) ?_ fun x => ?_
  · rw [List.pairwise_map]
    refine List.Pairwise.imp_of_mem ?_ ((rs s.lev.length).filter f)
    intro a b ha hb hab
    have ha := List.mem_range.mp (List.mem_filter.mp ha).1
    have hb := List.mem_range.mp (List.mem_filter.mp hb).1
    exact (R.N.mono (R.at ha) (R.at hb)).mp hab
  · rw [List.mem_filter, List.mem_range, List.mem_map]
    constructor
    · rintro ⟨h1, h2⟩
      by_cases z : x ∈ nu
      · obtain ⟨p, hp⟩ := List.getElem?_of_mem z
        have hpl : p < s.lev.length := by rw [R.ls]; exact get_lt hp
        refine ⟨p, List.mem_filter.mpr ⟨List.mem_range.mpr hpl, by rw [← h p x hp]; exact h2⟩, ?_⟩
        have := R.at hpl
        rw [hp] at this; exact (Option.some.inj this).symm
      · rw [hg x z] at h2; cases h2
    · rintro ⟨p, hp, rfl⟩
      have hp' := List.mem_filter.mp hp
      have hpl := List.mem_range.mp hp'.1
      have ha := R.at hpl
      exact ⟨by rw [R.lt]; exact R.N.five ha, by rw [h p _ ha]; exact hp'.2⟩
theorem RelD.held (R : RelD nm nu s t) : t.held = s.held.map fun p => nu.getD p 0 :=
  R.lots (fun q h => by rw [R.offL h]; decide) fun p q h => by rw [R.lv p q h]
theorem RelD.cameL (R : RelD nm nu s t) : t.cameL = s.cameL.map fun p => nu.getD p 0 :=
  R.lots (fun q h => by rw [R.offC q h]; rfl) fun p q h => by rw [R.cm p q h]; cases s.cm p <;> rfl
theorem held_lt {s : DS} : ∀ p ∈ s.held, p < s.lev.length := fun p hp => List.mem_range.mp (List.mem_filter.mp hp).1
theorem RelD.readyL (R : RelD nm nu s t) : t.readyL = s.readyL.map fun p => nu.getD p 0 := by
  unfold DS.readyL
  rw [R.held, List.filter_map]
  congr 1
  refine List.filter_congr fun p hp => ?_
  exact R.won (R.at (held_lt p hp))
theorem RelD.wins (R : RelD nm nu s t) : t.wins = s.wins.map fun p => nu.getD p 0 := by
  have er := R.readyL
  have rl : ∀ p ∈ s.readyL, p < s.lev.length := fun p hp => held_lt p (List.mem_filter.mp hp).1
  unfold DS.wins
  by_cases h2 : some 2 ∈ s.lev
  · rw [if_pos h2, if_pos ((R.mem 2).mpr h2)]
    obtain ⟨m1, m2, _⟩ := DS.two_lev (mem_getD.mp h2)
    have ht : nu.getD s.two 0 = t.two := by
      have a := R.two (mem_getD.mp h2)
      have b := R.at m1
      rw [b] at a; exact Option.some.inj a
    show [_] = [nu.getD (DS.minN s.two s.readyL) 0]
    congr 1
    obtain ⟨a1, a2⟩ := minN_spec s.readyL s.two
    have lt : ∀ p ∈ s.two :: s.readyL, p < s.lev.length := fun p hp => by
      rcases List.mem_cons.mp hp with z | z
      · rw [z]; exact m1
      · exact rl p z
    refine minN_of ?_ fun x hx => ?_
    · rw [er]
      rcases List.mem_cons.mp a1 with z | z
      · rw [z, ht]; exact List.mem_cons_self
      · exact List.mem_cons_of_mem _ (List.mem_map.mpr ⟨_, z, rfl⟩)
    · have hx' : ∃ p ∈ s.two :: s.readyL, nu.getD p 0 = x := by
        rcases List.mem_cons.mp hx with z | z
        · exact ⟨s.two, List.mem_cons_self, by rw [z, ht]⟩
        · rw [er] at z
          obtain ⟨p, hp, e⟩ := List.mem_map.mp z
          exact ⟨p, List.mem_cons_of_mem _ hp, e⟩
      obtain ⟨p, hp, rfl⟩ := hx'
      have h1 := R.at (lt _ a1)
      have h3 := R.at (lt p hp)
      rcases Nat.lt_or_ge (nu.getD p 0) (nu.getD (DS.minN s.two s.readyL) 0) with z | z
      · have := (R.N.mono h3 h1).mpr z
        have := a2 p hp
        omega
      · exact z
  · rw [if_neg h2, if_neg (fun w => h2 ((R.mem 2).mp w)), er]
    cases e : s.readyL with
    | nil => exact R.cameL
    | cons r rs =>
      show (t.cameL.filter fun p => decide (p < nu.getD r 0) && (t.sn p).isNone) ++ [nu.getD r 0] = List.map _ (_ ++ [r])
      have hr := R.at (rl r (by rw [e]; exact List.mem_cons_self))
      rw [List.map_append, R.cameL, List.filter_map]
      congr 2
      refine List.filter_congr fun p hp => ?_
      have hpl := List.mem_range.mp (List.mem_filter.mp hp).1
      have ha := R.at hpl
      show (decide (nu.getD p 0 < nu.getD r 0) && (t.sn (nu.getD p 0)).isNone) = _
      rw [R.sn p _ ha, decide_eq_decide.mpr (R.N.mono ha hr).symm]
      cases s.sn p <;> rfl
end
end Fp
/-! views of a stair are a row; weavings; walks over two tuples -/
namespace Fp
open PySem PySem.Spec PyProof.Rows L2
theorem walk_zipT {K : PySem.W.Frag} {a b : Addr} {xs ys : List V} {n : Nat} (hn : n = min xs.length ys.length) : Walk (RZ.ItzT K a b) n (fun H => SqT K H a xs ∧ SqT K H b ys) (YPair (fun i => xs[i]?) (fun i => ys[i]?)) := by
  subst hn
  refine ⟨fun i _ hi q => ?_, fun _ q => ⟨xs, ys, q.1, q.2, by omega⟩, fun i H v H' _ q y => ?_⟩
  · have h1 : i < xs.length := by omega
    have h2 : i < ys.length := by omega
    exact ⟨xs, ys, xs[i], ys[i], q.1, q.2, by simp [h1], by simp [h2]⟩
  · obtain ⟨T, x, z, h1, h2, h3, h4, h5⟩ := y
    exact ⟨T, x, z, h1, h2, h3, h4 xs q.1, h5 ys q.2⟩
def Sub (l m : List Nat) : Prop := ∀ x ∈ l, x ∈ m
instance (l m : List Nat) : Decidable (Sub l m) := inferInstanceAs (Decidable (∀ x ∈ l, x ∈ m))
namespace LS
section
variable {s : LS} {p q : Nat} {l m : List Nat}
theorem below_up (s : LS) (l : Int) : (s.below l).Pairwise (· < ·) := List.Pairwise.filter _ List.pairwise_lt_range
theorem below_mono {a b : Int} (h : a ≤ b) : Sub (s.below a) (s.below b) := fun x hx => by
  obtain ⟨h1, h2⟩ := mem_below.mp hx
  refine mem_below.mpr ⟨h1, ?_⟩
  cases e : s.lv x with
  | none => rw [e] at h2; cases h2
  | some y => rw [e] at h2; have := of_decide_eq_true (show decide (y ≤ a) = true from h2); exact decide_eq_true (by omega)
/-- what is known of a view -/
structure ViewOk (s : LS) (p : Nat) (l : List Nat) : Prop where
  up : l.Pairwise (· < ·)
  self : p ∈ l
  lt : ∀ x ∈ l, x < s.n
  len : l.length ≤ 5
theorem WF.view (W : s.WF) (h : s.vi p = some l) : ViewOk s p l := by
  obtain ⟨k, h1, h2, h3⟩ := W.vil p l h
  have := W.rng p _ h1
  have := W.n5
  refine ⟨by rw [h2]; exact below_up _ _, W.self h, fun x hx => ?_, by rw [h2, h3]; omega⟩
  rw [h2] at hx
  exact (mem_below.mp hx).1
theorem WF.vlt (W : s.WF) (h : s.vi p = some l) : p < s.n := (W.view h).lt p (W.view h).self
theorem WF.fits (W : s.WF) (h : s.vi p = some l) (h' : s.vi q = some m) : (q ∈ l → Sub m l) ∧ (q ∉ l → Sub l m) := by
  obtain ⟨k, h1, h2, _⟩ := W.vil p l h
  obtain ⟨j, j1, j2, _⟩ := W.vil q m h'
  have hq : q ∈ l ↔ j ≤ k := by
    rw [h2, mem_below]
    rw [le_some j1, decide_eq_true_iff]
    exact ⟨fun z => by have := z.2; omega, fun z => ⟨W.vlt h', by omega⟩⟩
  rw [hq, h2, j2]
  exact ⟨fun z => below_mono (by omega), fun z => below_mono (by omega)⟩
def woven (s : LS) (ws : List Nat) : LS := ws.foldl (fun s p => s.step p) s
theorem woven_snoc (ws : List Nat) (p : Nat) : s.woven (ws ++ [p]) = (s.woven ws).step p := List.foldl_append
theorem n_woven : ∀ {ws : List Nat} {s : LS}, (s.woven ws).n = s.n
  | [], _ => rfl
  | p :: ws, s => (n_woven (ws := ws) (s := s.step p)).trans n_step
theorem step_none (h : s.next p = none) : s.step p = s := by unfold LS.step; rw [h]
theorem ok_woven : ∀ {ws : List Nat} {s : LS}, s.WF → s.ROk → (∀ p ∈ ws, p < s.n) → (s.woven ws).WF ∧ (s.woven ws).ROk
  | [], _, W, R, _ => ⟨W, R⟩
  | p :: ws, s, W, R, h => by
    have hp := h p List.mem_cons_self
    have R' : (s.step p).ROk := by
      by_cases z : s.next p = none
      · rw [step_none z]; exact R
      · exact R.step W hp z
    have r := ok_woven (ws := ws) (s := s.step p) (W.step hp) R' fun q hq => by rw [n_step]; exact h q (List.mem_cons_of_mem _ hq)
    exact r
theorem step_run' (W : s.WF) (hp : p < s.n) : ∃ ds, (s.step p).run = s.run ++ ds ∧ ds.length ≤ 1 := by
  by_cases z : s.next p = none
  · exact ⟨[], by rw [step_none z]; simp, by decide⟩
  · obtain ⟨dd, e, _⟩ := step_run W hp z
    exact ⟨[dd], e, Nat.le_refl _⟩
theorem set_same (W : s.WF) (hp : p < s.n) (h : s.vi p = none) : s.vw.set p none = s.vw := by
  have hl : p < s.vw.length := by rw [W.lw]; exact hp
  have e : s.vw[p] = none := by
    have := getD_at hl
    rw [List.getElem?_eq_getElem hl] at this
    have h' : s.vw.getD p none = none := h
    rw [h'] at this
    exact Option.some.inj this
  refine List.ext_getElem? fun i => ?_
  rw [List.getElem?_set]
  by_cases z : p = i
  · subst z; rw [if_pos rfl, if_pos hl, List.getElem?_eq_getElem hl, e]
  · rw [if_neg z]
end
end LS
/-! ### the law's own stair -/
def sdict (n : Int) (l1 l2 l3 : Addr) : List (Key × V) := [(.inr "many", .int n), (.inr "shown", .ref l1), (.inr "looks", .ref l2), (.inr "views", .ref l3)]
section
variable {n : Int} {l1 l2 l3 o : Addr} {H : Hp}
theorem st_merge : mergeK [] (sdict n l1 l2 l3) = sdict n l1 l2 l3 := by kernel_rfl
theorem sg_many (h : H o = some (.dK (sdict n l1 l2 l3))) : DGet H o (.str "many") (some (.int n)) := by
  have := DGet.k (k := .inr "many") h; rw [show valV (sdict n l1 l2 l3) (.inr "many") = some (.int n) by kernel_rfl] at this; exact this
theorem sg_shown (h : H o = some (.dK (sdict n l1 l2 l3))) : DGet H o (.str "shown") (some (.ref l1)) := by
  have := DGet.k (k := .inr "shown") h; rw [show valV (sdict n l1 l2 l3) (.inr "shown") = some (.ref l1) by kernel_rfl] at this; exact this
theorem sg_looks (h : H o = some (.dK (sdict n l1 l2 l3))) : DGet H o (.str "looks") (some (.ref l2)) := by
  have := DGet.k (k := .inr "looks") h; rw [show valV (sdict n l1 l2 l3) (.inr "looks") = some (.ref l2) by kernel_rfl] at this; exact this
theorem sg_views (h : H o = some (.dK (sdict n l1 l2 l3))) : DGet H o (.str "views") (some (.ref l3)) := by
  have := DGet.k (k := .inr "views") h; rw [show valV (sdict n l1 l2 l3) (.inr "views") = some (.ref l3) by kernel_rfl] at this; exact this
end
structure StIn (H : Hp) (o l1 l2 l3 : Addr) (s : LS) (vv : List V) : Prop where
  dict : H o = some (.dK (sdict (s.n : Nat) l1 l2 l3))
  shown : H l1 = some (.lst (s.lev.map lvV))
  looks : H l2 = some (.lst (s.lk.map V.bl))
  views : H l3 = some (.lst vv)
  vwP : Paired (ViewAt H) vv s.vw
  nd : [o, l1, l2, l3].Nodup
def StAt (H : Hp) (o : Addr) (L : List Addr) (s : LS) : Prop := ∃ l1 l2 l3 vv, L = [o, l1, l2, l3] ∧ StIn H o l1 l2 l3 s vv
section
variable {H H' : Hp} {o : Addr} {L S : List Addr} {s : LS}
theorem StAt.but (h : StAt H o L s) (g : But S H H') (n : ∀ x ∈ S, x ∉ L) (tk : TK H H') : StAt H' o L s := by
  obtain ⟨l1, l2, l3, vv, rfl, h⟩ := h
  have w : ∀ x ∈ [o, l1, l2, l3], x ∉ S := fun x hx m => n x m hx
  exact ⟨l1, l2, l3, vv, rfl, g _ _ (w o (by simp)) h.dict, g _ _ (w l1 (by simp)) h.shown, g _ _ (w l2 (by simp)) h.looks, g _ _ (w l3 (by simp)) h.views, pr_imp (fun _ _ => ViewAt.mono tk) h.vwP, h.nd⟩
theorem StAt.same (h : StAt H o L s) (g : Same H H') : StAt H' o L s := h.but (S := []) (.of g) (fun _ m => by cases m) (.of g)
theorem StAt.kind (h : StAt H o L s) : ∀ x ∈ L, (∃ xs, H x = some (.lst xs)) ∨ ∃ kvs, H x = some (.dK kvs) := by
  obtain ⟨l1, l2, l3, vv, rfl, h⟩ := h
  intro x hx
  simp only [List.mem_cons, List.not_mem_nil, or_false] at hx
  rcases hx with rfl | rfl | rfl | rfl
  · exact .inr ⟨_, h.dict⟩
  · exact .inl ⟨_, h.shown⟩
  · exact .inl ⟨_, h.looks⟩
  · exact .inl ⟨_, h.views⟩
theorem StAt.tk (h : StAt H o L s) (g : But L H H') : TK H H' := TK.but g fun a ha z => by
  rcases h.kind a ha with ⟨xs, e⟩ | ⟨xs, e⟩ <;> rw [e] at z <;> exact z
end
/-! ### promises -/
def spLot : Sp := fun vs H Q _ => ∃ (a : Addr) (l : List Nat), vs = [.ref a] ∧ TT H a (natV l) ∧ l.Pairwise (· < ·) ∧ l.length ≤ 5 ∧ ∀ H', Same H H' → Q (.bl true) H'
def spLies : Sp := fun vs H Q _ => ∃ (a b : Addr) (l m : List Nat), vs = [.ref a, .ref b] ∧ TT H a (natV l) ∧ TT H b (natV m) ∧ l.length ≤ 5 ∧ Sub l m ∧ ∀ H', Same H H' → Q (.bl true) H'
def spFit : Sp := fun vs H Q _ => ∃ (t u a b : Addr) (p q : Nat) (l m : List Nat), vs = [.ref t, .ref u] ∧ H t = some (.tup [.int (p : Nat), .ref a]) ∧ H u = some (.tup [.int (q : Nat), .ref b]) ∧ TT H a (natV l) ∧ TT H b (natV m) ∧ l.length ≤ 5 ∧ m.length ≤ 5 ∧
  (q ∈ l → Sub m l) ∧ (q ∉ l → Sub l m) ∧ ∀ H', Same H H' → Q (.bl true) H'
def spIsView : Sp := fun vs H Q _ => ∃ (n p : Nat) (a : Addr) (l : List Nat), vs = [.int n, .int p, .ref a] ∧ TT H a (natV l) ∧ l.Pairwise (· < ·) ∧ l.length ≤ 5 ∧ p ∈ l ∧ (∀ x ∈ l, x < n) ∧ ∀ H', Same H H' → Q (.bl true) H'
def LS.any (s : LS) : Bool := s.vw.any (·.isSome)
def spAtOnce : Sp := fun vs H Q _ => ∃ (b : Addr) (vv : List V) (s : LS), vs = [.int (s.n : Nat), .ref b] ∧ TF H b vv ∧ Paired (ViewAt H) vv s.vw ∧ s.WF ∧ ∀ H', Same H H' → Q (.bl s.any) H'
def spWeaving : Sp := fun vs H Q _ => ∃ (a : Addr) (ws : List Nat) (n : Nat), vs = [.ref a, .int n] ∧ TT H a (natV ws) ∧ (∀ p ∈ ws, p < n) ∧ ws.length ≤ 1000 ∧ ∀ H', Same H H' → Q (.bl true) H'
def spWeave (K : PySem.W.Frag) (C : Addr) : Sp := fun vs H Q _ => ∃ (d a : Addr) (ws : List Nat) (s : LS), vs = [.ref d, .ref a] ∧ LvAt K C H d s ∧ s.WF ∧ TT H a (natV ws) ∧ (∀ p ∈ ws, p < s.n) ∧ ws.length ≤ 1000 ∧ s.run.length < 10000 ∧
  ∀ t ys ds H', But [d] H H' → LvAt K C H' d (s.woven ws) → H' t = some (.tup ys) → Paired (SD K H') ys ds → (s.woven ws).run = s.run ++ ds → Q (.ref t) H'
def spLLen (K : PySem.W.Frag) (C : Addr) : Sp := fun vs H Q _ => ∃ (d : Addr) (s : LS), vs = [.ref d] ∧ LvAt K C H d s ∧ Q (.int (s.run.length : Nat)) H
def spSNext : Sp := fun vs H Q _ => ∃ (o : Addr) (L : List Addr) (p : Nat) (s : LS), vs = [.ref o, .int p] ∧ StAt H o L s ∧ s.WF ∧ p < s.n ∧ ∀ y H', Same H H' → DueAt H' y (s.next p) → Q y H'
def spSStep (K : PySem.W.Frag) : Sp := fun vs H Q _ => ∃ (o : Addr) (L : List Addr) (p : Nat) (s : LS), vs = [.ref o, .int p] ∧ StAt H o L s ∧ s.WF ∧ p < s.n ∧ s.next p ≠ none ∧
  ∀ t dd H', But L H H' → StAt H' o L (s.step p) → (s.step p).run = s.run ++ [dd] → SD K H' (.ref t) dd → Q (.ref t) H'
def spSFresh : Sp := fun vs H Q _ => ∃ n : Nat, vs = [.int n] ∧ 1 ≤ n ∧ n ≤ 5 ∧ ∀ o L H', Same H H' → (∀ x ∈ L, H x = none) → StAt H' o L (LS.new n) → Q (.ref o) H'
def spSWoven (K : PySem.W.Frag) : Sp := fun vs H Q _ => ∃ (o a : Addr) (L : List Addr) (ws : List Nat) (s : LS), vs = [.ref o, .ref a] ∧ StAt H o L s ∧ s.WF ∧ TT H a (natV ws) ∧ (∀ p ∈ ws, p < s.n) ∧ ws.length ≤ 1000 ∧
  ∀ t ys ds H', But L H H' → StAt H' o L (s.woven ws) → H' t = some (.tup ys) → Paired (SD K H') ys ds → (s.woven ws).run = s.run ++ ds → Q (.ref t) H'
def spWvg : Sp := fun vs H Q _ => ∃ (pt : Addr) (n k m : Nat), vs = [.ref pt, .int n, .int k] ∧ 1 ≤ n ∧ n ≤ 5 ∧ k ≤ 30 ∧ PotAt H pt m ∧ m < 800000 ∧ ∀ t ws H', But [pt] H H' → PotAt H' pt (m + 100) → H' t = some (.tup (natV ws)) → (∀ p ∈ ws, p < n) → ws.length ≤ 100 → Q (.ref t) H'
def spLInt : Sp := fun vs H Q _ => ∃ x a b : Int, vs = [.int x, .int a, .int b] ∧ a ≤ x ∧ x ≤ b ∧ Q (.bl true) H
def spLotOf : Sp := fun vs H Q _ => ∃ (a : Addr) (l : List Nat) (n : Nat), vs = [.ref a, .int n] ∧ TT H a (natV l) ∧ l.Pairwise (· < ·) ∧ l.length ≤ 5 ∧ (∀ x ∈ l, x < n) ∧ ∀ H', Same H H' → Q (.bl true) H'
end Fp
/-! values of any kind, of which only tuples and integers are looked into; rows of truths -/
namespace Fp
open PySem PySem.Spec PyProof.Rows L2
inductive Dt where
  | non
  | bl (b : Bool)
  | int (i : Int)
  | oth
  | tup (ds : List Dt)
mutual
inductive DV (H : Hp) : V → Dt → Prop where
  | non : DV H .non .non
  | bl (b : Bool) : DV H (.bl b) (.bl b)
  | int (i : Int) : DV H (.int i) (.int i)
  | str (z : Str) : DV H (.str z) .oth
  | lst {a : Addr} {xs : List V} : H a = some (.lst xs) → DV H (.ref a) .oth
  | dct {a : Addr} {kvs : List (Key × V)} : H a = some (.dK kvs) → DV H (.ref a) .oth
  | tup {a : Addr} {xs : List V} {ds : List Dt} : H a = some (.tup xs) → DVs H xs ds → ds.length ≤ 1000 → DV H (.ref a) (.tup ds)
inductive DVs (H : Hp) : List V → List Dt → Prop where
  | nil : DVs H [] []
  | cons {v vs d ds} : DV H v d → DVs H vs ds → DVs H (v :: vs) (d :: ds)
end
/-- tuples stay, lists and dicts stay such -/
structure DKp (H H' : Hp) : Prop where
  t : ∀ {a xs}, H a = some (.tup xs) → H' a = some (.tup xs)
  l : ∀ {a xs}, H a = some (.lst xs) → ∃ ys, H' a = some (.lst ys)
  d : ∀ {a} {xs : List (Key × V)}, H a = some (.dK xs) → ∃ ys : List (Key × V), H' a = some (.dK ys)
theorem DKp.refl (H : Hp) : DKp H H := ⟨fun h => h, fun h => ⟨_, h⟩, fun h => ⟨_, h⟩⟩
theorem DKp.trans {H H1 H2 : Hp} (a : DKp H H1) (b : DKp H1 H2) : DKp H H2 := ⟨fun h => b.t (a.t h), fun h => by
  obtain ⟨_, h⟩ := a.l h
  exact b.l h, fun h => by
  obtain ⟨_, h⟩ := a.d h
  exact b.d h⟩
theorem DKp.of {H H' : Hp} (g : Same H H') : DKp H H' := ⟨fun h => g _ _ h, fun h => ⟨_, g _ _ h⟩, fun h => ⟨_, g _ _ h⟩⟩
theorem DKp.but {S : List Addr} {H H' : Hp} (g : But S H H') (h : ∀ a ∈ S, (∃ xs, H a = some (.lst xs)) ∧ ∃ ys, H' a = some (.lst ys)) : DKp H H' := by
  refine ⟨fun {a xs} e => ?_, fun {a xs} e => ?_, fun {a xs} e => ?_⟩
  · by_cases m : a ∈ S
    · obtain ⟨⟨_, z⟩, _⟩ := h a m
      rw [z] at e; cases e
    · exact g _ _ m e
  · by_cases m : a ∈ S
    · exact (h a m).2
    · exact ⟨_, g _ _ m e⟩
  · by_cases m : a ∈ S
    · obtain ⟨⟨_, z⟩, _⟩ := h a m
      rw [z] at e; cases e
    · exact ⟨_, g _ _ m e⟩
theorem DKp.pot {p : Addr} {n m : Nat} {H H' : Hp} (g : But [p] H H') (h : PotAt H p n) (h' : PotAt H' p m) : DKp H H' := DKp.but g fun a ha => by
  rw [List.mem_singleton.mp ha]
  exact ⟨h.there, h'.there⟩
theorem DKp.put {H : Hp} {a : Addr} {xs ys : List V} (h : H a = some (.lst xs)) : DKp H (upd H a (.lst ys)) := DKp.but (S := [a]) ((But.refl _ _).put (by simp)) fun b hb => by
  rw [List.mem_singleton.mp hb]
  exact ⟨⟨_, h⟩, _, upd_same⟩
mutual
theorem DV.kd {H H' : Hp} (g : DKp H H') : ∀ {v : V} {d : Dt}, DV H v d → DV H' v d
  | _, _, .non => .non
  | _, _, .bl b => .bl b
  | _, _, .int i => .int i
  | _, _, .str z => .str z
  | _, _, .lst h => by
    obtain ⟨_, h⟩ := g.l h
    exact .lst h
  | _, _, .dct h => by
    obtain ⟨_, h⟩ := g.d h
    exact .dct h
  | _, _, .tup h t l => .tup (g.t h) (DVs.kd g t) l
theorem DVs.kd {H H' : Hp} (g : DKp H H') : ∀ {vs : List V} {ds : List Dt}, DVs H vs ds → DVs H' vs ds
  | _, _, .nil => .nil
  | _, _, .cons h t => .cons (DV.kd g h) (DVs.kd g t)
end
theorem DV.same {H H' : Hp} (g : Same H H') {v : V} {d : Dt} (h : DV H v d) : DV H' v d := h.kd (.of g)
theorem DVs.same {H H' : Hp} (g : Same H H') {v : List V} {d : List Dt} (h : DVs H v d) : DVs H' v d := h.kd (.of g)
theorem DVs.len {H : Hp} : ∀ {vs : List V} {ds : List Dt}, DVs H vs ds → vs.length = ds.length
  | _, _, .nil => rfl
  | _, _, .cons _ t => congrArg (· + 1) (DVs.len t)
theorem DVs.at_ {H : Hp} {v : V} : ∀ {i : Nat} {vs : List V} {ds : List Dt}, DVs H vs ds → vs[i]? = some v → ∃ d, ds[i]? = some d ∧ DV H v d
  | 0, _, _, .cons h t, e => by cases e; exact ⟨_, rfl, h⟩
  | i + 1, _, _, .cons h t, e => DVs.at_ (i := i) t e
  | _, _, _, .nil, e => by simp at e
theorem DVs.get {H : Hp} {d : Dt} : ∀ {i : Nat} {vs : List V} {ds : List Dt}, DVs H vs ds → ds[i]? = some d → ∃ v, vs[i]? = some v ∧ DV H v d
  | 0, _, _, .cons h t, e => by cases e; exact ⟨_, rfl, h⟩
  | i + 1, _, _, .cons h t, e => DVs.get (i := i) t e
  | _, _, _, .nil, e => by simp at e
theorem DVs.app {H : Hp} : ∀ {vs ws : List V} {ds es : List Dt}, DVs H vs ds → DVs H ws es → DVs H (vs ++ ws) (ds ++ es)
  | _, _, _, _, .nil, t => t
  | _, _, _, _, .cons h r, t => .cons h (DVs.app r t)
theorem DVs.take {H : Hp} : ∀ {n : Nat} {vs : List V} {ds : List Dt}, DVs H vs ds → DVs H (vs.take n) (ds.take n)
  | 0, _, _, _ => by simp; exact .nil
  | n + 1, _, _, .nil => by simp; exact .nil
  | n + 1, _, _, .cons h t => .cons h (DVs.take t)
theorem DVs.drop {H : Hp} : ∀ {n : Nat} {vs : List V} {ds : List Dt}, DVs H vs ds → DVs H (vs.drop n) (ds.drop n)
  | 0, _, _, h => h
  | n + 1, _, _, .nil => by simp; exact .nil
  | n + 1, _ :: _, _ :: _, .cons h t => by
    rw [List.drop_succ_cons, List.drop_succ_cons]
    exact DVs.drop (n := n) t
theorem DVs.rev {H : Hp} : ∀ {vs : List V} {ds : List Dt}, DVs H vs ds → DVs H vs.reverse ds.reverse
  | _, _, .nil => .nil
  | _, _, .cons h t => by
    rw [List.reverse_cons, List.reverse_cons]
    exact DVs.app (DVs.rev t) (.cons h .nil)
theorem DVs.set {H : Hp} {v : V} {d : Dt} (h : DV H v d) : ∀ {n : Nat} {vs : List V} {ds : List Dt}, DVs H vs ds → DVs H (vs.set n v) (ds.set n d)
  | _, _, _, .nil => by simp; exact .nil
  | 0, _, _, .cons _ t => .cons h t
  | n + 1, _, _, .cons g t => .cons g (DVs.set h t)
/-! ### kinds -/
def Dt.isInt : Dt → Bool
  | .int _ => true
  | _ => false
def Dt.isBl : Dt → Bool
  | .bl _ => true
  | _ => false
def Dt.isTup : Dt → Bool
  | .tup _ => true
  | _ => false
def Dt.isNon : Dt → Bool
  | .non => true
  | _ => false
def Dt.toInt : Dt → Int
  | .int i => i
  | _ => 0
def Dt.wnn : Dt → Bool
  | .int i => decide (0 ≤ i)
  | _ => false
theorem DV.ty {K : PySem.W.Frag} {H : Hp} {v : V} {d : Dt} (h : DV H v d) : ∃ t, TyX K H v t ∧ PySem.W.kitOne K t (.type "int") = some (d.isInt || d.isBl) ∧ PySem.W.kitOne K t (.type "bool") = some d.isBl ∧ PySem.W.kitOne K t (.type "tuple") = some d.isTup := by
  cases h with
  | non => exact ⟨.type "NoneType", .base .non, by first | rfl | decide +kernel | kernel_rfl, by first | rfl | decide +kernel | kernel_rfl, by first | rfl | decide +kernel | kernel_rfl⟩
  | int i => exact ⟨.type "int", .base (.int i), by first | rfl | decide +kernel | kernel_rfl, by first | rfl | decide +kernel | kernel_rfl, by first | rfl | decide +kernel | kernel_rfl⟩
  | bl b => exact ⟨.type "bool", .base (.bl b), by first | rfl | decide +kernel | kernel_rfl, by first | rfl | decide +kernel | kernel_rfl, by first | rfl | decide +kernel | kernel_rfl⟩
  | str z => exact ⟨.type "str", .base (.str z), by first | rfl | decide +kernel | kernel_rfl, by first | rfl | decide +kernel | kernel_rfl, by first | rfl | decide +kernel | kernel_rfl⟩
  | tup h _ _ => exact ⟨.type "tuple", .base (.tup h), by first | rfl | decide +kernel | kernel_rfl, by first | rfl | decide +kernel | kernel_rfl, by first | rfl | decide +kernel | kernel_rfl⟩
  | lst h => exact ⟨.type "list", .base (.lst h), by first | rfl | decide +kernel | kernel_rfl, by first | rfl | decide +kernel | kernel_rfl, by first | rfl | decide +kernel | kernel_rfl⟩
  | dct h => exact ⟨.type "dict", .base (.dK h), by first | rfl | decide +kernel | kernel_rfl, by first | rfl | decide +kernel | kernel_rfl, by first | rfl | decide +kernel | kernel_rfl⟩
theorem DV.non_iff {H : Hp} {v : V} {d : Dt} (h : DV H v d) : decide (v = .non) = d.isNon := by
  cases h <;> simp [Dt.isNon]
theorem not_t {b : Bool} (h : (!b) = true) : b = false := by cases b <;> first | rfl | cases h
theorem not_f {b : Bool} (h : ¬ (!b) = true) : b = true := by cases b <;> first | rfl | exact absurd rfl h
/-! ### rows of truths -/
theorem all_getD {α : Type} {p : α → Bool} {x : α} : ∀ {l : List α}, ((List.range l.length).all fun i => p (l.getD i x)) = l.all p := by
  intro l
  rw [Bool.eq_iff_iff, List.all_eq_true, List.all_eq_true]
  constructor
  · intro h y hy
    obtain ⟨i, hi⟩ := List.mem_iff_getElem?.mp hy
    have hl := (List.getElem?_eq_some_iff.mp hi).1
    have := h i (List.mem_range.mpr hl)
    rw [List.getD_eq_getElem?_getD, hi] at this
    exact this
  · intro h i hi
    have hl := List.mem_range.mp hi
    have : l.getD i x = l[i] := by rw [List.getD_eq_getElem?_getD, List.getElem?_eq_getElem hl] <;> rfl
    rw [this]
    exact h _ (List.getElem_mem hl)
theorem all_id_map {α : Type} (f : α → Bool) (l : List α) : (l.map f).all id = l.all f := by rw [List.all_map]; rfl
section
variable {J : It} {n : Nat} {G : Hp → Prop} {Y : Nat → Hp → V → Hp → Prop}
/-- a comprehension of truths, each known -/
theorem lc_bools (w : Walk J n G Y) (f : Nat → Bool) {g : TG} {tt : L2.TT} {te : TE} {vs : List Nat} {σ : L2.St} {H1 : Hp} {D : Addr} {Qd : Hp → Prop} (hD : H1 D = none) (hn : n < 10000000) (hG : ∀ H, Same H1 H → G H)
    (hs : ∀ i x H H', i < n → Same H1 H → Y i H x H' → ∀ (Q4 : VK) (N : Hp → Prop), (∀ H4, Same H H4 → Q4 (.bl (f i)) H4) → g x (wipe σ vs) H' fun σ2 H2 => wipe σ2 vs = wipe σ vs ∧ tt σ2 H2 fun b H3 => if b = true then te σ2 H3 Q4 else N H3)
    (hd : ∀ H, Same H1 H → H D = some (.lst (((List.range n).map f).map V.bl)) → Qd H) :
    ∃ W : Nat → Nat → Hp → Prop, (∃ m, W 0 m (upd H1 D (.lst []))) ∧ ∀ i m H, W i m H →
      (J.stop i H ∧ Qd H) ∨ (J.go i H ∧ ∃ Nx : Hp → Prop, (∀ H', Nx H' → ∃ m', m' < m ∧ W (i + 1) m' H') ∧ ∀ x H', J.yld i H x H' → g x (wipe σ vs) H' fun σ2 H2 => wipe σ2 vs = wipe σ vs ∧ tt σ2 H2 fun b H3 =>
        if b = true then te σ2 H3 fun y H4 => ∃ acc, H4 D = some (.lst acc) ∧ acc.length < sizeLine ∧ Nx (upd H4 D (.lst (acc ++ [y]))) else Nx H3) := by
  refine lc_it w (fun i H => Same H1 H ∧ H D = some (.lst (((List.range i).map f).map V.bl))) ⟨same_new hD _, upd_same⟩ (fun i H _ z => hG H z.1) (fun i x H H' hi z y => ?_) fun H z => hd H z.1 z.2
  refine hs i x H H' hi z.1 y _ _ fun H4 g4 => ?_
  refine ⟨_, g4 _ _ z.2, szt (by rw [List.length_map, List.length_map, List.length_range]; omega), fun b o q => ?_, ?_⟩
  · rw [upd_ne (ne_of_none q hD)]; exact g4 _ _ (z.1 _ _ q)
  · rw [upd_same, List.range_succ, List.map_append, List.map_append] <;> rfl
end
section
variable {J : It} {n : Nat} {G : Hp → Prop} {Y : Nat → Hp → V → Hp → Prop}
/-- a comprehension of values, each known -/
theorem lc_vals (w : Walk J n G Y) (f : Nat → V) {g : TG} {tt : L2.TT} {te : TE} {vs : List Nat} {σ : L2.St} {H1 : Hp} {D : Addr} {Qd : Hp → Prop} (hD : H1 D = none) (hn : n < 10000000) (hG : ∀ H, Same H1 H → G H)
    (hs : ∀ i x H H', i < n → Same H1 H → Y i H x H' → ∀ (Q4 : VK) (N : Hp → Prop), (∀ H4, Same H H4 → Q4 (f i) H4) → g x (wipe σ vs) H' fun σ2 H2 => wipe σ2 vs = wipe σ vs ∧ tt σ2 H2 fun b H3 => if b = true then te σ2 H3 Q4 else N H3)
    (hd : ∀ H, Same H1 H → H D = some (.lst ((List.range n).map f)) → Qd H) :
    ∃ W : Nat → Nat → Hp → Prop, (∃ m, W 0 m (upd H1 D (.lst []))) ∧ ∀ i m H, W i m H →
      (J.stop i H ∧ Qd H) ∨ (J.go i H ∧ ∃ Nx : Hp → Prop, (∀ H', Nx H' → ∃ m', m' < m ∧ W (i + 1) m' H') ∧ ∀ x H', J.yld i H x H' → g x (wipe σ vs) H' fun σ2 H2 => wipe σ2 vs = wipe σ vs ∧ tt σ2 H2 fun b H3 =>
        if b = true then te σ2 H3 fun y H4 => ∃ acc, H4 D = some (.lst acc) ∧ acc.length < sizeLine ∧ Nx (upd H4 D (.lst (acc ++ [y]))) else Nx H3) := by
  refine lc_it w (fun i H => Same H1 H ∧ H D = some (.lst ((List.range i).map f))) ⟨same_new hD _, upd_same⟩ (fun i H _ z => hG H z.1) (fun i x H H' hi z y => ?_) fun H z => hd H z.1 z.2
  refine hs i x H H' hi z.1 y _ _ fun H4 g4 => ?_
  refine ⟨_, g4 _ _ z.2, szt (by rw [List.length_map, List.length_range]; omega), fun b o q => ?_, ?_⟩
  · rw [upd_ne (ne_of_none q hD)]; exact g4 _ _ (z.1 _ _ q)
  · rw [upd_same, List.range_succ, List.map_append] <;> rfl
end
/-- all pairs of one list and another: truths, each known -/
def rowsB (f : Nat → Nat → Bool) (n m : Nat) : List Bool := (List.range n).flatMap fun i => (List.range m).map (f i)
theorem rowsB_all (f : Nat → Nat → Bool) (n m : Nat) : (rowsB f n m).all id = (List.range n).all fun i => (List.range m).all (f i) := by
  unfold rowsB
  rw [List.all_flatMap]
  congr 1
  funext i
  exact all_id_map _ _
theorem rowsB_succ (f : Nat → Nat → Bool) (n m : Nat) : rowsB f (n + 1) m = rowsB f n m ++ (List.range m).map (f n) := by
  unfold rowsB
  rw [List.range_succ, List.flatMap_append]; simp
theorem rowsB_len (f : Nat → Nat → Bool) : ∀ n m : Nat, (rowsB f n m).length = n * m
  | 0, m => by simp [rowsB]
  | n + 1, m => by rw [rowsB_succ, List.length_append, rowsB_len f n m, List.length_map, List.length_range, Nat.succ_mul]
theorem lc2_bools {K : PySem.W.Frag} {a b D : Addr} {xs ys : List V} {s0 i0 i1 : Nat} {te : TE} {vs vs1 : List Nat} {σ : L2.St} {H1 : Hp} {Qd : Hp → Prop} (f : Nat → Nat → Bool) (hD : H1 D = none) (ha : H1 a = some (.lst xs)) (hb : H1 b = some (.lst ys)) (hn : xs.length * ys.length < 1000000)
    (hv : ∀ x, ((wipe σ vs).set i0 (some x))[s0]? = some (some (.ref b))) (hw : ∀ x, wipe ((wipe σ vs).set i0 (some x)) vs = wipe σ vs) (hw1 : ∀ x y, wipe ((wipe ((wipe σ vs).set i0 (some x)) vs1).set i1 (some y)) vs1 = wipe ((wipe σ vs).set i0 (some x)) vs1)
    (hs : ∀ i j x y H, xs[i]? = some x → ys[j]? = some y → Same H1 H → ∀ Q4 : VK, (∀ H4, Same H H4 → Q4 (.bl (f i j)) H4) → te ((wipe ((wipe σ vs).set i0 (some x)) vs1).set i1 (some y)) H Q4)
    (hd : ∀ H, Same H1 H → H D = some (.lst ((rowsB f xs.length ys.length).map V.bl)) → Qd H) :
    ∃ W : Nat → Nat → Hp → Prop, (∃ m, W 0 m (upd H1 D (.lst []))) ∧ ∀ i m H, W i m H →
      ((Itl K a).stop i H ∧ Qd H) ∨ ((Itl K a).go i H ∧ ∃ Nx : Hp → Prop, (∀ H', Nx H' → ∃ m', m' < m ∧ W (i + 1) m' H') ∧ ∀ x H', (Itl K a).yld i H x H' → gName i0 x (wipe σ vs) H' fun σ2 H2 => wipe σ2 vs = wipe σ vs ∧ tYes σ2 H2 fun b H3 =>
        if b = true then iList K (tVar s0) σ2 H3 fun J1 H4 => ∃ W1 : Nat → Nat → Hp → Prop, (∃ m, W1 0 m H4) ∧ ∀ j k H, W1 j k H →
          (J1.stop j H ∧ Nx H) ∨ (J1.go j H ∧ ∃ Nx1 : Hp → Prop, (∀ H', Nx1 H' → ∃ k', k' < k ∧ W1 (j + 1) k' H') ∧ ∀ x H', J1.yld j H x H' → gName i1 x (wipe σ2 vs1) H' fun σ3 H5 => wipe σ3 vs1 = wipe σ2 vs1 ∧ tYes σ3 H5 fun b H6 =>
            if b = true then te σ3 H6 fun y H7 => ∃ acc, H7 D = some (.lst acc) ∧ acc.length < sizeLine ∧ Nx1 (upd H7 D (.lst (acc ++ [y]))) else Nx1 H6)
        else Nx H3) := by
  have w1 := walk_list (K := K) (a := a) (xs := xs)
  have w2 := walk_list (K := K) (a := b) (xs := ys)
  refine ⟨fun i m H' => m = xs.length - i ∧ i ≤ xs.length ∧ Same H1 H' ∧ H' D = some (.lst ((rowsB f i ys.length).map V.bl)), ⟨_, rfl, Nat.zero_le _, same_new hD _, upd_same⟩, ?_⟩
  rintro i m H3 ⟨rfl, hi, g3, h3⟩
  by_cases hlt : i < xs.length
  rotate_left
  · have e : i = xs.length := by omega
    subst e
    exact .inl ⟨w1.stops H3 (.of (g3 _ _ ha)), hd _ g3 h3⟩
  refine .inr ⟨w1.goes i H3 hlt (.of (g3 _ _ ha)), fun H' => i + 1 ≤ xs.length ∧ Same H1 H' ∧ H' D = some (.lst ((rowsB f (i + 1) ys.length).map V.bl)), fun H' z => ⟨xs.length - (i + 1), by omega, rfl, z.1, z.2⟩, fun x H' hy => ?_⟩
  obtain ⟨rfl, hx⟩ := w1.yields i H3 x H' hlt (.of (g3 _ _ ha)) hy
  refine ⟨hw x, ?_⟩
  unfold tYes
  refine iteT ⟨_, hv x, b, rfl, ⟨_, .of (g3 _ _ hb)⟩, ?_⟩
  refine ⟨fun j m H' => m = ys.length - j ∧ j ≤ ys.length ∧ Same H1 H' ∧ H' D = some (.lst ((rowsB f i ys.length ++ (List.range j).map (f i)).map V.bl)), ⟨_, rfl, Nat.zero_le _, g3, by rw [h3]; simp⟩, ?_⟩
  rintro j m H4 ⟨rfl, hj, g4, h4⟩
  by_cases hjt : j < ys.length
  rotate_left
  · have e : j = ys.length := by omega
    subst e
    exact .inl ⟨w2.stops H4 (.of (g4 _ _ hb)), hlt, g4, by rw [h4, rowsB_succ]⟩
  refine .inr ⟨w2.goes j H4 hjt (.of (g4 _ _ hb)), fun H' => j + 1 ≤ ys.length ∧ Same H1 H' ∧ H' D = some (.lst ((rowsB f i ys.length ++ (List.range (j + 1)).map (f i)).map V.bl)), fun H' z => ⟨ys.length - (j + 1), by omega, rfl, z.1, z.2⟩, fun y H' hy => ?_⟩
  obtain ⟨rfl, hyy⟩ := w2.yields j H4 y H' hjt (.of (g4 _ _ hb)) hy
  refine ⟨hw1 x y, ?_⟩
  refine iteT ?_
  refine hs i j x y _ hx hyy g4 _ fun H5 g5 => ?_
  refine ⟨_, g5 _ _ h4, szt ?_, hjt, fun c o q => ?_, ?_⟩
  · rw [List.length_map, List.length_append, rowsB_len, List.length_map, List.length_range]
    have : i * ys.length ≤ xs.length * ys.length := Nat.mul_le_mul_right _ hi
    have : ys.length ≤ xs.length * ys.length := Nat.le_mul_of_pos_left _ (by omega)
    omega
  · rw [upd_ne (ne_of_none q hD)]; exact g5 _ _ (g4 _ _ q)
  · rw [upd_same, List.range_succ]
    simp
/-! ### slices and sums of tuples, whichever object tells them -/
section
variable {K : PySem.W.Frag} {a b : Addr} {xs ys : List V} {H : Hp} {Q : VK}
theorem slA_any {lo hi : Option Int} (h : H a = some (.tup xs)) (k : ∀ b H', Same H H' → H' b = some (.tup (cutV xs lo hi)) → Q (.ref b) H') : rSlA K (.ref a) lo hi H Q := by
  refine ⟨a, xs, rfl, .of h, fun z => k a H (Same.refl _) ?_, fun z p hp => k p _ (same_new hp _) upd_same⟩
  have e : cutV xs lo hi = xs := by
    unfold cutV
    rw [z.1, z.2, List.drop_zero]
    exact List.take_of_length_le (by omega)
  rw [e]; exact h
theorem noP_in {σ : L2.St} {k : Option Int → Hp → Prop} (h : k none H) : tNoPart σ H k := h
theorem catA_any (ha : H a = some (.tup xs)) (hb : H b = some (.tup ys)) (hl : xs.length + ys.length ≤ 10000000) (k : ∀ c H', Same H H' → H' c = some (.tup (xs ++ ys)) → Q (.ref c) H') : rCatA K (.ref a) (.ref b) H Q := by
  refine ⟨a, b, xs, ys, rfl, rfl, .of ha, .of hb, szl hl, fun z => k b H (Same.refl _) ?_, fun _ z => k a H (Same.refl _) ?_, fun _ _ p hp => k p _ (same_new hp _) upd_same⟩
  · rw [z]; exact hb
  · rw [z, List.append_nil]; exact ha
theorem cutA_from {n : Nat} : cutV xs (some ((n : Nat) : Int)) none = xs.drop n := by
  have h1 : HT.sIx xs.length 0 (some ((n : Nat) : Int)) = min n xs.length := HT.sIx_nat _ _ n
  have h2 : HT.sIx xs.length xs.length none = xs.length := rfl
  unfold cutV
  rw [h1, h2]
  by_cases c : n ≤ xs.length
  · rw [Nat.min_eq_left c]; exact List.take_of_length_le (by rw [List.length_drop]; omega)
  · rw [Nat.min_eq_right (by omega), List.drop_of_length_le (by omega : xs.length ≤ n), List.drop_length, List.take_nil]
theorem cutA_to {n : Nat} : cutV xs none (some ((n : Nat) : Int)) = xs.take n := by
  have h1 : HT.sIx xs.length xs.length (some ((n : Nat) : Int)) = min n xs.length := HT.sIx_nat _ _ n
  have h2 : HT.sIx xs.length 0 none = 0 := rfl
  unfold cutV
  rw [h1, h2, List.drop_zero, Nat.sub_zero]
  by_cases c : n ≤ xs.length
  · rw [Nat.min_eq_left c]
  · rw [Nat.min_eq_right (by omega), List.take_length, List.take_of_length_le (by omega)]
end
/-! ### None in a tuple -/
def rInT (K : PySem.W.Frag) (neg : Bool) : R2 := fun x y H Q => ∃ d ds, Dp K H x d ∧ Dp K H y (.tuple ds) ∧ SeqAt.shaped d = true ∧ SeqAt.shaped (.tuple ds) = true ∧ Q (.bl (if neg then !(ds.any fun z => PyData.eqv z d) else ds.any fun z => PyData.eqv z d)) H
section
variable {X : Cx}
theorem op_inT {K : PySem.W.Frag} (hu : X.A.units + 65 < cLine) (e : X.K = K := by rfl) : OpR X (compareOp .In) (rInT K false) := by
  subst e
  intro pins s σ H x y v u Q I rx ry h
  obtain ⟨d, ds, hd, he, sd, se, q⟩ := h
  obtain ⟨as, r1⟩ := Dp.reads I d x v hd rx
  obtain ⟨bs, r2⟩ := Dp.reads I (.tuple ds) y u he ry
  exact SeqAt.in_tuple_reads r2 r1 (SeqAt.canLay_of_shaped se) (SeqAt.canLay_of_shaped sd) (room_in_shaped sd hu) ⟨.bl _, H, I, rfl, q⟩
theorem op_notInT {K : PySem.W.Frag} (hu : X.A.units + 65 < cLine) (e : X.K = K := by rfl) : OpR X (compareOp .NotIn) (rInT K true) := by
  subst e
  intro pins s σ H x y v u Q I rx ry h
  obtain ⟨d, ds, hd, he, sd, se, q⟩ := h
  obtain ⟨as, r1⟩ := Dp.reads I d x v hd rx
  obtain ⟨bs, r2⟩ := Dp.reads I (.tuple ds) y u he ry
  exact SeqAt.notIn_tuple_reads r2 r1 (SeqAt.canLay_of_shaped se) (SeqAt.canLay_of_shaped sd) (room_in_shaped sd hu) ⟨.bl _, H, I, rfl, q⟩
end
end Fp
/-! rows of views, as data: what the program asks, what the law asks, and that both are one -/
namespace Fp
open PySem PySem.Spec PyProof.Rows L2
def adjLt (l : List Int) : Bool := (List.range (l.length - 1)).all fun i => decide (l.getD i 0 < l.getD (i + 1) 0)
theorem getD_lt {l : List Int} {i : Nat} (h : i < l.length) : l.getD i 0 = l[i] := by rw [List.getD_eq_getElem?_getD, List.getElem?_eq_getElem h] <;> rfl
theorem adjLt_iff : ∀ {l : List Int}, adjLt l = true ↔ l.Pairwise (· < ·)
  | [] => by simp [adjLt]
  | [a] => by simp [adjLt]
  | a :: b :: r => by
    have ih := adjLt_iff (l := b :: r)
    have e : adjLt (a :: b :: r) = (decide (a < b) && adjLt (b :: r)) := by
      unfold adjLt
      rw [show (a :: b :: r).length - 1 = r.length + 1 by simp, List.range_succ_eq_map, List.all_cons, List.all_map]
      simp [Function.comp_def]
    rw [e, Bool.and_eq_true, ih, decide_eq_true_iff]
    constructor
    · rintro ⟨h1, h2⟩
      refine List.pairwise_cons.mpr ⟨fun x hx => ?_, h2⟩
      rcases List.mem_cons.mp hx with rfl | hx
      · exact h1
      · exact Int.lt_trans h1 ((List.pairwise_cons.mp h2).1 x hx)
    · intro h
      exact ⟨(List.pairwise_cons.mp h).1 b (by simp), (List.pairwise_cons.mp h).2⟩
def lotOf : Dt → List Int
  | .tup ds => ds.map Dt.toInt
  | _ => []
def lotB : Dt → Bool
  | .tup ds => ds.all Dt.wnn && adjLt (ds.map Dt.toInt)
  | _ => false
def viewB (n h : Int) (d : Dt) : Bool := lotB d && (decide (h ∈ lotOf d) && decide ((lotOf d).getLastD 0 < n))
def fitB (p q : Int × List Int) : Bool := if q.1 ∈ p.2 then q.2.all (fun x => decide (x ∈ p.2)) else p.2.all (fun x => decide (x ∈ q.2))
/-- where a row has views -/
def thr (ds : List Dt) : List Nat := (List.range ds.length).filter fun i => !(ds.getD i .non).isNon
def vwAt (ds : List Dt) (i : Nat) : List Int := lotOf (ds.getD i .non)
def prs (ds : List Dt) : List (Int × List Int) := (thr ds).map fun i : Nat => (((i : Nat) : Int), vwAt ds i)
def vwsB (n : Int) (ds : List Dt) : Bool := (List.range ds.length).all fun i => (ds.getD i .non).isNon || viewB n i (ds.getD i .non)
def atB (n : Nat) : Dt → Bool
  | .tup ds => decide (ds.length = n) && (vwsB n ds && (decide (0 < (prs ds).length) && (prs ds).all fun p => (prs ds).all fun q => fitB p q))
  | _ => false
def hasNon : Dt → Bool
  | .tup ds => ds.any Dt.isNon
  | _ => false
def wholeB (n : Nat) (d : Dt) : Bool := atB n d && !hasNon d
/-- the law's own look -/
def inB (n : Int) (d : Dt) : Bool := d.isInt && decide (0 ≤ d.toInt ∧ d.toInt ≤ n)
def lotOfB (n : Int) : Dt → Bool
  | .tup ds => ds.all (inB (n - 1)) && adjLt (ds.map Dt.toInt)
  | _ => false
def withinB (l m : List Int) : Bool := l.all fun x => decide (x ∈ m)
def okPair (ds : List Dt) (i j : Nat) : Bool :=
  (withinB (vwAt ds i) (vwAt ds j) || withinB (vwAt ds j) (vwAt ds i)) && !(decide (((i : Nat) : Int) ∈ vwAt ds j) && !withinB (vwAt ds i) (vwAt ds j))
def lawVw (n : Int) (ds : List Dt) (i : Nat) : Bool := lotOfB n (ds.getD i .non) && decide ((i : Int) ∈ vwAt ds i)
def lawRowB (n : Nat) : Dt → Bool
  | .tup ds => (decide (ds.length = n) && !(ds.all Dt.isNon)) && ((thr ds).all (lawVw n ds) && (thr ds).all fun i => (thr ds).all fun j => okPair ds i j)
  | _ => false
theorem mem_thr {ds : List Dt} {i : Nat} : i ∈ thr ds ↔ i < ds.length ∧ (ds.getD i .non).isNon = false := by
  unfold thr
  rw [List.mem_filter, List.mem_range]
  simp
theorem last_lt {l : List Int} (hp : l.Pairwise (· < ·)) (x : Int) (hx : x ∈ l) : x ≤ l.getLastD 0 := by
  rcases List.eq_nil_or_concat l with rfl | ⟨l0, z, e⟩
  · cases hx
  · rw [List.concat_eq_append] at e
    subst e
    rw [List.getLastD_eq_getLast?, List.getLast?_append]
    simp only [List.getLast?_singleton, Option.some_or, Option.getD_some]
    rcases List.mem_append.mp hx with h | h
    · exact Int.le_of_lt ((List.pairwise_append.mp hp).2.2 x h z (by simp))
    · rw [List.mem_singleton.mp h]; exact Int.le_refl _
theorem last_mem {l : List Int} (h : l ≠ []) : l.getLastD 0 ∈ l := by
  rcases List.eq_nil_or_concat l with rfl | ⟨l0, z, e⟩
  · exact absurd rfl h
  · rw [List.concat_eq_append] at e
    subst e
    rw [List.getLastD_eq_getLast?, List.getLast?_append]
    simp
theorem wnn_iff {x : Dt} : x.wnn = true ↔ x.isInt = true ∧ 0 ≤ x.toInt := by
  cases x <;> simp [Dt.wnn, Dt.isInt, Dt.toInt]
theorem inB_iff {n : Int} {x : Dt} : inB n x = true ↔ x.isInt = true ∧ 0 ≤ x.toInt ∧ x.toInt ≤ n := by
  unfold inB
  rw [Bool.and_eq_true, decide_eq_true_iff]
theorem lotB_tup {es : List Dt} : lotB (.tup es) = true ↔ (∀ x ∈ es, x.isInt = true ∧ 0 ≤ x.toInt) ∧ (es.map Dt.toInt).Pairwise (· < ·) := by
  show (es.all Dt.wnn && adjLt (es.map Dt.toInt)) = true ↔ _
  rw [Bool.and_eq_true, List.all_eq_true, adjLt_iff]
  exact and_congr (forall_congr' fun x => forall_congr' fun _ => wnn_iff) Iff.rfl
theorem lotOfB_tup {n : Int} {es : List Dt} : lotOfB n (.tup es) = true ↔ (∀ x ∈ es, x.isInt = true ∧ 0 ≤ x.toInt ∧ x.toInt ≤ n - 1) ∧ (es.map Dt.toInt).Pairwise (· < ·) := by
  show (es.all (inB (n - 1)) && adjLt (es.map Dt.toInt)) = true ↔ _
  rw [Bool.and_eq_true, List.all_eq_true, adjLt_iff]
  exact and_congr (forall_congr' fun x => forall_congr' fun _ => inB_iff) Iff.rfl
theorem viewB_iff {n h : Int} {d : Dt} : viewB n h d = true ↔ lotB d = true ∧ h ∈ lotOf d ∧ (lotOf d).getLastD 0 < n := by
  unfold viewB
  rw [Bool.and_eq_true, Bool.and_eq_true, decide_eq_true_iff, decide_eq_true_iff]
theorem lawVw_iff {n : Int} {ds : List Dt} {i : Nat} : lawVw n ds i = true ↔ lotOfB n (ds.getD i .non) = true ∧ ((i : Nat) : Int) ∈ lotOf (ds.getD i .non) := by
  unfold lawVw vwAt
  rw [Bool.and_eq_true, decide_eq_true_iff]
theorem view_one {n h : Int} {d : Dt} : viewB n h d = true ↔ lotOfB n d = true ∧ h ∈ lotOf d := by
  rw [viewB_iff]
  cases d with
  | tup es =>
    rw [lotB_tup, lotOfB_tup]
    show _ ∧ h ∈ es.map Dt.toInt ∧ (es.map Dt.toInt).getLastD 0 < n ↔ _ ∧ h ∈ es.map Dt.toInt
    constructor
    · rintro ⟨⟨h1, h2⟩, h3, h4⟩
      refine ⟨⟨fun x hx => ?_, h2⟩, h3⟩
      have l := last_lt h2 x.toInt (List.mem_map.mpr ⟨_, hx, rfl⟩)
      obtain ⟨a, b⟩ := h1 x hx
      exact ⟨a, b, by omega⟩
    · rintro ⟨⟨h1, h2⟩, h3⟩
      refine ⟨⟨fun x hx => ⟨(h1 x hx).1, (h1 x hx).2.1⟩, h2⟩, h3, ?_⟩
      have hm := last_mem (l := es.map Dt.toInt) (fun z => by rw [z] at h3; cases h3)
      obtain ⟨x, hx, e⟩ := List.mem_map.mp hm
      have hw := (h1 x hx).2.2
      rw [← e]
      omega
  | non => exact ⟨fun z => (by cases z.1), fun z => (by cases z.1)⟩
  | bl _ => exact ⟨fun z => (by cases z.1), fun z => (by cases z.1)⟩
  | int _ => exact ⟨fun z => (by cases z.1), fun z => (by cases z.1)⟩
  | oth => exact ⟨fun z => (by cases z.1), fun z => (by cases z.1)⟩
theorem view_law {n : Int} {ds : List Dt} {i : Nat} : viewB n i (ds.getD i .non) = lawVw n ds i := by
  rw [Bool.eq_iff_iff, lawVw_iff, view_one]
theorem vws_thr {n : Int} {ds : List Dt} : vwsB n ds = (thr ds).all (lawVw n ds) := by
  unfold vwsB
  rw [Bool.eq_iff_iff, List.all_eq_true, List.all_eq_true]
  constructor
  · intro h i hi
    obtain ⟨h1, h2⟩ := mem_thr.mp hi
    have := h i (List.mem_range.mpr h1)
    rw [h2, Bool.false_or, view_law] at this
    exact this
  · intro h i hi
    cases e : (ds.getD i .non).isNon with
    | true => rfl
    | false =>
      rw [Bool.false_or, view_law]
      exact h i (mem_thr.mpr ⟨List.mem_range.mp hi, e⟩)
theorem within_iff {l m : List Int} : withinB l m = true ↔ ∀ x ∈ l, x ∈ m := by
  unfold withinB
  simp
theorem fit_iff {a b : Int} {l m : List Int} : fitB (a, l) (b, m) = true ↔ (b ∈ l → ∀ x ∈ m, x ∈ l) ∧ (b ∉ l → ∀ x ∈ l, x ∈ m) := by
  unfold fitB
  dsimp only
  by_cases h : b ∈ l
  · rw [if_pos h]; simp [h]
  · rw [if_neg h]; simp [h]
theorem pair_iff {ds : List Dt} {i j : Nat} : okPair ds i j = true ↔ ((∀ x ∈ vwAt ds i, x ∈ vwAt ds j) ∨ ∀ x ∈ vwAt ds j, x ∈ vwAt ds i) ∧ ((i : Int) ∈ vwAt ds j → ∀ x ∈ vwAt ds i, x ∈ vwAt ds j) := by
  unfold okPair
  rw [Bool.and_eq_true, Bool.or_eq_true, within_iff, within_iff]
  refine and_congr Iff.rfl ?_
  rw [Bool.not_eq_true', Bool.and_eq_false_iff, decide_eq_false_iff_not, Bool.not_eq_false', within_iff]
  by_cases h : (i : Int) ∈ vwAt ds j <;> simp [h]
/-- both looks are one -/
theorem fits_pairs {n : Int} {ds : List Dt} (hv : (thr ds).all (lawVw n ds) = true) : ((prs ds).all fun p => (prs ds).all fun q => fitB p q) = (thr ds).all fun i => (thr ds).all fun j => okPair ds i j := by
  have own : ∀ i ∈ thr ds, (i : Int) ∈ vwAt ds i := fun i hi => by
    have := List.all_eq_true.mp hv i hi
    unfold lawVw at this
    rw [Bool.and_eq_true, decide_eq_true_eq] at this
    exact this.2
  unfold prs
  rw [List.all_map, Bool.eq_iff_iff]
  simp only [List.all_eq_true, Function.comp_apply, List.all_map]
  constructor
  · intro h i hi j hj
    have a := fit_iff.mp (h i hi j hj)
    have b := fit_iff.mp (h j hj i hi)
    refine pair_iff.mpr ⟨?_, b.1⟩
    by_cases c : (j : Int) ∈ vwAt ds i
    · exact .inr (a.1 c)
    · exact .inl (a.2 c)
  · intro h i hi j hj
    have a := pair_iff.mp (h i hi j hj)
    have b := pair_iff.mp (h j hj i hi)
    refine fit_iff.mpr ⟨b.2, fun c => ?_⟩
    rcases a.1 with z | z
    · exact z
    · exact absurd (z _ (own j hj)) c
theorem law_row {n : Nat} (hn : 0 < n) : ∀ d, lawRowB n d = atB n d
  | .tup ds => by
    unfold lawRowB atB
    dsimp only
    by_cases hl : ds.length = n
    · rw [decide_eq_true hl, Bool.true_and, Bool.true_and, vws_thr]
      cases hv : (thr ds).all (lawVw n ds) with
      | false => rw [Bool.false_and, Bool.false_and, Bool.and_false]
      | true =>
        rw [Bool.true_and, Bool.true_and, fits_pairs hv]
        congr 1
        rw [Bool.eq_iff_iff, decide_eq_true_eq, Bool.not_eq_true', List.all_eq_false]
        unfold prs
        rw [List.length_map, List.length_pos_iff_exists_mem]
        constructor
        · rintro ⟨d, hd, h⟩
          obtain ⟨i, hi⟩ := List.mem_iff_getElem?.mp hd
          refine ⟨i, mem_thr.mpr ⟨(List.getElem?_eq_some_iff.mp hi).1, ?_⟩⟩
          rw [List.getD_eq_getElem?_getD, hi]
          simpa using h
        · rintro ⟨i, hi⟩
          obtain ⟨h1, h2⟩ := mem_thr.mp hi
          refine ⟨ds[i], List.getElem_mem h1, ?_⟩
          rw [List.getD_eq_getElem?_getD, List.getElem?_eq_getElem h1] at h2
          simp only [Option.getD_some] at h2
          rw [h2]; simp
    · rw [decide_eq_false hl]
      rfl
  | .non => rfl
  | .bl _ => rfl
  | .int _ => rfl
  | .oth => rfl
end Fp
/-! values without truths and texts: compared -/
namespace Fp
open PySem PySem.Spec PyProof.Rows L2
/-- None, integers, tuples of such, at most so deep -/
def pl : Nat → Dt → Bool
  | _, .non => true
  | _, .int _ => true
  | k + 1, .tup ds => ds.all (pl k)
  | _, _ => false
def toP : Nat → Dt → PyData
  | _, .non => .none
  | _, .int i => .int i
  | k + 1, .tup ds => .tuple (ds.map (toP k))
  | _, _ => .none
theorem pl_tup {k : Nat} {ds : List Dt} : pl (k + 1) (.tup ds) = true ↔ ∀ d ∈ ds, pl k d = true := by
  show ds.all (pl k) = true ↔ _
  rw [List.all_eq_true]
theorem pl_up : ∀ {k : Nat} {d : Dt}, pl k d = true → pl (k + 1) d = true
  | _, .non, _ => by unfold pl; rfl
  | _, .int _, _ => by unfold pl; rfl
  | 0, .tup ds, h => by cases h
  | k + 1, .tup ds, h => pl_tup.mpr fun d hd => pl_up (pl_tup.mp h d hd)
  | 0, .bl _, h => by cases h
  | k + 1, .bl _, h => by cases h
  | 0, .oth, h => by cases h
  | k + 1, .oth, h => by cases h
theorem toP_depth : ∀ {k : Nat} {d : Dt}, (toP k d).depth ≤ k
  | 0, .non => by simp [toP, PyData.depth]
  | 0, .int _ => by simp [toP, PyData.depth]
  | 0, .tup _ => by simp [toP, PyData.depth]
  | 0, .bl _ => by simp [toP, PyData.depth]
  | 0, .oth => by simp [toP, PyData.depth]
  | k + 1, .non => by simp [toP, PyData.depth]
  | k + 1, .int _ => by simp [toP, PyData.depth]
  | k + 1, .bl _ => by simp [toP, PyData.depth]
  | k + 1, .oth => by simp [toP, PyData.depth]
  | k + 1, .tup ds => by
    show PyData.depth (.tuple (ds.map (toP k))) ≤ k + 1
    simp only [PyData.depth]
    have : ∀ l : List Dt, PyData.depthAll (l.map (toP k)) ≤ k := fun l => by
      induction l with
      | nil => simp [PyData.depthAll]
      | cons a r ih =>
        rw [List.map_cons]
        simp only [PyData.depthAll]
        have := toP_depth (k := k) (d := a)
        omega
    have := this ds
    omega
theorem toP_lay : ∀ {k : Nat} {d : Dt}, (toP k d).canLay0 = true
  | 0, .non => by simp [toP, PyData.canLay0]
  | 0, .int _ => by simp [toP, PyData.canLay0]
  | 0, .tup _ => by simp [toP, PyData.canLay0]
  | 0, .bl _ => by simp [toP, PyData.canLay0]
  | 0, .oth => by simp [toP, PyData.canLay0]
  | k + 1, .non => by simp [toP, PyData.canLay0]
  | k + 1, .int _ => by simp [toP, PyData.canLay0]
  | k + 1, .bl _ => by simp [toP, PyData.canLay0]
  | k + 1, .oth => by simp [toP, PyData.canLay0]
  | k + 1, .tup ds => by
    show PyData.canLay0 (.tuple (ds.map (toP k))) = true
    simp only [PyData.canLay0]
    induction ds with
    | nil => simp [PyData.canLayAll0]
    | cons a r ih =>
      rw [List.map_cons]
      simp only [PyData.canLayAll0, Bool.and_eq_true]
      exact ⟨toP_lay, ih⟩
theorem toP_shaped {k : Nat} {d : Dt} (hk : k ≤ 64) : SeqAt.shaped (toP k d) = true := by
  unfold SeqAt.shaped
  rw [toP_lay, Bool.true_and]
  exact decide_eq_true (Nat.le_trans toP_depth hk)
theorem dps_map {K : PySem.W.Frag} {H : Hp} {f : Dt → PyData} : ∀ {xs : List V} {ds : List Dt}, DVs H xs ds → (∀ d ∈ ds, ∀ v, DV H v d → Dp K H v (f d)) → DpAll K H xs (ds.map f)
  | _, _, .nil, _ => .nil
  | _, _, .cons h t, g => .cons (g _ List.mem_cons_self _ h) (dps_map t fun d hd => g d (List.mem_cons_of_mem _ hd))
theorem DV.dp {K : PySem.W.Frag} {H : Hp} : ∀ {k : Nat} {v : V} {d : Dt}, DV H v d → pl k d = true → Dp K H v (toP k d) := by
  intro k
  induction k with
  | zero =>
    intro v d h p
    cases h with
    | non => exact .non
    | int i => exact .int i
    | _ => cases p
  | succ k ih =>
    intro v d h p
    cases h with
    | non => exact .non
    | int i => exact .int i
    | @tup a xs ds ha hds hl => exact .tup (.of ha) (dps_map hds fun d hd v hv => ih hv (pl_tup.mp p d hd))
    | _ => cases p
theorem eqvAll_map {f : Dt → PyData} : ∀ {ds es : List Dt}, (∀ d ∈ ds, ∀ e ∈ es, (PyData.eqv (f d) (f e) = true ↔ d = e)) → (PyData.eqvAll (ds.map f) (es.map f) = true ↔ ds = es)
  | [], [], _ => by simp [PyData.eqvAll]
  | [], _ :: _, _ => by simp [PyData.eqvAll]
  | _ :: _, [], _ => by simp [PyData.eqvAll]
  | a :: r, b :: s, g => by
    have ih := eqvAll_map (ds := r) (es := s) fun d hd e he => g d (List.mem_cons_of_mem _ hd) e (List.mem_cons_of_mem _ he)
    rw [List.map_cons, List.map_cons]
    simp only [PyData.eqvAll, Bool.and_eq_true, List.cons.injEq]
    rw [ih, g a (by simp) b (by simp)]
theorem eqv_iff : ∀ {k : Nat} {d e : Dt}, pl k d = true → pl k e = true → (PyData.eqv (toP k d) (toP k e) = true ↔ d = e) := by
  intro k
  induction k with
  | zero =>
    intro d e hd he
    cases d <;> cases e <;> first | (simp [toP, PyData.eqv]; done) | (cases hd; done) | (cases he; done)
  | succ k ih =>
    intro d e hd he
    cases d with
    | tup ds =>
      cases e with
      | tup es =>
        show PyData.eqv (.tuple (ds.map (toP k))) (.tuple (es.map (toP k))) = true ↔ _
        simp only [PyData.eqv, Dt.tup.injEq]
        exact eqvAll_map fun d h e h' => ih (pl_tup.mp hd d h) (pl_tup.mp he e h')
      | _ => first | (simp [toP, PyData.eqv]; done) | (cases he; done)
    | _ => cases e <;> first | (simp [toP, PyData.eqv]; done) | (cases hd; done) | (cases he; done)
/-- whether two such values are one -/
def rNeP (K : PySem.W.Frag) : R2 := fun x y H Q => ∃ d e, DV H x d ∧ DV H y e ∧ pl 3 d = true ∧ pl 3 e = true ∧ ∀ b : Bool, (b = true ↔ d ≠ e) → Q (.bl b) H
def rEqP (K : PySem.W.Frag) : R2 := fun x y H Q => ∃ d e, DV H x d ∧ DV H y e ∧ pl 3 d = true ∧ pl 3 e = true ∧ ∀ b : Bool, (b = true ↔ d = e) → Q (.bl b) H
theorem op_neP {X : Cx} {K : PySem.W.Frag} (hu : X.A.units + 64 < cLine) (e : X.K = K := by rfl) : OpR X (compareOp .NotEq) (rNeP K) := by
  subst e
  intro pins s σ H x y v u Q I rx ry h
  obtain ⟨d, e, hd, he, pd, pe, q⟩ := h
  refine op_neD hu pins s σ H x y v u Q I rx ry ⟨_, _, hd.dp pd, he.dp pe, toP_shaped (by decide), toP_shaped (by decide), q _ ?_⟩
  rw [Bool.not_eq_true', ← Bool.not_eq_true, eqv_iff pd pe]
theorem op_eqP {X : Cx} {K : PySem.W.Frag} (hu : X.A.units + 64 < cLine) (e : X.K = K := by rfl) : OpR X (compareOp .Eq) (rEqP K) := by
  subst e
  intro pins s σ H x y v u Q I rx ry h
  obtain ⟨d, e, hd, he, pd, pe, q⟩ := h
  exact op_eqD hu pins s σ H x y v u Q I rx ry ⟨_, _, hd.dp pd, he.dp pe, toP_shaped (by decide), toP_shaped (by decide), q _ (eqv_iff pd pe)⟩
/-- None in a tuple -/
def rNoneInT (K : PySem.W.Frag) (neg : Bool) : R2 := fun x y H Q => ∃ ds, x = .non ∧ DV H y (.tup ds) ∧ pl 3 (.tup ds) = true ∧ Q (.bl (if neg then !(ds.any Dt.isNon) else ds.any Dt.isNon)) H
theorem non_any {k : Nat} {ds : List Dt} : (ds.map (toP k)).any (fun z => PyData.eqv z .none) = ds.any Dt.isNon ∨ ¬ ∀ d ∈ ds, pl k d = true := by
  by_cases h : ∀ d ∈ ds, pl k d = true
  · left
    rw [List.any_map, Bool.eq_iff_iff, List.any_eq_true, List.any_eq_true]
    have e : ∀ d ∈ ds, (((fun z => PyData.eqv z .none) ∘ toP k) d = true ↔ d.isNon = true) := fun d hd => by
      show PyData.eqv (toP k d) .none = true ↔ _
      have hp := h d hd
      cases d <;> cases k <;> first | (simp [toP, PyData.eqv, Dt.isNon]; done) | (cases hp; done)
    constructor
    · rintro ⟨d, hd, q⟩
      exact ⟨d, hd, (e d hd).mp q⟩
    · rintro ⟨d, hd, q⟩
      exact ⟨d, hd, (e d hd).mpr q⟩
  · exact .inr h
theorem op_noneIn' {X : Cx} {K : PySem.W.Frag} (hu : X.A.units + 65 < cLine) (e : X.K = K := by rfl) : OpR X (compareOp .In) (rNoneInT K false) := by
  intro pins s σ H x y v u Q I rx ry h
  obtain ⟨ds, rfl, hd, pd, q⟩ := h
  refine op_inT hu e pins s σ H _ y v u Q I rx ry ⟨_, ds.map (toP 2), .non, hd.dp pd, rfl, toP_shaped (k := 3) (d := .tup ds) (by decide), ?_⟩
  rcases non_any (k := 2) (ds := ds) with z | z
  · rw [z]; exact q
  · exact absurd (pl_tup.mp pd) z
theorem op_noneNotIn' {X : Cx} {K : PySem.W.Frag} (hu : X.A.units + 65 < cLine) (e : X.K = K := by rfl) : OpR X (compareOp .NotIn) (rNoneInT K true) := by
  intro pins s σ H x y v u Q I rx ry h
  obtain ⟨ds, rfl, hd, pd, q⟩ := h
  refine op_notInT hu e pins s σ H _ y v u Q I rx ry ⟨_, ds.map (toP 2), .non, hd.dp pd, rfl, toP_shaped (k := 3) (d := .tup ds) (by decide), ?_⟩
  rcases non_any (k := 2) (ds := ds) with z | z
  · rw [z]; exact q
  · exact absurd (pl_tup.mp pd) z
/-- t == (), t any tuple -/
def rEqE (K : PySem.W.Frag) : R2 := fun x y H Q => ∃ a b xs, x = .ref a ∧ y = .ref b ∧ H a = some (.tup xs) ∧ H b = some (.tup []) ∧ Q (.bl xs.isEmpty) H
theorem op_eqE {X : Cx} {K : PySem.W.Frag} (hu : X.A.units + 64 < cLine) (e : X.K = K := by rfl) : OpR X (compareOp .Eq) (rEqE K) := by
  subst e
  intro pins s σ H x y v u Q I rx ry h
  obtain ⟨a, b, xs, rfl, rfl, ha, hb, q⟩ := h
  cases rx
  cases ry
  obtain ⟨its, r, ht, _⟩ := I.tuple (xs := xs) (.of ha)
  obtain ⟨its2, r2, ht2, _⟩ := I.tuple (xs := []) (.of hb)
  cases r2
  refine SeqAt.eq_tupleAt (e := fun _ => true) ht ht2 (by omega) (fun j _ h2 => absurd h2 (by simp)) ⟨.bl xs.isEmpty, H, I, ?_, q⟩
  have hl := r.length
  cases xs with
  | nil => cases r; rfl
  | cons x t =>
    cases r
    show Value.bool _ = Value.bool false
    simp
/-! ### good rows -/
theorem lot_data {d : Dt} (h : lotB d = true) : d = .tup ((lotOf d).map Dt.int) ∧ pl 1 d = true := by
  cases d with
  | tup es =>
    have hw := (lotB_tup.mp h).1
    have e : es = (es.map Dt.toInt).map Dt.int := by
      rw [List.map_map]
      refine (List.map_id es).symm.trans (List.map_congr_left fun x hx => ?_)
      have := (hw x hx).1
      cases x with
      | int i => rfl
      | _ => cases this
    refine ⟨congrArg Dt.tup e, pl_tup.mpr fun x hx => ?_⟩
    have := (hw x hx).1
    cases x with
    | int i => rfl
    | _ => cases this
  | _ => cases h
theorem at_tup {n : Nat} {d : Dt} (h : atB n d = true) : ∃ ds, d = .tup ds ∧ ds.length = n ∧ vwsB n ds = true := by
  cases d with
  | tup ds =>
    unfold atB at h
    dsimp only at h
    rw [Bool.and_eq_true, Bool.and_eq_true, decide_eq_true_eq] at h
    exact ⟨ds, rfl, h.1, h.2.1⟩
  | _ => cases h
theorem at_pl {n : Nat} {d : Dt} (h : atB n d = true) : pl 2 d = true := by
  obtain ⟨ds, rfl, hl, hv⟩ := at_tup h
  refine pl_tup.mpr fun x hx => ?_
  obtain ⟨i, hi⟩ := List.mem_iff_getElem?.mp hx
  have hil := (List.getElem?_eq_some_iff.mp hi).1
  have := List.all_eq_true.mp hv i (List.mem_range.mpr hil)
  rw [List.getD_eq_getElem?_getD, hi] at this
  simp only [Option.getD_some] at this
  rcases Bool.or_eq_true_iff.mp this with z | z
  · cases x with
    | non => rfl
    | _ => cases z
  · exact (lot_data (viewB_iff.mp z).1).2
end Fp
/-! chains of rows: the mathematics -/
namespace Fp
open PySem PySem.Spec PyProof.Rows L2
theorem srt_eq : ∀ {l m : List Int}, l.Pairwise (· < ·) → m.Pairwise (· < ·) → (∀ x, x ∈ l ↔ x ∈ m) → l = m
  | [], [], _, _, _ => rfl
  | [], b :: m, _, _, h => absurd ((h b).mpr (by simp)) (by simp)
  | a :: l, [], _, _, h => absurd ((h a).mp (by simp)) (by simp)
  | a :: l, b :: m, h1, h2, h => by
    obtain ⟨p1, q1⟩ := List.pairwise_cons.mp h1
    obtain ⟨p2, q2⟩ := List.pairwise_cons.mp h2
    have e : a = b := by
      have ha := (h a).mp (by simp)
      have hb := (h b).mpr (by simp)
      rcases List.mem_cons.mp ha with z | z
      · exact z
      · rcases List.mem_cons.mp hb with y | y
        · exact y.symm
        · have := p2 a z
          have := p1 b y
          omega
    subst e
    rw [srt_eq q1 q2 fun x => ?_]
    constructor
    · intro hx
      have hl := p1 x hx
      rcases List.mem_cons.mp ((h x).mp (List.mem_cons_of_mem _ hx)) with z | z
      · omega
      · exact z
    · intro hx
      have hl := p2 x hx
      rcases List.mem_cons.mp ((h x).mpr (List.mem_cons_of_mem _ hx)) with z | z
      · omega
      · exact z
theorem srt_nodup {l : List Int} (h : l.Pairwise (· < ·)) : l.Nodup := h.imp fun h => by omega
theorem nodup_le {α : Type} [DecidableEq α] : ∀ {l m : List α}, l.Nodup → (∀ x ∈ l, x ∈ m) → l.length ≤ m.length
  | [], _, _, _ => Nat.zero_le _
  | a :: l, m, h, s => by
    obtain ⟨h1, h2⟩ := List.nodup_cons.mp h
    have ha := s a (by simp)
    have := nodup_le (m := m.erase a) h2 fun y hy => (List.mem_erase_of_ne (fun (e : y = a) => h1 (by rw [← e]; exact hy))).mpr (s y (List.mem_cons_of_mem _ hy))
    rw [List.length_erase_of_mem ha] at this
    have := List.length_pos_of_mem ha
    rw [List.length_cons]
    omega
/-- a subset that is no smaller is the whole -/
theorem sub_eq {l m : List Int} (hl : l.Nodup) (h : ∀ x ∈ l, x ∈ m) (hm : m.length ≤ l.length) : ∀ x ∈ m, x ∈ l := by
  intro x hx
  refine Classical.byContradiction fun n => ?_
  have := nodup_le (m := m.erase x) hl fun y hy => (List.mem_erase_of_ne (fun (e : y = x) => n (by rw [← e]; exact hy))).mpr (h y hy)
  rw [List.length_erase_of_mem hx] at this
  have : 0 < m.length := List.length_pos_of_mem hx
  omega
abbrev Row' := List (List Int)
structure RowOk (n : Nat) (r : Row') : Prop where
  len : r.length = n
  up : ∀ (i : Nat) (l : List Int), r[i]? = some l → List.Pairwise (· < ·) l
  rng : ∀ (i : Nat) (l : List Int), r[i]? = some l → ∀ x ∈ l, 0 ≤ x ∧ x < n
  self : ∀ (i : Nat) (l : List Int), r[i]? = some l → (i : Int) ∈ l
  cmp : ∀ (i j : Nat) (l m : List Int), r[i]? = some l → r[j]? = some m → (∀ x ∈ l, x ∈ m) ∨ ∀ x ∈ m, x ∈ l
  fit : ∀ (i j : Nat) (l m : List Int), r[i]? = some l → r[j]? = some m → (i : Int) ∈ m → ∀ x ∈ l, x ∈ m
def lotD (l : List Int) : Dt := .tup (l.map Dt.int)
def rowD (r : Row') : Dt := .tup (r.map lotD)
theorem lotOf_lotD (l : List Int) : lotOf (lotD l) = l := by
  show (l.map Dt.int).map Dt.toInt = l
  rw [List.map_map]
  exact List.map_id'' (fun _ => rfl) l
theorem lotD_inj {l m : List Int} (h : lotD l = lotD m) : l = m := by rw [← lotOf_lotD l, h, lotOf_lotD]
theorem vwAt_row {r : Row'} {i : Nat} {l : List Int} (h : r[i]? = some l) : vwAt (r.map lotD) i = l ∧ ((r.map lotD).getD i .non) = lotD l := by
  have e : ((r.map lotD).getD i .non) = lotD l := by rw [List.getD_eq_getElem?_getD, List.getElem?_map, h]; rfl
  exact ⟨by unfold vwAt; rw [e, lotOf_lotD], e⟩
theorem thr_row (r : Row') (i : Nat) : i ∈ thr (r.map lotD) ↔ i < r.length := by
  rw [mem_thr, List.length_map]
  refine ⟨fun h => h.1, fun h => ⟨h, ?_⟩⟩
  rw [(vwAt_row (List.getElem?_eq_getElem h)).2]; rfl
theorem lotOfB_lotD {n : Int} {l : List Int} : lotOfB n (lotD l) = true ↔ (∀ x ∈ l, 0 ≤ x ∧ x < n) ∧ l.Pairwise (· < ·) := by
  unfold lotD
  rw [lotOfB_tup, List.map_map, show (Dt.toInt ∘ Dt.int) = id from rfl, List.map_id]
  refine and_congr ?_ Iff.rfl
  constructor
  · intro h x hx
    have := h (.int x) (List.mem_map.mpr ⟨x, hx, rfl⟩)
    obtain ⟨_, a, b⟩ := this
    have a : 0 ≤ x := a
    have b : x ≤ n - 1 := b
    omega
  · intro h d hd
    obtain ⟨x, hx, rfl⟩ := List.mem_map.mp hd
    have := h x hx
    exact ⟨rfl, this.1, by show x ≤ n - 1; omega⟩
/-- a whole good row is one of views -/
theorem rowok_iff {n : Nat} (hn : 0 < n) {r : Row'} : wholeB n (rowD r) = true ↔ RowOk n r := by
  have hnon : hasNon (rowD r) = false := by
    show (r.map lotD).any Dt.isNon = false
    rw [List.any_eq_false]
    intro d hd
    obtain ⟨l, _, rfl⟩ := List.mem_map.mp hd
    simp [lotD, Dt.isNon]
  unfold wholeB
  rw [hnon, Bool.not_false, Bool.and_true, ← law_row hn]
  unfold rowD lawRowB
  dsimp only
  rw [Bool.and_eq_true, Bool.and_eq_true, Bool.and_eq_true, decide_eq_true_eq, List.all_eq_true, List.all_eq_true, List.length_map]
  constructor
  · rintro ⟨⟨h1, _⟩, h2, h3⟩
    have vw : ∀ i l, r[i]? = some l → lawVw n (r.map lotD) i = true := fun i l h => h2 i ((thr_row r i).mpr (List.getElem?_eq_some_iff.mp h).1)
    have pr : ∀ i j l m, r[i]? = some l → r[j]? = some m → okPair (r.map lotD) i j = true := fun i j l m h h' => by
      have := h3 i ((thr_row r i).mpr (List.getElem?_eq_some_iff.mp h).1)
      rw [List.all_eq_true] at this
      exact this j ((thr_row r j).mpr (List.getElem?_eq_some_iff.mp h').1)
    refine ⟨h1, fun i l h => ?_, fun i l h => ?_, fun i l h => ?_, fun i j l m h h' => ?_, fun i j l m h h' => ?_⟩
    · have := (lawVw_iff.mp (vw i l h)).1
      rw [(vwAt_row h).2, lotOfB_lotD] at this
      exact this.2
    · have := (lawVw_iff.mp (vw i l h)).1
      rw [(vwAt_row h).2, lotOfB_lotD] at this
      exact this.1
    · have := (lawVw_iff.mp (vw i l h)).2
      rw [(vwAt_row h).2, lotOf_lotD] at this
      exact this
    · have := (pair_iff.mp (pr i j l m h h')).1
      rw [(vwAt_row h).1, (vwAt_row h').1] at this
      exact this
    · have := (pair_iff.mp (pr i j l m h h')).2
      rw [(vwAt_row h).1, (vwAt_row h').1] at this
      exact this
  · intro R
    refine ⟨⟨R.len, ?_⟩, fun i hi => ?_, fun i hi => ?_⟩
    · rw [Bool.not_eq_true', List.all_eq_false]
      have h0 : 0 < r.length := by rw [R.len]; exact hn
      exact ⟨lotD r[0], List.mem_map.mpr ⟨_, List.getElem_mem h0, rfl⟩, by simp [lotD, Dt.isNon]⟩
    · have h := List.getElem?_eq_getElem ((thr_row r i).mp hi)
      refine lawVw_iff.mpr ?_
      rw [(vwAt_row h).2, lotOfB_lotD, lotOf_lotD]
      exact ⟨⟨R.rng i _ h, R.up i _ h⟩, R.self i _ h⟩
    · rw [List.all_eq_true]
      intro j hj
      have h := List.getElem?_eq_getElem ((thr_row r i).mp hi)
      have h' := List.getElem?_eq_getElem ((thr_row r j).mp hj)
      refine pair_iff.mpr ?_
      rw [(vwAt_row h).1, (vwAt_row h').1]
      exact ⟨R.cmp i j _ _ h h', R.fit i j _ _ h h'⟩
theorem whole_row {n : Nat} (hn : 0 < n) {d : Dt} (h : wholeB n d = true) : ∃ r, d = rowD r ∧ RowOk n r := by
  have h' := h
  unfold wholeB at h
  rw [Bool.and_eq_true, Bool.not_eq_true'] at h
  obtain ⟨ds, rfl, hl, hv⟩ := at_tup h.1
  have hnn : ∀ d ∈ ds, d.isNon = false := fun d hd => by
    have := List.any_eq_false.mp (show ds.any Dt.isNon = false from h.2) d hd
    simpa using this
  have e : ds = (ds.map lotOf).map lotD := by
    rw [List.map_map]
    refine (List.map_id ds).symm.trans (List.map_congr_left fun x hx => ?_)
    obtain ⟨i, hi⟩ := List.mem_iff_getElem?.mp hx
    have hil := (List.getElem?_eq_some_iff.mp hi).1
    have := List.all_eq_true.mp hv i (List.mem_range.mpr hil)
    rw [List.getD_eq_getElem?_getD, hi] at this
    simp only [Option.getD_some] at this
    rw [hnn x hx, Bool.false_or] at this
    exact (lot_data (viewB_iff.mp this).1).1
  have e2 : Dt.tup ds = rowD (ds.map lotOf) := congrArg Dt.tup e
  rw [e2] at h' ⊢
  exact ⟨_, rfl, (rowok_iff hn).mp h'⟩
end Fp
/-! the way from a row to the row of all, and chains -/
namespace Fp
open PySem PySem.Spec PyProof.Rows L2
/-- unlike at just one place -/
def Unl (r s : Row') : Prop := r.length = s.length ∧ ∃ a : Nat, a < r.length ∧ r[a]? ≠ s[a]? ∧ ∀ b, b ≠ a → r[b]? = s[b]?
theorem Unl.symm {r s : Row'} (h : Unl r s) : Unl s r := by
  obtain ⟨e, a, h1, h2, h3⟩ := h
  exact ⟨e.symm, a, by omega, Ne.symm h2, fun b hb => (h3 b hb).symm⟩
theorem near_set {r : Row'} {a : Nat} {l : List Int} (h : r.set a l ≠ r) : Unl r (r.set a l) := by
  have ha : a < r.length := Classical.byContradiction fun c => h (List.set_eq_of_length_le (by omega))
  refine ⟨by rw [List.length_set], a, ha, fun e => h ?_, fun b hb => by rw [List.getElem?_set_ne (Ne.symm hb)]⟩
  rw [List.getElem?_set_self ha, List.getElem?_eq_getElem ha] at e
  have e := Option.some.inj e
  rw [← e]
  exact List.set_getElem_self ha
/-- neighbours are unlike at just one place -/
def Lnk (ls : List Row') : Prop := ∀ (i : Nat) (x y : Row'), ls[i]? = some x → ls[i + 1]? = some y → Unl x y
theorem Lnk.rev {ls : List Row'} (h : Lnk ls) : Lnk ls.reverse := by
  intro i x y hx hy
  have hi : i + 1 < ls.length := by
    have := (List.getElem?_eq_some_iff.mp hy).1
    rwa [List.length_reverse] at this
  rw [List.getElem?_reverse (by omega)] at hx hy
  have e : ls.length - 1 - i = (ls.length - 1 - (i + 1)) + 1 := by omega
  rw [e] at hx
  exact (h _ _ _ hy hx).symm
theorem Lnk.cons {a b : Row'} {ls : List Row'} (h : Unl a b) (g : Lnk (b :: ls)) : Lnk (a :: b :: ls) := by
  intro i x y hx hy
  cases i with
  | zero => cases hx; cases hy; exact h
  | succ i => exact g i x y hx hy
theorem Lnk.tail {a : Row'} {ls : List Row'} (g : Lnk (a :: ls)) : Lnk ls := fun i x y hx hy => g (i + 1) x y hx hy
theorem lnk_nil : Lnk [] := fun i x y hx _ => by simp at hx
theorem lnk_one (a : Row') : Lnk [a] := fun i x y hx hy => by simp at hy
theorem Lnk.app : ∀ {ls ms : List Row'} {z : Row'}, Lnk (ls ++ [z]) → Lnk (z :: ms) → Lnk (ls ++ [z] ++ ms)
  | [], ms, z, _, g => g
  | [a], ms, z, h, g => Lnk.cons (h 0 a z rfl rfl) g
  | a :: b :: r, ms, z, h, g => Lnk.cons (h 0 a b rfl rfl) (Lnk.app (ls := b :: r) h.tail g)
/-- doubles out -/
def ddL : Row' → List Row' → List Row'
  | _, [] => []
  | p, x :: xs => if x = p then ddL x xs else x :: ddL x xs
theorem dd_snoc : ∀ (p : Row') (xs : List Row') (x : Row'), ddL p (xs ++ [x]) = ddL p xs ++ if x = (p :: xs).getLast (by simp) then [] else [x]
  | p, [], x => by
    by_cases h : x = p <;> simp [ddL, h]
  | p, y :: ys, x => by
    have ih := dd_snoc y ys x
    show (if y = p then ddL y (ys ++ [x]) else y :: ddL y (ys ++ [x])) = (if y = p then ddL y ys else y :: ddL y ys) ++ _
    rw [List.getLast_cons (by simp)]
    split
    · exact ih
    · rw [ih]; rfl
theorem dd_mem : ∀ {p : Row'} {xs : List Row'} {x : Row'}, x ∈ ddL p xs → x ∈ xs
  | _, [], _, h => h
  | p, y :: ys, x, h => by
    unfold ddL at h
    split at h
    · exact List.mem_cons_of_mem _ (dd_mem h)
    · rcases List.mem_cons.mp h with e | h
      · rw [e]; exact List.mem_cons_self
      · exact List.mem_cons_of_mem _ (dd_mem h)
theorem dd_lnk : ∀ {p : Row'} {xs : List Row'}, (∀ (i : Nat) (x y : Row'), (p :: xs)[i]? = some x → (p :: xs)[i + 1]? = some y → y ≠ x → Unl x y) → Lnk (p :: ddL p xs) ∧ (p :: ddL p xs).getLast? = (p :: xs).getLast?
  | p, [], _ => ⟨lnk_one p, rfl⟩
  | p, y :: ys, h => by
    have ih := dd_lnk (p := y) (xs := ys) fun i x z hx hz => h (i + 1) x z hx hz
    unfold ddL
    by_cases e : y = p
    · rw [if_pos e]
      subst e
      refine ⟨ih.1, ih.2.trans ?_⟩
      rw [List.getLast?_cons_cons]
    · rw [if_neg e]
      refine ⟨Lnk.cons (h 0 p y rfl rfl e) ih.1, ?_⟩
      rw [List.getLast?_cons_cons, List.getLast?_cons_cons]
      exact ih.2
/-- hands, by the sizes of their views -/
structure OrdOk (n : Nat) (r : Row') (o : List Nat) : Prop where
  len : o.length = n
  nd : o.Nodup
  lt : ∀ x ∈ o, x < n
  siz : ∀ (i j a b : Nat), i ≤ j → o[i]? = some a → o[j]? = some b → (r.getD a []).length ≤ (r.getD b []).length
/-- the lots of the first hands -/
structure PreOk (o : List Nat) (pre : Nat → List Int) : Prop where
  up : ∀ k, List.Pairwise (· < ·) (pre k)
  mem : ∀ k (x : Int), x ∈ pre k ↔ ∃ a ∈ o.take k, x = ((a : Nat) : Int)
theorem nodup_at {o : List Nat} (h : o.Nodup) {i j a : Nat} (hi : o[i]? = some a) (hj : o[j]? = some a) : i = j := by
  obtain ⟨h1, e1⟩ := List.getElem?_eq_some_iff.mp hi
  obtain ⟨h2, e2⟩ := List.getElem?_eq_some_iff.mp hj
  have := List.pairwise_iff_getElem.mp h
  rcases Nat.lt_trichotomy i j with z | z | z
  · exact absurd (e1.trans e2.symm) (this i j h1 h2 z)
  · exact z
  · exact absurd (e2.trans e1.symm) (this j i h2 h1 z)
theorem mem_take_iff {o : List Nat} {k a : Nat} : a ∈ o.take k ↔ ∃ i, i < k ∧ o[i]? = some a := by
  rw [List.mem_iff_getElem?]
  constructor
  · rintro ⟨i, hi⟩
    rw [List.getElem?_take] at hi
    split at hi
    · exact ⟨i, ‹_›, hi⟩
    · cases hi
  · rintro ⟨i, h1, h2⟩
    exact ⟨i, by rw [List.getElem?_take, if_pos h1]; exact h2⟩
section
variable {n : Nat} {r : Row'} {o : List Nat} {pre : Nat → List Int}
theorem OrdOk.all (O : OrdOk n r o) {a : Nat} (ha : a < n) : ∃ i : Nat, o[i]? = some a ∧ i < n := by
  have : a ∈ o := Classical.byContradiction fun c => by
    have := nodup_le (l := a :: o) (m := List.range n) (List.nodup_cons.mpr ⟨c, O.nd⟩) fun x hx => by
      rcases List.mem_cons.mp hx with e | e
      · rw [e]; exact List.mem_range.mpr ha
      · exact List.mem_range.mpr (O.lt x e)
    rw [List.length_cons, O.len, List.length_range] at this
    omega
  obtain ⟨i, hi⟩ := List.mem_iff_getElem?.mp this
  exact ⟨i, hi, by rw [← O.len]; exact (List.getElem?_eq_some_iff.mp hi).1⟩
theorem OrdOk.get (O : OrdOk n r o) {i : Nat} (hi : i < n) : ∃ a, o[i]? = some a ∧ a < n := by
  have h : i < o.length := by rw [O.len]; exact hi
  exact ⟨o[i], List.getElem?_eq_getElem h, O.lt _ (List.getElem_mem h)⟩
def upR (r : Row') (o : List Nat) (pre : Nat → List Int) : Nat → Row'
  | 0 => r
  | k + 1 => (upR r o pre k).set (o.getD k 0) (pre (k + 1))
def dnR (r : Row') (o : List Nat) (pre : Nat → List Int) (n : Nat) : Nat → Row'
  | 0 => upR r o pre n
  | k + 1 => (dnR r o pre n k).set (o.getD (n - 1 - k) 0) (pre n)
theorem up_len : ∀ k, (upR r o pre k).length = r.length
  | 0 => rfl
  | k + 1 => by unfold upR; rw [List.length_set, up_len k]
theorem dn_len : ∀ k, (dnR r o pre n k).length = r.length
  | 0 => up_len n
  | k + 1 => by unfold dnR; rw [List.length_set, dn_len k]
theorem up_at (O : OrdOk n r o) (hr : r.length = n) : ∀ k, k ≤ n → ∀ i a : Nat, o[i]? = some a → (upR r o pre k)[a]? = if i < k then some (pre (i + 1)) else r[a]?
  | 0, _, i, a, _ => by rw [if_neg (by omega)]; rfl
  | k + 1, hk, i, a, h => by
    have ih := up_at O hr k (by omega) i a h
    obtain ⟨b, hb, hbn⟩ := O.get (i := k) (by omega)
    have eb : o.getD k 0 = b := by rw [List.getD_eq_getElem?_getD, hb]; rfl
    unfold upR
    rw [eb]
    by_cases e : i = k
    · subst e
      rw [h] at hb
      cases hb
      rw [List.getElem?_set_self (by rw [up_len, hr]; exact hbn), if_pos (by omega)]
    · have ne : b ≠ a := fun z => e (nodup_at O.nd h (z ▸ hb))
      rw [List.getElem?_set_ne ne, ih]
      by_cases c : i < k
      · rw [if_pos c, if_pos (by omega)]
      · rw [if_neg c, if_neg (by omega)]
theorem dn_at (O : OrdOk n r o) (hr : r.length = n) : ∀ k, k ≤ n → ∀ i a : Nat, o[i]? = some a → i < n → (dnR r o pre n k)[a]? = some (if i < n - k then pre (i + 1) else pre n)
  | 0, _, i, a, h, hi => by
    unfold dnR
    rw [up_at O hr n (Nat.le_refl n) i a h, if_pos hi, if_pos (by omega)]
  | k + 1, hk, i, a, h, hi => by
    have ih := dn_at O hr k (by omega) i a h hi
    obtain ⟨b, hb, hbn⟩ := O.get (i := n - 1 - k) (by omega)
    have eb : o.getD (n - 1 - k) 0 = b := by rw [List.getD_eq_getElem?_getD, hb]; rfl
    unfold dnR
    rw [eb]
    by_cases e : i = n - 1 - k
    · subst e
      rw [h] at hb
      cases hb
      rw [List.getElem?_set_self (by rw [dn_len, hr]; exact hbn), if_neg (by omega)]
    · have ne : b ≠ a := fun z => e (nodup_at O.nd h (z ▸ hb))
      rw [List.getElem?_set_ne ne, ih]
      by_cases c : i < n - k
      · rw [if_pos c, if_pos (by omega)]
      · rw [if_neg c, if_neg (by omega)]
theorem pre_mono (P : PreOk o pre) {i j : Nat} (h : i ≤ j) : ∀ x ∈ pre i, x ∈ pre j := fun x hx => by
  obtain ⟨a, ha, e⟩ := (P.mem i x).mp hx
  obtain ⟨l, hl, hla⟩ := mem_take_iff.mp ha
  exact (P.mem j x).mpr ⟨a, mem_take_iff.mpr ⟨l, by omega, hla⟩, e⟩
theorem pre_rng (O : OrdOk n r o) (P : PreOk o pre) (k : Nat) : ∀ x ∈ pre k, 0 ≤ x ∧ x < n := fun x hx => by
  obtain ⟨a, ha, e⟩ := (P.mem k x).mp hx
  have := O.lt a (List.mem_of_mem_take ha)
  omega
theorem pre_in (O : OrdOk n r o) (P : PreOk o pre) {i k a : Nat} (h : o[i]? = some a) : ((a : Nat) : Int) ∈ pre k ↔ i < k := by
  rw [P.mem]
  constructor
  · rintro ⟨b, hb, e⟩
    obtain ⟨j, hj, hjb⟩ := mem_take_iff.mp hb
    have e : a = b := by omega
    subst e
    have := nodup_at O.nd h hjb
    omega
  · intro hk
    exact ⟨a, mem_take_iff.mpr ⟨i, hk, h⟩, rfl⟩
theorem RowOk.lenAt (R : RowOk n r) {a : Nat} {l : List Int} (h : r[a]? = some l) : (r.getD a []).length = l.length := by rw [List.getD_eq_getElem?_getD, h]; rfl
/-- the views of hands that come earlier lie in those of later ones -/
theorem earlier (R : RowOk n r) (O : OrdOk n r o) {i j a b : Nat} {l m : List Int} (hij : i ≤ j) (ha : o[i]? = some a) (hb : o[j]? = some b) (hl : r[a]? = some l) (hm : r[b]? = some m) : ∀ x ∈ l, x ∈ m := by
  rcases R.cmp a b l m hl hm with z | z
  · exact z
  · have := O.siz i j a b hij ha hb
    rw [R.lenAt hl, R.lenAt hm] at this
    exact sub_eq (srt_nodup (R.up b m hm)) z (by omega)
theorem pre_sub (R : RowOk n r) (O : OrdOk n r o) (P : PreOk o pre) {k j b : Nat} {m : List Int} (hkj : k ≤ j + 1) (hb : o[j]? = some b) (hm : r[b]? = some m) : ∀ x ∈ pre k, x ∈ m := fun x hx => by
  obtain ⟨a, ha, e⟩ := (P.mem k x).mp hx
  obtain ⟨i, hi, hia⟩ := mem_take_iff.mp ha
  have hla : r[a]? = some (r[a]'(by rw [R.len]; exact O.lt a (List.mem_of_mem_take ha))) := List.getElem?_eq_getElem _
  subst e
  exact earlier R O (by omega) hia hb hla hm _ (R.self a _ hla)
theorem up_ok (R : RowOk n r) (O : OrdOk n r o) (P : PreOk o pre) {k : Nat} (hk : k ≤ n) : RowOk n (upR r o pre k) := by
  have hl : (upR r o pre k).length = n := (up_len k).trans R.len
  have view : ∀ (a : Nat) (l : List Int), (upR r o pre k)[a]? = some l → ∃ i, o[i]? = some a ∧ i < n ∧ ((i < k ∧ l = pre (i + 1)) ∨ (k ≤ i ∧ r[a]? = some l)) := fun a l h => by
    have ha : a < n := by rw [← hl]; exact (List.getElem?_eq_some_iff.mp h).1
    obtain ⟨i, hi, hin⟩ := O.all ha
    refine ⟨i, hi, hin, ?_⟩
    rw [up_at O R.len k hk i a hi] at h
    by_cases c : i < k
    · rw [if_pos c] at h; exact .inl ⟨c, (Option.some.inj h).symm⟩
    · rw [if_neg c] at h; exact .inr ⟨by omega, h⟩
  refine ⟨hl, fun a l h => ?_, fun a l h => ?_, fun a l h => ?_, fun a b l m h h' => ?_, fun a b l m h h' hin => ?_⟩
  · obtain ⟨i, _, _, ⟨_, rfl⟩ | ⟨_, q⟩⟩ := view a l h
    · exact P.up _
    · exact R.up a l q
  · obtain ⟨i, _, _, ⟨_, rfl⟩ | ⟨_, q⟩⟩ := view a l h
    · exact pre_rng O P _
    · exact R.rng a l q
  · obtain ⟨i, hi, _, ⟨_, rfl⟩ | ⟨_, q⟩⟩ := view a l h
    · exact (pre_in O P hi).mpr (by omega)
    · exact R.self a l q
  · obtain ⟨i, hi, _, ⟨c1, rfl⟩ | ⟨c1, q1⟩⟩ := view a l h
    · obtain ⟨j, hj, _, ⟨c2, rfl⟩ | ⟨c2, q2⟩⟩ := view b m h'
      · rcases Nat.le_total (i + 1) (j + 1) with z | z
        · exact .inl (pre_mono P z)
        · exact .inr (pre_mono P z)
      · exact .inl (pre_sub R O P (by omega) hj q2)
    · obtain ⟨j, hj, _, ⟨c2, rfl⟩ | ⟨c2, q2⟩⟩ := view b m h'
      · exact .inr (pre_sub R O P (by omega) hi q1)
      · exact R.cmp a b l m q1 q2
  · obtain ⟨i, hi, _, ⟨c1, rfl⟩ | ⟨c1, q1⟩⟩ := view a l h
    · obtain ⟨j, hj, _, ⟨c2, rfl⟩ | ⟨c2, q2⟩⟩ := view b m h'
      · have := (pre_in O P hi).mp hin
        exact pre_mono P (by omega)
      · exact pre_sub R O P (by omega) hj q2
    · obtain ⟨j, hj, _, ⟨c2, rfl⟩ | ⟨c2, q2⟩⟩ := view b m h'
      · have := (pre_in O P hi).mp hin
        omega
      · exact R.fit a b l m q1 q2 hin
theorem dn_ok (R : RowOk n r) (O : OrdOk n r o) (P : PreOk o pre) {k : Nat} (hk : k ≤ n) : RowOk n (dnR r o pre n k) := by
  have hl : (dnR r o pre n k).length = n := (dn_len k).trans R.len
  have view : ∀ (a : Nat) (l : List Int), (dnR r o pre n k)[a]? = some l → ∃ i, o[i]? = some a ∧ i < n ∧ ((i < n - k ∧ l = pre (i + 1)) ∨ (n - k ≤ i ∧ l = pre n)) := fun a l h => by
    have ha : a < n := by rw [← hl]; exact (List.getElem?_eq_some_iff.mp h).1
    obtain ⟨i, hi, hin⟩ := O.all ha
    refine ⟨i, hi, hin, ?_⟩
    rw [dn_at O R.len k hk i a hi hin] at h
    by_cases c : i < n - k
    · rw [if_pos c] at h; exact .inl ⟨c, (Option.some.inj h).symm⟩
    · rw [if_neg c] at h; exact .inr ⟨by omega, (Option.some.inj h).symm⟩
  refine ⟨hl, fun a l h => ?_, fun a l h => ?_, fun a l h => ?_, fun a b l m h h' => ?_, fun a b l m h h' hin => ?_⟩
  · obtain ⟨i, _, _, ⟨_, rfl⟩ | ⟨_, rfl⟩⟩ := view a l h <;> exact P.up _
  · obtain ⟨i, _, _, ⟨_, rfl⟩ | ⟨_, rfl⟩⟩ := view a l h <;> exact pre_rng O P _
  · obtain ⟨i, hi, hin, ⟨_, rfl⟩ | ⟨_, rfl⟩⟩ := view a l h
    · exact (pre_in O P hi).mpr (by omega)
    · exact (pre_in O P hi).mpr hin
  · have cmp : ∀ u v, (∀ x ∈ pre u, x ∈ pre v) ∨ ∀ x ∈ pre v, x ∈ pre u := fun u v => (Nat.le_total u v).imp (pre_mono P) (pre_mono P)
    obtain ⟨i, hi, _, ⟨_, rfl⟩ | ⟨_, rfl⟩⟩ := view a l h <;> obtain ⟨j, hj, _, ⟨_, rfl⟩ | ⟨_, rfl⟩⟩ := view b m h' <;> exact cmp _ _
  · obtain ⟨i, hi, hi2, ⟨c1, rfl⟩ | ⟨c1, rfl⟩⟩ := view a l h <;> obtain ⟨j, hj, hj2, ⟨c2, rfl⟩ | ⟨c2, rfl⟩⟩ := view b m h'
    · have := (pre_in O P hi).mp hin
      exact pre_mono P (by omega)
    · exact pre_mono P (by omega)
    · have := (pre_in O P hi).mp hin
      omega
    · exact pre_mono P (Nat.le_refl _)
/-- the row of all -/
def fullL (n : Nat) : List Int := (List.range n).map fun (i : Nat) => (i : Int)
theorem fullL_up (n : Nat) : (fullL n).Pairwise (· < ·) := by
  unfold fullL
  rw [List.pairwise_map]
  exact List.pairwise_lt_range.imp fun h => by omega
theorem pre_all (O : OrdOk n r o) (P : PreOk o pre) : pre n = fullL n := by
  refine srt_eq (P.up n) (fullL_up n) fun x => ?_
  rw [P.mem]
  unfold fullL
  rw [List.mem_map, List.take_of_length_le (by rw [O.len]; exact Nat.le_refl _)]
  constructor
  · rintro ⟨a, ha, e⟩
    exact ⟨a, List.mem_range.mpr (O.lt a ha), e.symm⟩
  · rintro ⟨a, ha, e⟩
    obtain ⟨i, hi, _⟩ := O.all (List.mem_range.mp ha)
    exact ⟨a, List.mem_of_getElem? hi, e.symm⟩
theorem dn_all (R : RowOk n r) (O : OrdOk n r o) (P : PreOk o pre) : dnR r o pre n n = List.replicate n (fullL n) := by
  refine List.ext_getElem? fun a => ?_
  by_cases ha : a < n
  · obtain ⟨i, hi, hin⟩ := O.all ha
    rw [dn_at O R.len n (Nat.le_refl n) i a hi hin, if_neg (by omega), List.getElem?_replicate, if_pos ha, pre_all O P]
  · rw [List.getElem?_eq_none (by rw [dn_len, R.len]; omega), List.getElem?_eq_none (by rw [List.length_replicate]; omega)]
/-- all rows on the way -/
def wayR (r : Row') (o : List Nat) (pre : Nat → List Int) (n : Nat) : List Row' := ((List.range n).map fun k => upR r o pre (k + 1)) ++ (List.range n).map fun k => dnR r o pre n (k + 1)
theorem way_len : (wayR r o pre n).length = n + n := by simp [wayR]
theorem way_at {i : Nat} : (r :: wayR r o pre n)[i]? = if i ≤ n then some (upR r o pre i) else if i ≤ n + n then some (dnR r o pre n (i - n)) else none := by
  cases i with
  | zero => rw [if_pos (Nat.zero_le _)]; rfl
  | succ i =>
    rw [List.getElem?_cons_succ]
    unfold wayR
    by_cases h : i < n
    · rw [if_pos (by omega), List.getElem?_append_left (by simp; exact h), List.getElem?_map, List.getElem?_range h]; rfl
    · rw [if_neg (by omega), List.getElem?_append_right (by simp; omega), List.length_map, List.length_range, List.getElem?_map]
      by_cases h2 : i - n < n
      · rw [if_pos (by omega), List.getElem?_range h2, show i + 1 - n = i - n + 1 by omega]; rfl
      · rw [if_neg (by omega), List.getElem?_eq_none (by rw [List.length_range]; omega)]; rfl
def wayOf (r : Row') (o : List Nat) (pre : Nat → List Int) (n : Nat) : List Row' := r :: ddL r (wayR r o pre n)
structure WayOk (n : Nat) (r : Row') (ls : List Row') : Prop where
  ok : ∀ x ∈ ls, RowOk n x
  lnk : Lnk ls
  head : ls.head? = some r
  last : ls.getLast? = some (List.replicate n (fullL n))
  len : ls.length ≤ n + n + 1
theorem way_ok (hn : 0 < n) (R : RowOk n r) (O : OrdOk n r o) (P : PreOk o pre) : WayOk n r (wayOf r o pre n) := by
  have all : ∀ (i : Nat) x, (r :: wayR r o pre n)[i]? = some x → RowOk n x := fun i x h => by
    rw [way_at] at h
    by_cases c : i ≤ n
    · rw [if_pos c] at h
      rw [← Option.some.inj h]
      exact up_ok R O P c
    · rw [if_neg c] at h
      by_cases c2 : i ≤ n + n
      · rw [if_pos c2] at h
        rw [← Option.some.inj h]
        exact dn_ok R O P (by omega)
      · rw [if_neg c2] at h; cases h
  have near : ∀ (i : Nat) (x y : Row'), (r :: wayR r o pre n)[i]? = some x → (r :: wayR r o pre n)[i + 1]? = some y → y ≠ x → Unl x y := fun i x y hx hy ne => by
    rw [way_at] at hx hy
    by_cases c : i + 1 ≤ n
    · rw [if_pos (by omega)] at hx
      rw [if_pos c] at hy
      rw [← Option.some.inj hx, ← Option.some.inj hy] at ne ⊢
      exact near_set ne
    · rw [if_neg c] at hy
      by_cases c2 : i + 1 ≤ n + n
      · rw [if_pos c2] at hy
        have e : x = dnR r o pre n (i - n) := by
          by_cases c3 : i ≤ n
          · rw [if_pos c3] at hx
            have : i = n := by omega
            subst this
            rw [Nat.sub_self]
            exact (Option.some.inj hx).symm
          · rw [if_neg c3, if_pos (by omega)] at hx
            exact (Option.some.inj hx).symm
        have e2 : i + 1 - n = i - n + 1 := by omega
        rw [e2] at hy
        rw [e, ← Option.some.inj hy] at ne ⊢
        exact near_set ne
      · rw [if_neg c2] at hy; cases hy
  obtain ⟨h1, h2⟩ := dd_lnk near
  refine ⟨fun x hx => ?_, h1, rfl, h2.trans ?_, ?_⟩
  · have : x ∈ r :: wayR r o pre n := by
      rcases List.mem_cons.mp hx with e | e
      · rw [e]; exact List.mem_cons_self
      · exact List.mem_cons_of_mem _ (dd_mem e)
    obtain ⟨i, hi⟩ := List.mem_iff_getElem?.mp this
    exact all i x hi
  · rw [List.getLast?_eq_getElem?, way_at, List.length_cons, way_len, if_neg (by omega), if_pos (by omega), ← dn_all R O P]
    congr 2
    omega
  · have dl : ∀ (p : Row') (xs : List Row'), (ddL p xs).length ≤ xs.length := fun p xs => by
      induction xs generalizing p with
      | nil => exact Nat.le_refl _
      | cons a t ih =>
        unfold ddL
        have := ih a
        split
        · rw [List.length_cons]; omega
        · rw [List.length_cons, List.length_cons]; omega
    have := dl r (wayR r o pre n)
    rw [way_len] at this
    show (ddL r (wayR r o pre n)).length + 1 ≤ _
    omega
end
/-- a chain of rows -/
structure ChOk (n : Nat) (a b : Row') (ls : List Row') : Prop where
  ok : ∀ x ∈ ls, RowOk n x
  lnk : Lnk ls
  head : ls.head? = some a
  last : ls.getLast? = some b
theorem ways_ch {n : Nat} {a b : Row'} {ls ms : List Row'} (h : WayOk n a ls) (g : WayOk n b ms) : ChOk n a b (ls ++ ms.dropLast.reverse) := by
  rcases List.eq_nil_or_concat ls with rfl | ⟨l0, z, e1⟩
  · have := h.head; cases this
  rcases List.eq_nil_or_concat ms with rfl | ⟨m0, y, e2⟩
  · have := g.head; cases this
  rw [List.concat_eq_append] at e1 e2
  subst e1 e2
  have ez : z = List.replicate n (fullL n) := by have := h.last; simpa using this
  have ey : y = List.replicate n (fullL n) := by have := g.last; simpa using this
  have eyz : y = z := ey.trans ez.symm
  subst eyz
  have ed : (m0 ++ [y]).dropLast = m0 := by simp
  rw [ed]
  have hr := g.lnk.rev
  rw [List.reverse_append] at hr
  refine ⟨fun x hx => ?_, Lnk.app h.lnk hr, ?_, ?_⟩
  · rcases List.mem_append.mp hx with q | q
    · exact h.ok x q
    · exact g.ok x (List.mem_append_left _ (List.mem_reverse.mp q))
  · rw [List.head?_append, h.head]; rfl
  · rw [List.getLast?_append, List.getLast?_reverse]
    cases m0 with
    | nil =>
      have := g.head
      simp at this
      subst this
      simp
    | cons c t =>
      have := g.head
      simp at this
      subst this
      simp
end Fp
/-! sorted(xs), xs a list of tuples of integers of any lengths, none of them empty -/
namespace SrtO
open PySem PyProof.Rows Srt
section
variable {prog : Program} {w : World} {A : Around} {E : Value → Shared → Prop} {s : Shared}
theorem lots_lex {b fin : Bool} {Q : Bool → Shared → Prop} {xs ys : List Value} {ns ms : List Int} (i : Nat) (hx : IntsAre xs ns) (hy : IntsAre ys ms) (hf : fin = decide (xs.length < ys.length)) (h : Q (HT.lexLt ns ms) s) :
    PySem.W.KatLex prog w A b fin Q (xs.zip ys) i s := by
  induction hx generalizing ys ms i with
  | nil =>
    cases hy with
    | nil =>
      rw [show fin = false from hf.trans (decide_eq_false (by simp))]
      exact PySem.W.kat_nil h
    | cons q u hy =>
      rw [show fin = true from hf.trans (decide_eq_true (by simp))]
      exact PySem.W.kat_nil h
  | @cons p t xs ns hx ih =>
    cases hy with
    | nil =>
      rw [show fin = false from hf.trans (decide_eq_false (by simp))]
      exact PySem.W.kat_nil h
    | @cons q u ys ms hy =>
      show PySem.W.KatLex prog w A b fin Q ((Value.int p t, Value.int q u) :: xs.zip ys) i s
      rw [HT.lexLt_cons] at h
      refine PySem.W.kat_cons (wpAny_eqBool_int ?_)
      by_cases e : p = q
      · subst e
        rw [beq_self_eq_true]
        rw [if_pos rfl] at h
        refine PySem.W.kat_yes ?_
        exact ih (i + 1) hy (by simpa using hf) h
      · rw [show (p == q) = false from beq_eq_false_iff_ne.mpr e]
        rw [if_neg e] at h
        exact PySem.W.kat_no (TS.oneLt_ints _ h)
/-- v is a tuple of these integers -/
def IsLot (h : Heap) (v : Value) (ns : List Int) : Prop := ∃ (a : Addr) (o : Obj) (its : List Value) (n : Nat), v = .ref a ∧ h.get? a = some o ∧ o.cls = .type "tuple" ∧ o.data = .seq its.toArray n ∧ IntsAre its ns
theorem IsLot.keeps {h h' : Heap} {v : Value} {ns : List Int} (x : IsLot h v ns) (k : ∀ b o, h.get? b = some o → o.cls = .type "tuple" → h'.get? b = some o) : IsLot h' v ns := by
  obtain ⟨a, o, its, n, e, ho, hc, hd, hi⟩ := x
  exact ⟨a, o, its, n, e, k _ _ ho hc, hc, hd, hi⟩
theorem lot_cmp {vs : List Value} {k : Value → List Int} (hp : ∀ v ∈ vs, IsLot s.heap v (k v)) : Cmp prog w A s (tuples' true) (fun p => p.1 ∈ vs) (lt2 fun v u => HT.lexLt (k v) (k u)) := by
  intro p q hm hm'
  obtain ⟨a, o, its, n, e, ho, hc, hd, hi⟩ := hp _ hm
  obtain ⟨a', o', its', n', e', ho', hc', hd', hi'⟩ := hp _ hm'
  show wpAny (model prog w) A (keyLt' (tuples' true) p.1 q.1) (fun r s' => s' = s ∧ r = HT.lexLt (k p.1) (k q.1)) (fun _ _ => False) s
  rw [e] at hi ⊢
  rw [e'] at hi' ⊢
  refine PySem.W.kat_lt ho hd ho' hd' ?_
  exact lots_lex 0 hi hi' (by simp) ⟨rfl, rfl⟩
theorem lots_firsts : ∀ {vs : List Value} {k : Value → List Int}, (∀ v ∈ vs, IsLot s.heap v (k v) ∧ k v ≠ []) → ∃ fs, PySem.W.KatTups s.heap vs fs ∧ fs.length = vs.length ∧ ∀ f ∈ fs, ∃ x t, f = Value.int x t
  | [], _, _ => ⟨[], .nil, rfl, fun f hf => by cases hf⟩
  | v :: vs, k, h => by
    obtain ⟨fs, h1, h2, h3⟩ := lots_firsts fun u hu => h u (List.mem_cons_of_mem _ hu)
    obtain ⟨⟨a, o, its, n, e, ho, hc, hd, hi⟩, hne⟩ := h v List.mem_cons_self
    generalize k v = ns at hi hne
    cases hi with
    | nil => exact absurd rfl hne
    | @cons p t xs ns hx =>
      rw [e]
      refine ⟨.int p t :: fs, PySem.W.KatTups.cons ho hc hd (by simp) h1, by rw [List.length_cons, List.length_cons, h2], fun f hf => ?_⟩
      rcases List.mem_cons.mp hf with z | z
      · exact ⟨p, t, z⟩
      · exact h3 f z
theorem lots_sortableO {a : Addr} {vs : List Value} {k : Value → List Int} (h0 : 0 < vs.length) (hp : ∀ v ∈ vs, IsLot s.heap v (k v) ∧ k v ≠ []) (ha : ∀ o, s.heap.get? a = some o → o.cls ≠ .type "tuple") : SortableO prog w A s a vs fun v u => HT.lexLt (k v) (k u) := by
  intro h' keep
  have hp' : ∀ v ∈ vs, IsLot h' v (k v) ∧ k v ≠ [] := fun v hm => ⟨(hp v hm).1.keeps fun b o e c => keep b o (fun z => by subst z; exact ha o e c) e, (hp v hm).2⟩
  obtain ⟨fs, h1, h2, h3⟩ := lots_firsts (s := { s with heap := h' }) hp'
  refine ⟨tuples' true, fun Q E hq => ?_, lot_cmp (s := { s with heap := h' }) fun v hm => (hp' v hm).1⟩
  refine PySem.W.kat_kind (T := .type "int") h1 (by omega) (fun f hm => ?_) (by rfl) ?_
  · obtain ⟨x, t, rfl⟩ := h3 f hm
    exact PySem.W.Looks.now
  · have e : (Value.type "int" != Value.type "tuple") = true := by first | decide +kernel | rfl | decide
    rw [e]
    exact hq
/-- sorted(l) of such tuples: sorted by their integers, stable -/
theorem sorted_lotsO {l : Addr} {vs : List Value} {k : Value → List Int} {Q : Value → Shared → Prop} (hl : s.heap.IsList l vs.toArray) (hz : vs.length ≤ sizeLine) (hp : ∀ v ∈ vs, IsLot s.heap v (k v) ∧ k v ≠ [])
    (h : ∀ (h' : Heap) (d : Addr) (out : List Value), Srtd (fun v u => HT.lexLt (k v) (k u)) out → Stb (fun v u => HT.lexLt (k v) (k u)) out vs → (∀ b o, s.heap.get? b = some o → h'.get? b = some o) → s.heap.objs.size ≤ d → (∃ n, h'.get? d = some (seqObj "list" out.toArray n)) → Q (.ref d) { s with heap := h' }) :
    wpAny (model prog w) A (call (.builtin "sorted") [.ref l]) Q E s := by
  refine sorted_ord (NtL.swo_lexL k) hl hz (fun h2 h₁ a ha kk => ?_) fun out hs hb => ?_
  · refine lots_sortableO (s := { s with heap := h₁ }) (by omega) (fun v hm => ⟨(hp v hm).1.keeps fun b o e _ => (kk b o e).2, (hp v hm).2⟩) fun o e => ?_
    have e' : some o = some (seqObj "list" vs.toArray 0) := e.symm.trans ha
    cases e'
    intro c
    exact absurd (Value.type.inj c) (by decide)
  · exact h _ _ out hs hb (fun b o e => sortedAll_old e) (Nat.le_succ _) (sortedAll_at s.heap vs out.toArray)
end
end SrtO
namespace L2
open PySem PySem.Spec PyProof.Rows
/-- x before y: by their integers -/
abbrev ltL (k : V → List Int) (x y : V) : Bool := HT.lexLt (k x) (k y)
/-- sorted(xs), xs a list of tuples of integers, none empty (k says which): a new list, sorted, equal ones in their order -/
def rSortedLO (K : PySem.W.Frag) : List V → Hp → VK → Prop := fun vs H Q => ∃ (a : Addr) (xs : List V) (k : V → List Int), vs = [V.ref a] ∧ SqL K H a xs ∧ (∀ x ∈ xs, ∃ t, x = V.ref t ∧ H t = some (.tup ((k x).map V.int)) ∧ k x ≠ []) ∧
  ∀ ys p, SrtO.Srtd (ltL k) ys → SrtO.Stb (ltL k) ys xs → H p = none → Q (.ref p) (upd H p (.lst ys))
section
variable {X : Cx}
theorem cr_sortedLO : CallR X (.builtin "sorted") (rSortedLO X.K) := by
  intro pins s σ H vs us Q I r h
  obtain ⟨a, xs, k, rfl, hs, hx, q⟩ := h
  obtain ⟨its, rv, hl, hz⟩ := I.list hs
  obtain ⟨u, rfl, ru⟩ := vals1 r
  obtain rfl : u = Value.ref a := ru
  obtain ⟨e1, e2⟩ := refs_back rv fun x m => by
    obtain ⟨t, e, _⟩ := hx x m
    exact ⟨t, e⟩
  refine SrtO.sorted_lotsO (k := fun u => k (backV u)) hl.isList (by rw [← rv.length]; exact hz) (fun v hv => ?_) fun h' d out h1 h2 kp hd hn => ?_
  · obtain ⟨t, rfl⟩ := e2 v hv
    have hm : V.ref t ∈ xs := by rw [e1]; exact List.mem_map.mpr ⟨_, hv, rfl⟩
    obtain ⟨t', e, ht, hne⟩ := hx _ hm
    cases e
    obtain ⟨_, its2, r2, o, ho, hc, n, hd⟩ := I.hok _ _ ht
    exact ⟨⟨t, o, its2, n, rfl, ho, hc, hd, Fp.ints_vals r2⟩, hne⟩
  · have h3 : ∀ u ∈ out, ∃ a, u = Value.ref a := fun u hu => e2 u (h2.perm.mem_iff.mp hu)
    obtain ⟨n, hn⟩ := hn
    have hb : SrtO.Stb (ltL k) (out.map backV) xs := by
      rw [e1]
      exact SrtO.Stb.map (NtL.swo_lexL k) backV h2
    refine ⟨.ref d, upd H d (.lst (out.map backV)), I.laid (t' := s.toks) kp hd ⟨?_, out, n, vals_back h3, hn⟩, rfl, q _ d (SrtO.srtd_map h1) hb (I.hok.fresh hd)⟩
    rw [hb.len]
    exact hz
end
end L2
/-! sorted(set of tuples of integers of any lengths); sorted(xs, key=len), with reverse=True too -/
namespace L2
open PySem PySem.Spec PyProof.Rows
theorem perm_mapF {α β : Type} {f : α → β} {vs ws : List β} (h : vs.Perm ws) : ∀ {L : List α}, ws = L.map f → ∃ M : List α, M.Perm L ∧ vs = M.map f := by
  induction h with
  | nil => intro L e; exact ⟨L, List.Perm.refl _, e⟩
  | cons x h ih =>
    intro L e
    cases L with
    | nil => cases e
    | cons y L =>
      rw [List.map_cons] at e
      injection e with e1 e2
      obtain ⟨M, hp, em⟩ := ih e2
      exact ⟨y :: M, hp.cons y, by rw [List.map_cons, ← e1, ← em]⟩
  | swap x y l =>
    intro L e
    match L, e with
    | [], e => cases e
    | [z], e => cases e
    | z :: u :: L, e =>
      rw [List.map_cons, List.map_cons] at e
      injection e with e1 e2
      injection e2 with e2 e3
      exact ⟨u :: z :: L, List.Perm.swap _ _ _, by rw [List.map_cons, List.map_cons, ← e1, ← e2, ← e3]⟩
  | trans h1 h2 ih1 ih2 =>
    intro L e
    obtain ⟨M, pm, em⟩ := ih2 e
    obtain ⟨N, pn, en⟩ := ih1 em
    exact ⟨N, pn.trans pm, en⟩
section
variable {P : Program} {w : World} {A : Around} {E : Value → Shared → Prop} {s : Shared}
/-- sorted(set) of such tuples, none of them empty -/
theorem sorted_setL {u : Addr} {L : List (Addr × List Int)} {rows : Array (Int × Value)} {ep : Nat} {tb : SetTable} {Q : Value → Shared → Prop} (R : SetTR P w s.heap u L rows ep tb) (hh : A.handled = none) (hne : ∀ p ∈ L, p.2 ≠ [])
    (hQ : ∀ z d (out : Array Value) (c : Nat) (M : List (Addr × List Int)), (∀ b o, s.heap.get? b = some o → z.heap.get? b = some o) → z.gens = s.gens → z.os = s.os → s.heap.objs.size ≤ d →
      z.heap.get? d = some (seqObj "list" out c) → out.toList = M.map (fun q => Value.ref q.1) → M.Perm L → M.Pairwise (fun q r => HT.lexLt r.2 q.2 = false) → Q (.ref d) z) :
    wpAny (model P w) A (call (.builtin "sorted") [.ref u]) Q E s := by
  obtain ⟨o, hob, hex, hdt⟩ := R.ob
  have few := R.few
  have size := R.size
  refine Calls.call_function_entry kind_sorted plain_sorted entry_sorted (args_sorted1 _) ?_
  unfold Builtin.«sorted»
  refine wpAny_bind (m := checkCount "sorted" 1 1 _) (wpAny_pure ?_)
  refine wpAny_bind (collect_set (A := A.in1) hh ⟨o, hob, hex.1, hdt⟩ R.fits (by unfold scanBound; omega) R.tab.ris R.led fun z got kp hz hg ho pm => ?_)
  have er : rows.toList.map (·.2) = L.map fun q => Value.ref q.1 := by
    have e := R.rows
    unfold rowsOf at e
    rw [e, List.map_map]; rfl
  obtain ⟨M, pM, eM⟩ := perm_mapF pm er
  have gl : got.length < 64 := by rw [eM, List.length_map, pM.length_eq]; exact few
  have gz : got.length ≤ sizeLine := by rw [sizeLine_eq]; omega
  refine wpAny_bind (wpAny_newList ?_ gz)
  have hLst : (z.heap.push (seqObj "list" got.toArray 0)).get? z.heap.objs.size = some (seqObj "list" got.toArray 0) := Heap.get?_push_size _ rfl
  have keep : ∀ b o, s.heap.get? b = some o → b ≠ z.heap.objs.size ∧ (z.heap.push (seqObj "list" got.toArray 0)).get? b = some o := fun b o e => by
    have e2 := kp b o e
    exact ⟨Nat.ne_of_lt (Heap.lt_size e2), Heap.get?_push_of_some _ e2⟩
  have ti : ∀ q ∈ L, TS.TupInts (z.heap.push (seqObj "list" got.toArray 0)) (.ref q.1) q.2 := fun q hq => tupInts_of (P := P) (w := w) (isT_keep (R.tup q hq) fun b o e => (keep b o e).2)
  have lot : ∀ v ∈ got, SrtO.IsLot (z.heap.push (seqObj "list" got.toArray 0)) v (TS.intsOf (z.heap.push (seqObj "list" got.toArray 0)) v) ∧ TS.intsOf (z.heap.push (seqObj "list" got.toArray 0)) v ≠ [] := fun v hv => by
    rw [eM] at hv
    obtain ⟨q, hq, rfl⟩ := List.mem_map.mp hv
    have hq := pM.mem_iff.mp hq
    have t := ti q hq
    rw [t.ints]
    obtain ⟨a, xs, e, ⟨o, ho, hc, n, hd⟩, hi⟩ := t
    exact ⟨⟨a, o, xs.toList, n, e, ho, hc, by rw [hd], hi⟩, hne q hq⟩
  refine wpAny_bind (wpAny_holding (wpAny_call_entry slot_list_sort ⟨_, hLst, rfl⟩ entry_list_sort (SrtO.list_sort_ord (s := { z with heap := z.heap.push (seqObj "list" got.toArray 0) }) (NtL.swo_lexL fun v => TS.intsOf (z.heap.push (seqObj "list" got.toArray 0)) v) hLst gz (fun h2 => ?_) fun out h1 hb => ⟨_, rfl, ?_⟩) (args_list_sort _)))
  · refine SrtO.lots_sortableO (s := { z with heap := z.heap.push (seqObj "list" got.toArray 0) }) (by omega) lot fun o e => ?_
    have e' : some o = some (seqObj "list" got.toArray 0) := e.symm.trans hLst
    cases e'
    intro c
    exact absurd (Value.type.inj c) (by decide)
  · obtain ⟨c, hc⟩ := sortedHeap_at (vs := got) (out := out.toArray) hLst
    obtain ⟨N, pN, eN⟩ := perm_mapF hb.perm eM
    refine wpAny_pure ⟨_, rfl, hQ _ z.heap.objs.size out.toArray c N (fun b o e => ?_) hg ho hz hc (by simpa using eN) (pN.trans pM) ?_⟩
    · obtain ⟨n1, e2⟩ := keep b o e
      exact (sortedHeap_old n1 (Heap.lt_size e2)).trans e2
    · have h1' : out.Pairwise (fun a b => HT.lexLt (TS.intsOf (z.heap.push (seqObj "list" got.toArray 0)) b) (TS.intsOf (z.heap.push (seqObj "list" got.toArray 0)) a) = false) := h1
      rw [eN] at h1'
      refine List.Pairwise.imp_of_mem (fun {q r} hq hr hle => ?_) (List.pairwise_map.mp h1')
      rw [(ti q ((pN.trans pM).mem_iff.mp hq)).ints, (ti r ((pN.trans pM).mem_iff.mp hr)).ints] at hle
      exact hle
end
/-- sorted(set of lots) -/
def rSortedSL (K : PySem.W.Frag) (P : Program) (w : World) : List V → Hp → VK → Prop := fun vs H Q => ∃ (a : Addr) (L : List (Addr × List Int)), vs = [V.ref a] ∧ H a = some (SetTO P w a L) ∧ (∀ p ∈ L, SqT K H p.1 (p.2.map V.int)) ∧ (∀ p ∈ L, p.2 ≠ []) ∧
  ∀ (M : List (Addr × List Int)) (p : Addr), M.Perm L → (M.map (·.2)).Nodup → M.length < 64 → M.Pairwise (fun q r => HT.lexLt r.2 q.2 = false) → H p = none → Q (.ref p) (upd H p (.lst (M.map fun q => V.ref q.1)))
section
variable {X : Cx}
theorem cr_sortedSL (hc : X.calm = true) : CallR X (.builtin "sorted") (rSortedSL X.K X.prog X.w) := by
  intro pins s σ H vs us Q I r h
  obtain ⟨a, L, rfl, ha, hk, hne, q⟩ := h
  have R0 : SetT0 X.prog X.w s.heap a L := (I.hok a _ ha).1
  obtain ⟨rows, ep, tb, R⟩ := R0.full fun p hp => I.isT (hk p hp)
  rw [Vals.ref1 r]
  refine sorted_setL R (I.ok.hd hc) hne fun z d out c M kp hg ho hd hout ho2 pm pw => ?_
  have few : M.length < 64 := by rw [pm.length_eq]; exact R.few
  have hl : (M.map fun q => V.ref q.1).length ≤ sizeLine := by rw [List.length_map, sizeLine_eq]; omega
  have nd : H d = none := I.hok.fresh hd
  have rv : Vals (M.map fun q => V.ref q.1) out.toList := by rw [ho2]; exact vals_of_refs M
  have J : Inv X pins σ (upd H d (.lst (M.map fun q => V.ref q.1))) { s with heap := z.heap, gens := z.gens, drawn := z.drawn, toks := z.toks } :=
    I.call (ch := []) (Un.laid kp hd nd) (I.hok.laid kp hd ⟨hl, out.toList, c, rv, hout⟩) (by rw [hg]; exact I.bare) (fun _ n => nomatch n)
  have ez : z = { s with heap := z.heap, gens := z.gens, drawn := z.drawn, toks := z.toks } := by
    cases z
    cases s
    cases ho
    rfl
  rw [ez]
  exact ⟨.ref d, _, J, rfl, q M d pm ((pm.map (·.2)).nodup_iff.mpr R.nd) few pw nd⟩
end
end L2
namespace L2
open PySem PySem.Spec PyProof.Rows PySem.W
def lenLe (b : Bool) (n : V → Int) (x y : V) : Bool := if b = true then decide (n y ≤ n x) else decide (n x ≤ n y)
theorem vals_of_each {out : List Value} {ys : List V} (h : EachIs (fun v x => RelV x v) out ys) : Vals ys out := by
  induction h with
  | nil => exact .nil
  | cons h _ ih => exact .cons h ih
theorem each_of_vals {out : List Value} {ys : List V} (h : Vals ys out) : EachIs (fun v x => RelV x v) out ys := by
  induction h with
  | nil => exact .nil
  | cons h _ ih => exact .cons h ih
theorem ints_alike {α : Type} (n : α → Int) (l : List α) : AllAlike (l.map fun x => PyData.int (n x)) := fun d hd d' hd' => by
  obtain ⟨x, _, rfl⟩ := List.mem_map.mp hd
  obtain ⟨y, _, rfl⟩ := List.mem_map.mp hd'
  rfl
section
variable {X : Cx}
/-- sorted(xs, key=len ..), xs a list of tuples -/
theorem sorted_len_run {kw : List (Str × Value)} {b : Bool} {pins : List (Addr × Obj)} {s : Shared} {σ : L2.St} {H : Hp} {a : Addr} {xs : List V} {n : V → Int} {Q : VK} (I : Inv X pins σ H s) (hs : SqL X.K H a xs)
    (hx : ∀ x ∈ xs, ∃ t ys, x = V.ref t ∧ SqT X.K H t ys ∧ n x = ((ys.length : Nat) : Int)) (hu : X.A.units + 64 < cLine)
    (h1 : argsOk "sorted" ⟨[.ref a], kw⟩) (h2 : ∀ x, argsOk "list.sort" ⟨[.ref x], kw⟩) (h3 : ∀ x, Builtin.«list.sort» ⟨[.ref x], kw⟩ = ksk_tree x (.builtin "len") b)
    (q : ∀ p, H p = none → Q (.ref p) (upd H p (.lst (xs.mergeSort (lenLe b n))))) : wpAny (model X.prog X.w) X.A (call (.builtin "sorted") [.ref a] kw) (EP X pins σ Q) X.xe s := by
  obtain ⟨its, rv, hl, hz⟩ := I.list hs
  have hle : dataLe b (fun x => PyData.int (n x)) = lenLe b n := by
    cases b with
    | true => exact dataGe_int n
    | false => exact dataLe_int n
  refine sorted_key_data (b := b) (fun x : V => PyData.int (n x)) hl.isList (each_of_vals rv) (ints_alike n xs) (.inr fun d hd => ?_) hz (fun x _ => ?_) h1 h2 h3 (fun v x hr hxm h tk kp => ?_) fun out c h' tk kp _ hD hlen eo => ?_
  · obtain ⟨x, _, rfl⟩ := List.mem_map.mp hd
    exact ⟨fun z => (by cases z), fun ys z => (by cases z)⟩
  · have : (PyData.int (n x)).depth ≤ 1 := by simp [PyData.depth]
    omega
  · obtain ⟨t, ys, rfl, hq, hn⟩ := hx x hxm
    obtain rfl : v = Value.ref t := hr
    obtain ⟨us, rv2, pl, hz2⟩ := I.tuple hq
    obtain ⟨o, ho, hc, m, hd⟩ := pl
    have hl2 := rv2.length
    have hsz := sizeLine_eq
    refine len_tuple (items := us.toArray) ⟨o, kp _ _ ho, hc, m, hd⟩ (by rw [List.size_toArray]; omega) ⟨h, _, rfl, fun _ _ e => e, ?_⟩
    have e : n (V.ref t) = ((us.toArray.size : Nat) : Int) := by rw [hn, List.size_toArray, hl2]
    show Reads h _ (PyData.int (n (V.ref t))) []
    rw [e]
    exact .int _ _
  · rw [hle] at eo
    have r2 := vals_of_each eo
    have nd : H (s.heap.objs.size + 1) = none := I.hok.fresh (Nat.le_succ _)
    refine ⟨.ref (s.heap.objs.size + 1), _, I.laid (t' := tk) kp (Nat.le_succ _) (show ObjOk X.prog X.w _ h' _ (.lst (xs.mergeSort (lenLe b n))) from ⟨?_, out, c, r2, hD⟩), rfl, q _ nd⟩
    rw [List.length_mergeSort]; exact hz
end
def tSortedLen (K : PySem.W.Frag) (b : Bool) (t : TA) : TE := fun σ H Q => t σ H fun vs H1 => ∃ (a : Addr) (xs : List V) (n : V → Int), vs = [.ref a] ∧ SqL K H1 a xs ∧ (∀ x ∈ xs, ∃ t ys, x = V.ref t ∧ SqT K H1 t ys ∧ n x = ((ys.length : Nat) : Int)) ∧
  ∀ p, H1 p = none → Q (.ref p) (upd H1 p (.lst (xs.mergeSort (lenLe b n))))
section
variable {X : Cx} {p q r pos k1 k2 : Pos} {e : Expr} {t : TA} {b : Bool} {j : Nat}
theorem pe_sortedLen (hu : X.A.units + 64 < cLine) (hg : Gl X "sorted") (hm : X.mg "sorted" = none) (hg2 : Gl X "len") (hm2 : X.mg "len" = none) (ha : PA X [e] t)
    (he : backTo pos (starEach [e] X.env) = (false, eval e X.env) :: backTo pos (starEach [] X.env) := by rfl) (hpl : (backTo pos (starEach [e] X.env)).any (·.1) = false := by rfl)
    (hall : (backToKw pos (keywordEach [⟨some "key", .Name "len" q, k1⟩] X.env)).all (·.1.isSome) = true := by rfl) (hnone : (backToKw pos (keywordEach [⟨some "key", .Name "len" q, k1⟩] X.env)).any (·.1.isNone) = false := by rfl)
    (hks : (backToKw pos (keywordEach [⟨some "key", .Name "len" q, k1⟩] X.env)).filterMap (·.1) = [Str.ofString "key"] := by rfl) :
    PE X (.Call (.Name "sorted" p) [e] [⟨some "key", .Name "len" q, k1⟩] pos) (tSortedLen X.K false t) := by
  refine ⟨fun pins s σ H Q I h => ?_⟩
  refine wpAny_Call_Name_kw (ld_blt I hg hm (by rfl : bootBuiltins "sorted" = some (.builtin "sorted")) ?_)
  refine PyProof.Rows.callWith_kw (thn (ha.run pos pins s σ H _ I h) fun us s1 ⟨vs, H1, I1, r1, q1⟩ => ?_) he hpl hall hnone
  show wpAny _ _ (evalAll ((do let v ← eval (.Name "len" q) X.env; standAt pos; pure v) :: ((backToKw pos (keywordEach [] X.env)).map (·.2)))) _ _ s1
  refine wpAny_evalAll_cons (wpAny_bind (ld_blt I1 hg2 hm2 (by rfl : bootBuiltins "len" = some (.builtin "len")) (wpAny_bind (wpAny_standAt (wpAny_pure ?_)))))
  refine wpAny_evalAll_nil ?_
  rw [hks]
  obtain ⟨a, xs, n, rfl, hs, hx, k⟩ := q1
  obtain rfl := Vals.ref1 r1
  exact sorted_len_run I1 hs hx hu (ksk_s1 _ _) (fun _ => ksk_l1 _ _) (fun _ => ksk_t4 _ _) k
theorem pe_sortedLenR (hu : X.A.units + 64 < cLine) (hg : Gl X "sorted") (hm : X.mg "sorted" = none) (hg2 : Gl X "len") (hm2 : X.mg "len" = none) (ha : PA X [e] t)
    (he : backTo pos (starEach [e] X.env) = (false, eval e X.env) :: backTo pos (starEach [] X.env) := by rfl) (hpl : (backTo pos (starEach [e] X.env)).any (·.1) = false := by rfl)
    (hall : (backToKw pos (keywordEach [⟨some "key", .Name "len" q, k1⟩, ⟨some "reverse", .Constant (.bool b) j r, k2⟩] X.env)).all (·.1.isSome) = true := by rfl) (hnone : (backToKw pos (keywordEach [⟨some "key", .Name "len" q, k1⟩, ⟨some "reverse", .Constant (.bool b) j r, k2⟩] X.env)).any (·.1.isNone) = false := by rfl)
    (hks : (backToKw pos (keywordEach [⟨some "key", .Name "len" q, k1⟩, ⟨some "reverse", .Constant (.bool b) j r, k2⟩] X.env)).filterMap (·.1) = [Str.ofString "key", Str.ofString "reverse"] := by rfl) :
    PE X (.Call (.Name "sorted" p) [e] [⟨some "key", .Name "len" q, k1⟩, ⟨some "reverse", .Constant (.bool b) j r, k2⟩] pos) (tSortedLen X.K b t) := by
  refine ⟨fun pins s σ H Q I h => ?_⟩
  refine wpAny_Call_Name_kw (ld_blt I hg hm (by rfl : bootBuiltins "sorted" = some (.builtin "sorted")) ?_)
  refine PyProof.Rows.callWith_kw (thn (ha.run pos pins s σ H _ I h) fun us s1 ⟨vs, H1, I1, r1, q1⟩ => ?_) he hpl hall hnone
  show wpAny _ _ (evalAll ((do let v ← eval (.Name "len" q) X.env; standAt pos; pure v) :: (do let v ← eval (.Constant (.bool b) j r) X.env; standAt pos; pure v) :: ((backToKw pos (keywordEach [] X.env)).map (·.2)))) _ _ s1
  refine wpAny_evalAll_cons (wpAny_bind (ld_blt I1 hg2 hm2 (by rfl : bootBuiltins "len" = some (.builtin "len")) (wpAny_bind (wpAny_standAt (wpAny_pure ?_)))))
  refine wpAny_evalAll_cons (wpAny_bind (Constant_bool (wpAny_bind (wpAny_standAt (wpAny_pure ?_)))))
  refine wpAny_evalAll_nil ?_
  rw [hks]
  obtain ⟨a, xs, n, rfl, hs, hx, k⟩ := q1
  obtain rfl := Vals.ref1 r1
  exact sorted_len_run I1 hs hx hu (ksk_s2 _ _ _) (fun _ => ksk_l2 _ _ _) (fun _ => ksk_t5 _ _ _) k
end
end L2
namespace Fp
open PySem PySem.Spec PyProof.Rows L2
section
variable {J : It} {n : Nat} {G : Hp → Prop} {Y : Nat → Hp → V → Hp → Prop}
/-- a comprehension of things, each told by a relation that stays; of each item one thing or none -/
theorem lc_rel {α : Type} (w : Walk J n G Y) (R : Hp → V → α → Prop) (ms : Nat → List α) {g : TG} {tt : L2.TT} {te : TE} {vs : List Nat} {σ : L2.St} {H1 : Hp} {D : Addr} {Qd : Hp → Prop} (hD : H1 D = none) (hn : n < 10000000) (h1 : ∀ i, (ms i).length ≤ 1)
    (hst : ∀ H H' v a, Same H H' → R H v a → R H' v a) (hpt : ∀ H v a us zs, H D = some (.lst us) → R H v a → R (upd H D (.lst zs)) v a) (hG : ∀ H, Same H1 H → G H)
    (hs : ∀ i x H H', i < n → Same H1 H → Y i H x H' → ∀ (Q4 : VK) (N : Hp → Prop), (∀ a y H4, ms i = [a] → Same H H4 → R H4 y a → Q4 y H4) → (ms i = [] → ∀ H4, Same H H4 → N H4) →
      g x (wipe σ vs) H' fun σ2 H2 => wipe σ2 vs = wipe σ vs ∧ tt σ2 H2 fun b H3 => if b = true then te σ2 H3 Q4 else N H3)
    (hd : ∀ H acc, Same H1 H → H D = some (.lst acc) → Paired (R H) acc ((List.range n).flatMap ms) → acc.length ≤ n → Qd H) :
    ∃ W : Nat → Nat → Hp → Prop, (∃ m, W 0 m (upd H1 D (.lst []))) ∧ ∀ i m H, W i m H →
      (J.stop i H ∧ Qd H) ∨ (J.go i H ∧ ∃ Nx : Hp → Prop, (∀ H', Nx H' → ∃ m', m' < m ∧ W (i + 1) m' H') ∧ ∀ x H', J.yld i H x H' → g x (wipe σ vs) H' fun σ2 H2 => wipe σ2 vs = wipe σ vs ∧ tt σ2 H2 fun b H3 =>
        if b = true then te σ2 H3 fun y H4 => ∃ acc, H4 D = some (.lst acc) ∧ acc.length < sizeLine ∧ Nx (upd H4 D (.lst (acc ++ [y]))) else Nx H3) := by
  refine lc_it w (fun i H => Same H1 H ∧ ∃ acc, H D = some (.lst acc) ∧ Paired (R H) acc ((List.range i).flatMap ms) ∧ acc.length ≤ i) ⟨same_new hD _, [], upd_same, .nil, Nat.le_refl _⟩ (fun i H _ z => hG H z.1) (fun i x H H' hi z y => ?_) fun H z => ?_
  · obtain ⟨g1, acc, hacc, hp, hl⟩ := z
    have ex : (List.range (i + 1)).flatMap ms = (List.range i).flatMap ms ++ ms i := by
      rw [List.range_succ, List.flatMap_append]; simp
    refine hs i x H H' hi g1 y _ _ (fun a v H4 e g4 r => ?_) fun e H4 g4 => ?_
    · refine ⟨acc, g4 _ _ hacc, szt (by omega), fun b o q => ?_, acc ++ [v], upd_same, ?_, by rw [List.length_append]; exact Nat.succ_le_succ hl⟩
      · rw [upd_ne (ne_of_none q hD)]; exact g4 _ _ (g1 _ _ q)
      · rw [ex, e]
        exact pr_imp (fun v a h => hpt H4 v a acc _ (g4 _ _ hacc) h) (pr_snoc r (pr_imp (fun v a h => hst H H4 v a g4 h) hp))
    · refine ⟨g1.trans g4, acc, g4 _ _ hacc, ?_, Nat.le_succ_of_le hl⟩
      rw [ex, e, List.append_nil]
      exact pr_imp (fun v a h => hst H H4 v a g4 h) hp
  · obtain ⟨g1, acc, hacc, hp, hl⟩ := z
    exact hd H acc g1 hacc hp hl
/-- the same for integers -/
theorem lc_ints (w : Walk J n G Y) (ms : Nat → List Int) {g : TG} {tt : L2.TT} {te : TE} {vs : List Nat} {σ : L2.St} {H1 : Hp} {D : Addr} {Qd : Hp → Prop} (hD : H1 D = none) (hn : n < 10000000) (h1 : ∀ i, (ms i).length ≤ 1) (hG : ∀ H, Same H1 H → G H)
    (hs : ∀ i x H H', i < n → Same H1 H → Y i H x H' → ∀ (Q4 : VK) (N : Hp → Prop), (∀ a H4, ms i = [a] → Same H H4 → Q4 (.int a) H4) → (ms i = [] → ∀ H4, Same H H4 → N H4) →
      g x (wipe σ vs) H' fun σ2 H2 => wipe σ2 vs = wipe σ vs ∧ tt σ2 H2 fun b H3 => if b = true then te σ2 H3 Q4 else N H3)
    (hd : ∀ H, Same H1 H → H D = some (.lst (((List.range n).flatMap ms).map V.int)) → ((List.range n).flatMap ms).length ≤ n → Qd H) :
    ∃ W : Nat → Nat → Hp → Prop, (∃ m, W 0 m (upd H1 D (.lst []))) ∧ ∀ i m H, W i m H →
      (J.stop i H ∧ Qd H) ∨ (J.go i H ∧ ∃ Nx : Hp → Prop, (∀ H', Nx H' → ∃ m', m' < m ∧ W (i + 1) m' H') ∧ ∀ x H', J.yld i H x H' → g x (wipe σ vs) H' fun σ2 H2 => wipe σ2 vs = wipe σ vs ∧ tt σ2 H2 fun b H3 =>
        if b = true then te σ2 H3 fun y H4 => ∃ acc, H4 D = some (.lst acc) ∧ acc.length < sizeLine ∧ Nx (upd H4 D (.lst (acc ++ [y]))) else Nx H3) := by
  have inv : ∀ {H : Hp} {acc : List V} {ns : List Int}, Paired (fun (v : V) (a : Int) => v = .int a) acc ns → acc = ns.map V.int := fun {H} {acc} {ns} h => by
    induction h with
    | nil => rfl
    | cons h _ ih => rw [h, ih]; rfl
  refine lc_rel w (fun _ v (a : Int) => v = .int a) ms hD hn h1 (fun _ _ _ _ _ h => h) (fun _ _ _ _ _ _ h => h) hG (fun i x H H' hi g1 y Q4 N hQ hN => hs i x H H' hi g1 y Q4 N (fun a H4 e g4 => hQ a _ H4 e g4 rfl) hN) fun H acc g1 hacc hp hl => ?_
  have e := inv (H := H) hp
  subst e
  exact hd H g1 hacc (by simpa using hl)
end
end Fp
/-! [elt for .. in .. for .. in .. for .. in ..]: three clauses, put together clause by clause -/
namespace L2
open PySem PySem.Spec PyProof.Rows
abbrev NoE : Value → Shared → Prop := fun _ _ => False
abbrev BW := (Shared → Prop) → Shared → Prop
def LoopRule (prog : Program) (w : World) (A : Around) (E : Expr) (k : Nat) (acc : Value) (env : Env) (tg : Expr) (ifs : List Expr) (bw : BW) : Prop :=
  ∀ (it : Value) (R : Result → Shared → Prop) (s : Shared) (J : Nat → Shared → Prop),
    (∀ n s, J n s → wpAny (model prog w) A (pyNext it) (fun r z => match r with
      | none => R (.ok .next) z
      | some v => wpAny (model prog w) A (letOwnedTupleGo tg it v) (fun _ z1 => wpAny (model prog w) A (assign tg env v) (fun _ z2 =>
          wpAny (model prog w) A (forIn ifs true fun c r => if r = true then do let ok ← isTrue c env (eval c env); pure (ForInStep.yield ok) else pure (ForInStep.yield r)) (fun b z3 =>
            if b = true then bw (fun z4 => ∃ m, m < n ∧ J m z4) z3 else ∃ m, m < n ∧ J m z3) NoE z2) NoE z1) NoE z) NoE s) →
    ∀ n, J n s → codeAny (model prog w) A (.compLoop E k it acc env) R s
def bwOut (prog : Program) (w : World) (A : Around) (E : Expr) (k : Nat) (acc : Value) (env : Env) (i1 : Expr) : BW := fun Post s =>
  wpAny (model prog w) A (eval i1 env) (fun x z => wpAny (model prog w) A (pyIter x) (fun it1 z1 => codeAny (model prog w) A (.compStart E (k + 1) it1 acc env) (fun r z2 => match r with
    | .ok _ => Post z2
    | .error _ => False) z1) NoE z) NoE s
def bwIn (prog : Program) (w : World) (A : Around) (acc : Value) (env : Env) (elt : Expr) : BW := fun Post s =>
  wpAny (model prog w) A (eval elt env) (fun x z => wpAny (model prog w) A (call (.builtin "list.append") [acc, x]) (fun _ z1 => Post z1) NoE z) NoE s
section
variable {prog : Program} {w : World} {A : Around} {e0 elt tg i0 i1 : Expr} {ges : List Comprehension} {scope : Scope} {pos : Pos} {k : Nat} {acc : Value} {env : Env} {ifs : List Expr}
theorem loop_out (hs : ∀ x, foldedSetIterable i1 env x = pure x)
    (hk : ∀ it, compTurn (.ListComp e0 ges scope pos) k it acc env = (do
      standAt i0.pos
      match ← pyNext it with
      | none => pure (.done .next)
      | some v =>
        letOwnedTupleGo tg it v
        assign tg env v
        let mut ok := true
        for c in ifs do
          if ok then ok ← isTrue c env (eval c env)
        if ok then
          let x ← eval i1 env
          standAt i1.pos
          let x ← foldedSetIterable i1 env x
          let _ ← runOwn (.compStart (.ListComp e0 ges scope pos) (k + 1) (← holding [x] (pyIter x)) acc env) env
        again (.compLoop (.ListComp e0 ges scope pos) k it acc env))) : LoopRule prog w A (.ListComp e0 ges scope pos) k acc env tg ifs (bwOut prog w A (.ListComp e0 ges scope pos) k acc env i1) := by
  intro it R s J turn n h
  refine codeAny_loop rfl J (fun m z hJ => ?_) n h
  show wpAny _ A ((compTurn (.ListComp e0 ges scope pos) k it acc env).onRaise (fun x => do noteFrame x env; theTreesLotGoes x)) _ _ z
  refine wpAny_noted ?_
  rw [hk]
  refine wpAny_bind (wpAny_standAt (wpAny_bind (thnF (turn m z hJ) fun r z1 h1 => ?_)))
  cases r with
  | none => exact wpAny_pure h1
  | some v =>
    refine wpAny_bind (thnF h1 fun _ z2 h2 => ?_)
    refine wpAny_bind (thnF h2 fun _ z3 h3 => wpAny_bind (thnF h3 fun b z4 h4 => ?_))
    cases b with
    | false => exact wpAny_pure ⟨rfl, h4⟩
    | true =>
      refine wpAny_bind (thnF h4 fun x z5 h5 => ?_)
      refine wpAny_bind (wpAny_standAt (wpAny_bind (wpAny_of_eq (hs x) (wpAny_bind (wpAny_holding (thnF h5 fun it1 z6 h6 => ?_))))))
      refine wpAny_bind (wpAny_runOwn ?_)
      rw [Around.mark_none]
      refine codeAny_mono h6 fun r z7 h7 => ?_
      cases r with
      | ok f =>
        first
          | exact wpAny_pure ⟨rfl, h7⟩
          | exact wpAny_bind (wpAny_pure (wpAny_pure ⟨rfl, h7⟩))
      | error e => exact h7.elim
theorem loop_in
    (hk : ∀ it, compTurn (.ListComp e0 ges scope pos) k it acc env = (do
      standAt i0.pos
      match ← pyNext it with
      | none => pure (.done .next)
      | some v =>
        letOwnedTupleGo tg it v
        assign tg env v
        let mut ok := true
        for c in ifs do
          if ok then ok ← isTrue c env (eval c env)
        if ok then
          (do let _ ← call (.builtin "list.append") [acc, ← eval elt env])
        again (.compLoop (.ListComp e0 ges scope pos) k it acc env))) : LoopRule prog w A (.ListComp e0 ges scope pos) k acc env tg ifs (bwIn prog w A acc env elt) := by
  intro it R s J turn n h
  refine codeAny_loop rfl J (fun m z hJ => ?_) n h
  show wpAny _ A ((compTurn (.ListComp e0 ges scope pos) k it acc env).onRaise (fun x => do noteFrame x env; theTreesLotGoes x)) _ _ z
  refine wpAny_noted ?_
  rw [hk]
  refine wpAny_bind (wpAny_standAt (wpAny_bind (thnF (turn m z hJ) fun r z1 h1 => ?_)))
  cases r with
  | none => exact wpAny_pure h1
  | some v =>
    refine wpAny_bind (thnF h1 fun _ z2 h2 => ?_)
    refine wpAny_bind (thnF h2 fun _ z3 h3 => wpAny_bind (thnF h3 fun b z4 h4 => ?_))
    cases b with
    | false => exact wpAny_pure ⟨rfl, h4⟩
    | true => exact wpAny_bind (wpAny_bind (thnF h4 fun x z5 h5 => wpAny_bind (thnF h5 fun _ z6 h6 => wpAny_pure (wpAny_pure ⟨rfl, h6⟩))))
end
/-- what a clause hands on: the heap is as N says, the slots outside vs stay -/
def Kept (X : Cx) (pins : List (Addr × Obj)) (σ : St) (vs : List Nat) (N : Hp → Prop) (s : Shared) : Prop := ∃ σ' H', Inv X pins σ' H' s ∧ σ'.length = σ.length ∧ (∀ (j : Nat) v, j ∉ vs → σ[j]? = some (some v) → σ'[j]? = some (some v)) ∧ N H'
abbrev TB := St → Hp → (Hp → Prop) → Prop
def tApp (te : TE) (D : Addr) : TB := fun σ H N => te σ H fun y H1 => ∃ acc, H1 D = some (.lst acc) ∧ acc.length < sizeLine ∧ N (upd H1 D (.lst (acc ++ [y])))
def tTurns (J : It) (g : TG) (tt : TT) (tb : TB) (vs : List Nat) (σ : St) (W : Nat → Nat → Hp → Prop) (N : Hp → Prop) : Prop := ∀ i m H, W i m H →
  (J.stop i H ∧ N H) ∨ (J.go i H ∧ ∃ Nx : Hp → Prop, (∀ H', Nx H' → ∃ m', m' < m ∧ W (i + 1) m' H') ∧ ∀ x H', J.yld i H x H' → g x (wipe σ vs) H' fun σ2 H2 => wipe σ2 vs = wipe σ vs ∧ tt σ2 H2 fun b H3 => if b = true then tb σ2 H3 Nx else Nx H3)
def tClause (wi : TI) (g : TG) (tt : TT) (tb : TB) (vs : List Nat) : TB := fun σ H N => wi σ H fun J H1 => ∃ W : Nat → Nat → Hp → Prop, (∃ m, W 0 m H1) ∧ tTurns J g tt tb vs σ W N
def BodyOk (X : Cx) (bw : BW) (tb : TB) (vs : List Nat) : Prop := ∀ (pins : List (Addr × Obj)) (σ : St) (H : Hp) (s : Shared) (N : Hp → Prop), Inv X pins σ H s → tb σ H N → bw (Kept X pins σ vs N) s
theorem bwOut_mono {prog : Program} {w : World} {A : Around} {E i1 : Expr} {k : Nat} {acc : Value} {env : Env} {P Q : Shared → Prop} {s : Shared} (h : bwOut prog w A E k acc env i1 P s) (f : ∀ s, P s → Q s) : bwOut prog w A E k acc env i1 Q s :=
  thnF h fun x z h1 => thnF h1 fun it z1 h2 => codeAny_mono h2 fun r z2 h3 => by
    cases r with
    | ok _ => exact f _ h3
    | error _ => exact h3
theorem bwIn_mono {prog : Program} {w : World} {A : Around} {elt : Expr} {acc : Value} {env : Env} {P Q : Shared → Prop} {s : Shared} (h : bwIn prog w A acc env elt P s) (f : ∀ s, P s → Q s) : bwIn prog w A acc env elt Q s :=
  thnF h fun x z h1 => thnF h1 fun it z1 h2 => f _ h2
/-- the innermost clause's body -/
theorem body_in {X : Cx} {elt : Expr} {te : TE} {D : Addr} (hX : X.xe = NoE) (he : PE X elt te) : BodyOk X (bwIn X.prog X.w X.A (.ref D) X.env elt) (tApp te D) [] := by
  intro pins σ H s N I h
  have r := he.run pins s σ H _ I h
  rw [hX] at r
  refine thnF r fun u z ⟨y, H1, I1, ry, acc, hD, hz, n⟩ => ?_
  exact app_ok I1 hD hz ry fun z1 I2 => ⟨_, _, I2, rfl, fun _ _ _ e => e, n⟩
/-- the turns of a clause -/
theorem turns_run {X : Cx} {E tg : Expr} {k : Nat} {D it : Addr} {ifs : List Expr} {bw : BW} {g : TG} {tt : TT} {tb : TB} {vs vi : List Nat} {J : It} {fp : List Addr} {tn : Nat → Heap → Prop} {W : Nat → Nat → Hp → Prop} {N : Hp → Prop} {pins : List (Addr × Obj)} {σ : St}
    (hc : X.calm = true) (hX : X.xe = NoE) (L : LoopRule X.prog X.w X.A E k (.ref D) X.env tg ifs bw) (mono : ∀ {P Q : Shared → Prop} {s : Shared}, bw P s → (∀ s, P s → Q s) → bw Q s) (pg : PG X tg g) (pt : PTs X ifs tt) (hb : BodyOk X bw tb vi) (hvi : ∀ j ∈ vi, j ∈ vs)
    (T : Turn X.prog X.w X.K tg J fp it tn) (tr : tTurns J g tt tb vs σ W N) (stat : ∀ {pins' σ' H' s'}, Inv X pins' σ' H' s' → (∀ b ∈ fp, H' b = none) → ∀ b ∈ fp, FpOk X pins H' b)
    {R : Result → Shared → Prop} (hR : ∀ H' s', Inv X pins (wipe σ vs) H' s' → N H' → R (.ok .next) s') {s : Shared} {H : Hp} (I : Inv X pins (wipe σ vs) H s) (st : tn 0 s.heap) (nf : ∀ b ∈ fp, H b = none) {m : Nat} (w0 : W 0 m H) :
    codeAny (model X.prog X.w) X.A (.compLoop E k (.ref it) (.ref D) X.env) R s := by
  refine L (.ref it) R s (fun n z => ∃ i H', Inv X pins (wipe σ vs) H' z ∧ tn i z.heap ∧ (∀ b ∈ fp, H' b = none) ∧ W i n H') ?_ m ⟨0, H, I, st, nf, w0⟩
  rintro n z ⟨i, H1, I1, st1, nf1, w1⟩
  rcases tr i n H1 w1 with ⟨stop, nn⟩ | ⟨go, Nx, hNx, step⟩
  · refine thnF (T.done X rfl rfl rfl hc i _ z (wipe σ vs) H1 (fun _ _ => False) I1 (stat I1 nf1) st1 stop) fun r z1 ⟨hr, I2⟩ => ?_
    subst hr
    exact hR _ _ I2 nn
  · refine thnF (T.item X rfl rfl rfl hc i _ z (wipe σ vs) H1 (fun _ _ => False) I1 (stat I1 nf1) st1 go) fun r z1 ⟨u, hr, h1⟩ => ?_
    subst hr
    refine thnF h1 fun _ z2 ⟨x, H2, I2, r2, y2, st2, nf2⟩ => ?_
    have I2' := I2.pinned (stat I2 nf2) (T.obj _ _ st2)
    have rg := pg.run _ z2 (wipe σ vs) H2 x u _ I2' r2 (step x H2 y2)
    rw [hX] at rg
    refine thnF rg fun _ z3 ⟨σ3, H3, I3, hw, q3⟩ => ?_
    have rt := pt.run _ z3 σ3 H3 _ I3 q3
    rw [hX] at rt
    refine thnF rt fun b z4 ⟨H4, I4, q4⟩ => ?_
    have fin : ∀ {σ9 : St} {z9 : Shared} {H9 : Hp}, Inv X (pins ++ pinsAt fp z2.heap) σ9 H9 z9 → σ9.length = σ3.length → (∀ (j : Nat) v, j ∉ vi → σ3[j]? = some (some v) → σ9[j]? = some (some v)) → Nx H9 →
        ∃ m, m < n ∧ ∃ i H', Inv X pins (wipe σ vs) H' z9 ∧ tn i z9.heap ∧ (∀ b ∈ fp, H' b = none) ∧ W i m H' := fun {σ9 z9 H9} I9 hl hk nx => by
      obtain ⟨m', hm, w'⟩ := hNx H9 nx
      have pin' : ∀ b ∈ fp, ∀ o, z2.heap.get? b = some o → z9.heap.get? b = some o ∧ H9 b = none := fun b hb o e =>
        let q := I9.pin (b, o) (List.mem_append_right _ (List.mem_append_right _ (mem_pinsAt hb e)))
        ⟨q.1, q.2.1⟩
      refine ⟨m', hm, i + 1, H9, I9.unpinned.weak (by rw [← hw, wipe_length, hl]) (fun j v e => ?_), T.keep _ _ _ st2 fun b hb o e => (pin' b hb o e).1, fun b hb => ?_, w'⟩
      · rw [← hw] at e
        obtain ⟨e1, e2⟩ := wipe_some e
        exact hk j v (fun q => e2 (hvi j q)) e1
      · obtain ⟨o, e, _⟩ := T.obj _ _ st2 b hb
        exact (pin' b hb o e).2
    cases b with
    | false =>
      simp only [Bool.false_eq_true, if_false] at q4 ⊢
      exact fin I4 rfl (fun _ _ _ e => e) q4
    | true =>
      simp only [if_true] at q4 ⊢
      exact mono (hb _ _ _ _ _ I4 q4) fun z5 ⟨σ5, H5, I5, hl5, hk5, n5⟩ => fin I5 hl5 hk5 n5
/-- a further clause, from its source on -/
theorem clause_body {X : Cx} {e0 tg i1 : Expr} {ges : List Comprehension} {scope : Scope} {pos : Pos} {k : Nat} {D : Addr} {ifs : List Expr} {bw : BW} {wi : TI} {g : TG} {tt : TT} {tb : TB} {vs vi : List Nat}
    (hc : X.calm = true) (hX : X.xe = NoE) (pi : PI X tg i1 wi) (L : LoopRule X.prog X.w X.A (.ListComp e0 ges scope pos) (k + 1) (.ref D) X.env tg ifs bw) (mono : ∀ {P Q : Shared → Prop} {s : Shared}, bw P s → (∀ s, P s → Q s) → bw Q s) (pg : PG X tg g) (pt : PTs X ifs tt) (hb : BodyOk X bw tb vi) (hvi : ∀ j ∈ vi, j ∈ vs)
    (start : ∀ {it : Value} {R : Result → Shared → Prop} {s : Shared}, codeAny (model X.prog X.w) X.A (.compLoop (.ListComp e0 ges scope pos) (k + 1) it (.ref D) X.env) R s →
      wpAny (model X.prog X.w) X.A (pyIter it) (fun it' z => codeAny (model X.prog X.w) X.A (.compLoop (.ListComp e0 ges scope pos) (k + 1) it' (.ref D) X.env) R z) (notedBy (model X.prog X.w) X.A X.env fun x z => R (.error x) z) s →
      codeAny (model X.prog X.w) X.A (.compStart (.ListComp e0 ges scope pos) (k + 1) it (.ref D) X.env) R s) :
    BodyOk X (bwOut X.prog X.w X.A (.ListComp e0 ges scope pos) k (.ref D) X.env i1) (tClause wi g tt tb vs) vs := by
  intro pins σ H s N I h
  have r := pi.run pins s σ H _ I h
  rw [hX] at r
  refine thnF r fun xv z hx => ?_
  refine thnF hx fun itv z1 h1 => ?_
  obtain ⟨it, fp, tn, J, H1, e, I1, T, st1, f1, W, ⟨m, w1⟩, tr⟩ := h1
  subst e
  have loop := turns_run (R := fun r z2 => match r with
      | .ok _ => Kept X pins σ vs N z2
      | .error _ => False) hc hX L mono pg pt hb hvi T tr (fun {pins' σ' H' s'} _ hn b hb => ⟨hn b hb, (f1 b hb).2⟩) (fun H' s' I' n => ⟨_, H', I', wipe_length _ _, fun j v hj e => by rw [wipe_out hj]; exact e, n⟩) (I1.weak (wipe_length _ _) (fun j v e => (wipe_some e).1)) st1 (fun b hb => (f1 b hb).1) w1
  exact start loop (T.self X.A 0 _ _ _ st1 loop)
section
variable {prog : Program} {w : World} {A : Around} {R : Result → Shared → Prop} {s : Shared} {elt t0 i0 t1 i1 t2 i2 : Expr} {f0 f1 f2 : List Expr} {scope : Scope} {pos : Pos} {it acc : Value} {env : Env}
abbrev Lc3 (elt t0 i0 t1 i1 t2 i2 : Expr) (f0 f1 f2 : List Expr) (scope : Scope) (pos : Pos) : Expr := .ListComp elt [⟨t0, i0, f0, 0⟩, ⟨t1, i1, f1, 0⟩, ⟨t2, i2, f2, 0⟩] scope pos
theorem start3_1 (h0 : codeAny (model prog w) A (.compLoop (Lc3 elt t0 i0 t1 i1 t2 i2 f0 f1 f2 scope pos) 1 it acc env) R s)
    (h : wpAny (model prog w) A (pyIter it) (fun it' z => codeAny (model prog w) A (.compLoop (Lc3 elt t0 i0 t1 i1 t2 i2 f0 f1 f2 scope pos) 1 it' acc env) R z) (notedBy (model prog w) A env fun x z => R (.error x) z) s) :
    codeAny (model prog w) A (.compStart (Lc3 elt t0 i0 t1 i1 t2 i2 f0 f1 f2 scope pos) 1 it acc env) R s := by
  refine codeAny_of_tree ?_
  show wpAny _ _ ((compStart (Lc3 elt t0 i0 t1 i1 t2 i2 f0 f1 f2 scope pos) 1 it acc env).onRaise (fun x => do noteFrame x env; standAt theWindowsPlace)) _ _ s
  refine wpAny_notedAt ?_
  unfold compStart
  show wpAny _ _ (ask >>= _) _ _ s
  refine wpAny_bind (wpAny_askSetting (wpAny_ite ?_))
  split
  · first
      | exact wpAny_bind (wpAny_pure (wpAny_pure (And.intro rfl h0)))
      | exact wpAny_pure (And.intro rfl h0)
  · first
      | exact wpAny_bind (wpAny_rule (wpAny_bind (wpAny_standAt (wpAny_bind (wpAny_mono h (fun it' z h' => wpAny_pure (And.intro rfl h')) fun _ _ q => q)))))
      | (refine wpAny_bind (wpAny_rule ?_); show wpAny _ _ (standAt i1.pos >>= _) _ _ s; exact wpAny_bind (wpAny_standAt (wpAny_bind (wpAny_mono h (fun it' z h' => wpAny_pure (And.intro rfl h')) fun _ _ q => q))))
theorem start3_2 (h0 : codeAny (model prog w) A (.compLoop (Lc3 elt t0 i0 t1 i1 t2 i2 f0 f1 f2 scope pos) 2 it acc env) R s)
    (h : wpAny (model prog w) A (pyIter it) (fun it' z => codeAny (model prog w) A (.compLoop (Lc3 elt t0 i0 t1 i1 t2 i2 f0 f1 f2 scope pos) 2 it' acc env) R z) (notedBy (model prog w) A env fun x z => R (.error x) z) s) :
    codeAny (model prog w) A (.compStart (Lc3 elt t0 i0 t1 i1 t2 i2 f0 f1 f2 scope pos) 2 it acc env) R s := by
  refine codeAny_of_tree ?_
  show wpAny _ _ ((compStart (Lc3 elt t0 i0 t1 i1 t2 i2 f0 f1 f2 scope pos) 2 it acc env).onRaise (fun x => do noteFrame x env; standAt theWindowsPlace)) _ _ s
  refine wpAny_notedAt ?_
  unfold compStart
  show wpAny _ _ (ask >>= _) _ _ s
  refine wpAny_bind (wpAny_askSetting (wpAny_ite ?_))
  split
  · first
      | exact wpAny_bind (wpAny_pure (wpAny_pure (And.intro rfl h0)))
      | exact wpAny_pure (And.intro rfl h0)
  · first
      | exact wpAny_bind (wpAny_rule (wpAny_bind (wpAny_standAt (wpAny_bind (wpAny_mono h (fun it' z h' => wpAny_pure (And.intro rfl h')) fun _ _ q => q)))))
      | (refine wpAny_bind (wpAny_rule ?_); show wpAny _ _ (standAt i2.pos >>= _) _ _ s; exact wpAny_bind (wpAny_standAt (wpAny_bind (wpAny_mono h (fun it' z h' => wpAny_pure (And.intro rfl h')) fun _ _ q => q))))
end
/-- the reading: clause by clause; vs1: the names of the second and third target, vs2: of the third -/
def tLc3 (wi : TI) (g : TG) (tt : TT) (wi1 : TI) (g1 : TG) (tt1 : TT) (wi2 : TI) (g2 : TG) (tt2 : TT) (te : TE) (vs vs1 vs2 : List Nat) : TE := fun σ H Q => wi σ H fun J H1 => ∀ D, H1 D = none → ∃ W : Nat → Nat → Hp → Prop, (∃ m, W 0 m (upd H1 D (.lst []))) ∧
  tTurns J g tt (tClause wi1 g1 tt1 (tClause wi2 g2 tt2 (tApp te D) vs2) vs1) vs σ W (Q (.ref D))
section
variable {X : Cx}
theorem pe_lc3 {elt t0 i0 t1 i1 t2 i2 : Expr} {f0 f1 f2 : List Expr} {scope : Scope} {own : List (Str × Nat)} {vs1 vs2 : List Nat} {pos : Pos} {wi wi1 wi2 : TI} {g g1 g2 : TG} {tt tt1 tt2 : TT} {te : TE} (hc : X.calm = true) (hN : X.N.Nodup) (hi : PI X t0 i0 wi) (ok : BlkOk X.N X.env.scope scope own) (hv1 : ∀ i ∈ vs1, i ∈ own.map (·.2)) (hv2 : ∀ i ∈ vs2, i ∈ vs1)
    (hg : ∀ (s : Shared) (H : Hp) (C : Addr) (cl : List (Str × Addr)) (fp : List Addr), PG (X.blk s H scope (compEnvC scope cl C X.env) fp) t0 g) (ht : ∀ (s : Shared) (H : Hp) (C : Addr) (cl : List (Str × Addr)) (fp : List Addr), PTs (X.blk s H scope (compEnvC scope cl C X.env) fp) f0 tt)
    (hi1 : ∀ (s : Shared) (H : Hp) (C : Addr) (cl : List (Str × Addr)) (fp : List Addr), PI (X.blk s H scope (compEnvC scope cl C X.env) fp) t1 i1 wi1)
    (hg1 : ∀ (s : Shared) (H : Hp) (C : Addr) (cl : List (Str × Addr)) (fp : List Addr), PG (X.blk s H scope (compEnvC scope cl C X.env) fp) t1 g1) (ht1 : ∀ (s : Shared) (H : Hp) (C : Addr) (cl : List (Str × Addr)) (fp : List Addr), PTs (X.blk s H scope (compEnvC scope cl C X.env) fp) f1 tt1)
    (hi2 : ∀ (s : Shared) (H : Hp) (C : Addr) (cl : List (Str × Addr)) (fp : List Addr), PI (X.blk s H scope (compEnvC scope cl C X.env) fp) t2 i2 wi2)
    (hg2 : ∀ (s : Shared) (H : Hp) (C : Addr) (cl : List (Str × Addr)) (fp : List Addr), PG (X.blk s H scope (compEnvC scope cl C X.env) fp) t2 g2) (ht2 : ∀ (s : Shared) (H : Hp) (C : Addr) (cl : List (Str × Addr)) (fp : List Addr), PTs (X.blk s H scope (compEnvC scope cl C X.env) fp) f2 tt2)
    (he : ∀ (s : Shared) (H : Hp) (C : Addr) (cl : List (Str × Addr)) (fp : List Addr), PE (X.blk s H scope (compEnvC scope cl C X.env) fp) elt te) (hs : ∀ x, foldedSetIterable i0 X.env x = pure x := by intro _; rfl) (hs1 : ∀ env x, foldedSetIterable i1 env x = pure x := by intro _ _; rfl) (hs2 : ∀ env x, foldedSetIterable i2 env x = pure x := by intro _ _; rfl) :
    PE X (Lc3 elt t0 i0 t1 i1 t2 i2 f0 f1 f2 scope pos) (tLc3 wi g tt wi1 g1 tt1 wi2 g2 tt2 te (own.map (·.2)) vs1 vs2) := by
  refine ⟨fun pins s σ H Q I h => ?_⟩
  rw [eval_ListComp]
  have hfree : ∀ y ∈ scope.names, y.2 = .free → ∃ c, X.env.cells.lookup y.1 = some c := fun y hy e => by
    rcases ok.free y hy e with q | q
    · exact I.ok.has _ (.inl q)
    · exact I.ok.has _ (.inr q)
  refine wpAny_comprehension_free (use := none) rfl hs (closure_ok hfree) ok.kind (fun y hy e => by rw [ok.uniq y hy, e])
    (thn (hi.run pins s σ H _ I h) fun xv s1 hx => thn hx fun itv s2 h2 => ?_)
  obtain ⟨it, fp, tn, J, H2, e, I2, T, st2, nf2, q⟩ := h2
  subst e
  refine wpAny_newObj_type (newEnv_comp ?_) (by show 0 ≤ sizeLine; decide)
  generalize hD : s2.heap.objs.size = D
  have hDn : H2 D = none := I2.hok.fresh (Nat.le_of_eq hD)
  obtain ⟨W, ⟨m0, w0⟩, tr⟩ := q D hDn
  generalize hz3 : ({ s2 with heap := s2.heap.push { cls := .type "list", data := .seq ([] : List Value).toArray } } : Shared) = z3
  have I3 : Inv X pins σ (upd H2 D (.lst [])) z3 := by
    rw [← hz3]
    refine I2.laid (t' := s2.toks) (fun b o e => Heap.get?_push_of_some _ e) (Nat.le_of_eq hD) ⟨Nat.zero_le _, [], 0, .nil, ?_⟩
    rw [← hD]
    exact Heap.get?_push_size _ rfl
  have h3 : z3.heap = s2.heap.push { cls := .type "list", data := .seq ([] : List Value).toArray } := by rw [← hz3]
  have sz : ∀ b ∈ fp, b < s2.heap.objs.size := fun b hb => by
    obtain ⟨o, e, _⟩ := T.obj _ _ st2 b hb
    exact Heap.lt_size e
  have f3 : ∀ b ∈ fp, FpOk X pins (upd H2 D (.lst [])) b ∧ b < z3.heap.objs.size := fun b hb => by
    have hlt := sz b hb
    refine ⟨⟨?_, (nf2 b hb).2⟩, by rw [h3, Heap.size_push]; exact Nat.lt_succ_of_lt hlt⟩
    rw [upd_ne (by rw [← hD]; exact Nat.ne_of_lt hlt)]
    exact (nf2 b hb).1
  have st3 : tn 0 z3.heap := T.keep _ _ _ st2 fun b _ o e => by rw [h3]; exact Heap.get?_push_of_some _ e
  have I4 := block_start I3 ok hN f3
  generalize hH3 : upd H2 D (.lst []) = H3 at I3 I4 w0 f3
  generalize hC : z3.heap.objs.size = C at I4 ⊢
  have pg := hg z3 H3 C (cellsFrom (C + 1) scope.names (cloFrom X.env.cells scope.names [])) fp
  have pt := ht z3 H3 C (cellsFrom (C + 1) scope.names (cloFrom X.env.cells scope.names [])) fp
  have pi1 := hi1 z3 H3 C (cellsFrom (C + 1) scope.names (cloFrom X.env.cells scope.names [])) fp
  have pg1 := hg1 z3 H3 C (cellsFrom (C + 1) scope.names (cloFrom X.env.cells scope.names [])) fp
  have pt1 := ht1 z3 H3 C (cellsFrom (C + 1) scope.names (cloFrom X.env.cells scope.names [])) fp
  have pi2 := hi2 z3 H3 C (cellsFrom (C + 1) scope.names (cloFrom X.env.cells scope.names [])) fp
  have pg2 := hg2 z3 H3 C (cellsFrom (C + 1) scope.names (cloFrom X.env.cells scope.names [])) fp
  have pt2 := ht2 z3 H3 C (cellsFrom (C + 1) scope.names (cloFrom X.env.cells scope.names [])) fp
  have pe := he z3 H3 C (cellsFrom (C + 1) scope.names (cloFrom X.env.cells scope.names [])) fp
  show codeAny _ _ (.compStart (Lc3 elt t0 i0 t1 i1 t2 i2 f0 f1 f2 scope pos) 0 (.ref it) (.ref D) (compEnvC scope (cellsFrom (C + 1) scope.names (cloFrom X.env.cells scope.names [])) C X.env)) (compPost (model X.prog X.w) X.A X.xe none _ (.ref D) C) _
  generalize hce : compEnvC scope (cellsFrom (C + 1) scope.names (cloFrom X.env.cells scope.names [])) C X.env = ce at I4 pg pt pi1 pg1 pt1 pi2 pg2 pt2 pe ⊢
  have cL : ce.locals = C := by subst hce; rfl
  generalize hz4 : ({ z3 with heap := pushCells (z3.heap.push { cls := .type "dict", data := .dict #[] }) scope.names } : Shared) = z4 at I4 ⊢
  have st4 : tn 0 z4.heap := T.keep _ _ _ st3 fun b _ o e => by rw [← hz4]; exact pushCells_keeps _ _ _ _ (Heap.get?_push_of_some _ e)
  have nf4 : ∀ b ∈ fp, H3 b = none := fun b hb => by rw [← hH3]; rw [← hH3] at f3; exact (f3 b hb).1.1
  have b2 : BodyOk (X.blk z3 H3 scope ce fp) (bwIn X.prog X.w X.A (.ref D) ce elt) (tApp te D) [] := body_in (X := X.blk z3 H3 scope ce fp) rfl pe
  have b1 : BodyOk (X.blk z3 H3 scope ce fp) (bwOut X.prog X.w X.A (Lc3 elt t0 i0 t1 i1 t2 i2 f0 f1 f2 scope pos) 1 (.ref D) ce i2) (tClause wi2 g2 tt2 (tApp te D) vs2) vs2 :=
    clause_body (X := X.blk z3 H3 scope ce fp) hc rfl pi2 (loop_in (i0 := i2) (fun _ => rfl)) bwIn_mono pg2 pt2 b2 (fun j hj => nomatch hj) start3_2
  have b0 : BodyOk (X.blk z3 H3 scope ce fp) (bwOut X.prog X.w X.A (Lc3 elt t0 i0 t1 i1 t2 i2 f0 f1 f2 scope pos) 0 (.ref D) ce i1) (tClause wi1 g1 tt1 (tClause wi2 g2 tt2 (tApp te D) vs2) vs1) vs1 :=
    clause_body (X := X.blk z3 H3 scope ce fp) hc rfl pi1 (loop_out (i0 := i1) (hs2 ce) (fun _ => rfl)) bwOut_mono pg1 pt1 b1 hv2 start3_1
  have stat : ∀ {pins' : List (Addr × Obj)} {σ' : St} {H' : Hp} {s' : Shared}, Inv (X.blk z3 H3 scope ce fp) pins' σ' H' s' → (∀ b ∈ fp, H' b = none) → ∀ b ∈ fp, FpOk (X.blk z3 H3 scope ce fp) [] H' b := fun {pins' σ' H' s'} I' hn b hb =>
    ⟨hn b hb, (I'.ok.exf b hb).1, I'.ok.exfs b hb, .inl hb, fun x c e => (I'.ok.exf b hb).2 x c e, fun p hp => absurd (show p ∈ ([] : List (Addr × Obj)) ++ [] from hp) (by simp)⟩
  have loop := turns_run (X := X.blk z3 H3 scope ce fp) (R := compPost (model X.prog X.w) X.A X.xe none (fun v s' => EP X pins σ Q v s') (.ref D) C) hc rfl (loop_out (i0 := i0) (hs1 ce) (fun _ => rfl)) bwOut_mono pg pt b0 hv1 T tr stat (fun H5 z5 I5 qq => ?_) I4 st4 nf4 w0
  · exact codeAny_compStart_list loop (T.self X.A 0 _ _ _ st4 loop)
  · have I6 : Inv X pins σ H5 z5 := I3.call' (ch := fp) I5.os I5.base I5.hok I5.bare fun b hb => ⟨(f3 b hb).1.2.2.2.1, (f3 b hb).1.2.1, (f3 b hb).1.2.2.2.2.1, (f3 b hb).1.2.2.2.2.2⟩
    have nC : H5 C = none := by
      have z : H5 ce.locals = none := I5.free
      rw [cL] at z
      exact z
    obtain ⟨m, hn, _⟩ := I5.loc
    have hn : z5.heap.Ns ce.locals m := hn
    rw [cL] at hn
    refine ⟨m, hn, fun h'' sb => ?_⟩
    obtain ⟨g0, g1', g2', g3, g4, g5⟩ := I3.fpOk (Nat.le_of_eq hC) nC
    exact ⟨.ref D, H5, I6.turned (t' := z5.toks) (fun b o hb e => (sb.2 b hb).trans e) g0 g1' g3 g4 g5, rfl, qq⟩
end
end L2
/-! what a comprehension of several clauses collects -/
namespace Fp
open PySem PySem.Spec PyProof.Rows L2
theorem pi_eith {X : Cx} {tg e : Expr} {t1 t2 : TI} (h1 : PI X tg e t1) (h2 : PI X tg e t2) : PI X tg e (fun σ H R => t1 σ H R ∨ t2 σ H R) := ⟨fun pins s σ H R I h => h.elim (h1.run pins s σ H R I) (h2.run pins s σ H R I)⟩
theorem pi_listK {X : Cx} {K : PySem.W.Frag} {tg l : Expr} {tl : TE} (hl : PE X l tl) (e : X.K = K := by rfl) : PI X tg l (iList K tl) := by subst e; exact pi_list hl
theorem pi_tupK' {X : Cx} {K : PySem.W.Frag} {tg l : Expr} {tl : TE} (hl : PE X l tl) (e : X.K = K := by rfl) : PI X tg l (iTup K tl) := by subst e; exact pi_tup hl
structure Stab {α : Type} (R : Hp → V → α → Prop) : Prop where
  same : ∀ {H H' : Hp} {v : V} {a : α}, Same H H' → R H v a → R H' v a
  put : ∀ {H : Hp} {v : V} {a : α} {D : Addr} {us zs : List V}, H D = some (.lst us) → R H v a → R (upd H D (.lst zs)) v a
/-- the list at D has these things, and what was there at H1 is there -/
def Coll {α : Type} (H1 : Hp) (D : Addr) (R : Hp → V → α → Prop) (H : Hp) (l : List α) : Prop := Same H1 H ∧ ∃ acc, H D = some (.lst acc) ∧ Paired (R H) acc l
section
variable {α : Type} {H1 : Hp} {D : Addr} {R : Hp → V → α → Prop}
theorem Coll.start (hD : H1 D = none) : Coll H1 D R (upd H1 D (.lst [])) [] := ⟨same_new hD _, [], upd_same, .nil⟩
theorem Coll.on {H H' : Hp} {l : List α} (S : Stab R) (h : Coll H1 D R H l) (g : Same H H') : Coll H1 D R H' l := by
  obtain ⟨g1, acc, e, p⟩ := h
  exact ⟨g1.trans g, acc, g _ _ e, pr_imp (fun _ _ h => S.same g h) p⟩
theorem coll_app (S : Stab R) (hD : H1 D = none) {H H' : Hp} {l : List α} {y : V} {a : α} {N : Hp → Prop} (h : Coll H1 D R H l) (g : Same H H') (r : R H' y a) (hl : l.length < 10000000) (n : ∀ H2, Coll H1 D R H2 (l ++ [a]) → N H2) :
    ∃ acc, H' D = some (.lst acc) ∧ acc.length < sizeLine ∧ N (upd H' D (.lst (acc ++ [y]))) := by
  obtain ⟨g1, acc, e, p⟩ := h.on S g
  refine ⟨acc, e, szt (by rw [pr_len p]; exact hl), n _ ⟨fun b o q => ?_, acc ++ [y], upd_same, ?_⟩⟩
  · rw [upd_ne (ne_of_none q hD)]; exact g1 _ _ q
  · exact pr_imp (fun _ _ h => S.put e h) (pr_snoc r p)
theorem turns_rel {J : It} {n : Nat} {G : Hp → Prop} {Y : Nat → Hp → V → Hp → Prop} (w : Walk J n G Y) (ms : Nat → List α) {g : TG} {tt : L2.TT} {tb : TB} {vs : List Nat} {σ : L2.St} {N : Hp → Prop} (pre : List α) (hG : ∀ H, Same H1 H → G H)
    (hs : ∀ i x H H', i < n → Coll H1 D R H (pre ++ (List.range i).flatMap ms) → Y i H x H' → ∀ M : Hp → Prop, (∀ H4, Coll H1 D R H4 (pre ++ (List.range i).flatMap ms ++ ms i) → M H4) →
      g x (wipe σ vs) H' fun σ2 H2 => wipe σ2 vs = wipe σ vs ∧ tt σ2 H2 fun b H3 => if b = true then tb σ2 H3 M else M H3)
    (hN : ∀ H, Coll H1 D R H (pre ++ (List.range n).flatMap ms) → N H) {H0 : Hp} (h0 : Coll H1 D R H0 pre) :
    ∃ W : Nat → Nat → Hp → Prop, (∃ m, W 0 m H0) ∧ tTurns J g tt tb vs σ W N := by
  refine ⟨fun i m H => m = n - i ∧ i ≤ n ∧ Coll H1 D R H (pre ++ (List.range i).flatMap ms), ⟨n, rfl, Nat.zero_le _, by rw [List.range_zero, List.flatMap_nil, List.append_nil]; exact h0⟩, ?_⟩
  rintro i m H ⟨rfl, hi, c⟩
  by_cases hlt : i < n
  · refine .inr ⟨w.goes i H hlt (hG H c.1), fun H' => Coll H1 D R H' (pre ++ (List.range (i + 1)).flatMap ms), fun H' c' => ⟨n - (i + 1), by omega, rfl, hlt, c'⟩, fun x H' y => ?_⟩
    refine hs i x H H' hlt c (w.yields i H x H' hlt (hG H c.1) y) _ fun H4 c4 => ?_
    rw [List.range_succ, List.flatMap_append, ← List.append_assoc]
    simpa using c4
  · have e : i = n := by omega
    subst e
    exact .inl ⟨w.stops H (hG H c.1), hN H c⟩
/-- all of it, for the first clause -/
theorem lc_coll {J : It} {n : Nat} {G : Hp → Prop} {Y : Nat → Hp → V → Hp → Prop} (w : Walk J n G Y) (ms : Nat → List α) {g : TG} {tt : L2.TT} {tb : TB} {vs : List Nat} {σ : L2.St} {N : Hp → Prop} (hD : H1 D = none) (hG : ∀ H, Same H1 H → G H)
    (hs : ∀ i x H H', i < n → Coll H1 D R H ((List.range i).flatMap ms) → Y i H x H' → ∀ M : Hp → Prop, (∀ H4, Coll H1 D R H4 ((List.range i).flatMap ms ++ ms i) → M H4) →
      g x (wipe σ vs) H' fun σ2 H2 => wipe σ2 vs = wipe σ vs ∧ tt σ2 H2 fun b H3 => if b = true then tb σ2 H3 M else M H3)
    (hN : ∀ H, Coll H1 D R H ((List.range n).flatMap ms) → N H) :
    ∃ W : Nat → Nat → Hp → Prop, (∃ m, W 0 m (upd H1 D (.lst []))) ∧ tTurns J g tt tb vs σ W N :=
  turns_rel (R := R) w ms [] hG (fun i x H H' hi c y M f => hs i x H H' hi (by simpa using c) y M (by simpa using f)) (fun H c => hN H (by simpa using c)) (Coll.start hD)
end
/-- an integer -/
abbrev RI : Hp → V → Int → Prop := fun _ v a => v = .int a
theorem stab_int : Stab RI := ⟨fun _ h => h, fun _ h => h⟩
theorem coll_ints {H1 H : Hp} {D : Addr} {l : List Int} (h : Coll H1 D RI H l) : Same H1 H ∧ H D = some (.lst (l.map V.int)) := by
  obtain ⟨g, acc, e, p⟩ := h
  refine ⟨g, ?_⟩
  have : acc = l.map V.int := by
    clear e
    induction p with
    | nil => rfl
    | cons h _ ih => rw [h, ih]; rfl
  rw [← this]; exact e
theorem fm_map {α β : Type} (q : α → Bool) (g : α → β) : ∀ l : List α, (l.flatMap fun i => if q i = true then [g i] else []) = (l.filter q).map g
  | [] => rfl
  | a :: l => by
    rw [List.flatMap_cons, fm_map q g l, List.filter_cons]
    by_cases c : q a = true
    · rw [if_pos c, if_pos c]; rfl
    · rw [if_neg c, if_neg c]; rfl
theorem fm_one {α β : Type} (g : α → β) : ∀ l : List α, (l.flatMap fun i => [g i]) = l.map g
  | [] => rfl
  | a :: l => by rw [List.flatMap_cons, fm_one g l]; rfl
theorem fm_fil {α β : Type} (f : α → β) (p : β → Bool) (l : List α) : (l.flatMap fun i => if p (f i) = true then [f i] else []) = (l.map f).filter p := by
  rw [fm_map (fun i => p (f i)) f l, List.filter_map]; rfl
theorem ite_len {α : Type} {c : Prop} [Decidable c] {a : α} : (if c then [a] else []).length ≤ 1 := by
  by_cases h : c
  · rw [if_pos h]; exact Nat.le_refl _
  · rw [if_neg h]; exact Nat.zero_le _
/-- items by number -/
theorem fm_getD {α β : Type} (f : α → List β) (d : α) (l : List α) : (List.range l.length).flatMap (fun i => f (l.getD i d)) = l.flatMap f := by
  have e : (List.range l.length).map (fun i => l.getD i d) = l := by
    refine List.ext_getElem? fun i => ?_
    rw [List.getElem?_map]
    by_cases c : i < l.length
    · rw [List.getElem?_range c, Option.map_some, List.getD_eq_getElem?_getD, List.getElem?_eq_getElem c]; rfl
    · rw [List.getElem?_eq_none (by rw [List.length_range]; omega), List.getElem?_eq_none (by omega)]; rfl
  conv => rhs; rw [← e]
  rw [List.flatMap_map]
theorem fm_len {α : Type} {ms : Nat → List α} {B : Nat} : ∀ n : Nat, (∀ i, i < n → (ms i).length ≤ B) → ((List.range n).flatMap ms).length ≤ n * B
  | 0, _ => Nat.zero_le _
  | n + 1, h => by
    have := fm_len n fun i hi => h i (by omega)
    have h2 := h n (by omega)
    rw [List.range_succ, List.flatMap_append, List.length_append, Nat.succ_mul]
    simp only [List.flatMap_cons, List.flatMap_nil, List.append_nil]
    omega
theorem pr_ix {α β : Type} {R : α → β → Prop} : ∀ {xs : List α} {ys : List β} {i : Nat} {x : α}, Paired R xs ys → xs[i]? = some x → ∃ y, ys[i]? = some y ∧ R x y
  | _, _, 0, _, .cons h _, e => by cases e; exact ⟨_, rfl, h⟩
  | _, _, i + 1, x, .cons _ r, e => pr_ix (i := i) r e
  | _, _, _, _, .nil, e => by cases e
theorem walk_enumS {K : PySem.W.Frag} {a : Addr} {xs : List V} {lo : Int} : Walk (ItE K a lo) xs.length (fun H => SqL K H a xs) (fun i H v H' => ∃ T y, v = .ref T ∧ H T = none ∧ H' = upd H T (.tup [.int (lo + (i : Nat)), y]) ∧ xs[i]? = some y) where
  goes := fun i H hi h => ⟨xs, xs[i], h, List.getElem?_eq_getElem hi⟩
  stops := fun H h => ⟨xs, h, Nat.le_refl _⟩
  yields := fun i H v H' hi h y => by
    obtain ⟨T, y, e1, e2, e3, e4⟩ := y
    exact ⟨T, y, e1, e2, e3, e4 _ h⟩
theorem pr_snoc_inv {α β : Type} {R : α → β → Prop} {b : β} : ∀ {bs : List β} {xs : List α}, Paired R xs (bs ++ [b]) → ∃ ys x, xs = ys ++ [x] ∧ Paired R ys bs ∧ R x b
  | [], _, .cons h .nil => ⟨[], _, rfl, .nil, h⟩
  | c :: bs, _, .cons h t => by
    obtain ⟨ys, x, rfl, hp, hr⟩ := pr_snoc_inv t
    exact ⟨_ :: ys, x, rfl, .cons h hp, hr⟩
theorem cut_init (xs : List V) (v : V) : cutV (xs ++ [v]) none (some (-1)) = xs := by
  have e1 : HT.sIx (xs ++ [v]).length (xs ++ [v]).length (some (-1)) = ((-1 : Int) + ((xs ++ [v]).length : Int)).toNat := rfl
  have e2 : HT.sIx (xs ++ [v]).length 0 none = 0 := rfl
  unfold cutV
  rw [e1, e2, List.length_append, List.length_singleton]
  show ((xs ++ [v]).drop 0).take (((-1 : Int) + ((xs.length + 1 : Nat) : Int)).toNat - 0) = xs
  rw [List.drop_zero, show ((-1 : Int) + ((xs.length + 1 : Nat) : Int)).toNat - 0 = xs.length by omega, List.take_left]
theorem fm_if {α β : Type} (p : α → Bool) (f : α → List β) : ∀ l : List α, (l.flatMap fun x => if p x = true then f x else []) = (l.filter p).flatMap f
  | [] => rfl
  | a :: l => by
    rw [List.flatMap_cons, fm_if p f l, List.filter_cons]
    by_cases c : p a = true
    · rw [if_pos c, if_pos c, List.flatMap_cons]
    · rw [if_neg c, if_neg c]; rfl
end Fp
/-! tasks: texts and what they tell -/
namespace TL
open PySem
theorem pre_second {s m c d : Nat} {S r : List Nat} (h : d ≠ m) : pre (s :: m :: S) (c :: d :: r) = false := by
  cases hp : pre (s :: m :: S) (c :: d :: r) with
  | false => rfl
  | true =>
    have e : (c :: d :: r).take (s :: m :: S).length = s :: m :: S := eq_of_beq hp
    rw [List.length_cons, List.take_succ_cons, List.length_cons, List.take_succ_cons] at e
    injection e with e1 e2
    injection e2 with e3 e4
    exact absurd e3 h
theorem pre_short {s m c : Nat} {S : List Nat} : pre (s :: m :: S) [c] = false := by
  cases hp : pre (s :: m :: S) [c] with
  | false => rfl
  | true =>
    have e : [c].take (s :: m :: S).length = s :: m :: S := eq_of_beq hp
    simp at e
theorem free_mid {s m : Nat} {S p r : List Nat} (h : m ∉ p) (hs : s ≠ m) (hr : r = [] ∨ ∃ t, r = s :: t) : ∀ i, i < p.length → pre (s :: m :: S) ((p ++ r).drop i) = false := fun i hi => by
  have e : (p ++ r).drop i = p[i] :: (p.drop (i + 1) ++ r) := by
    rw [List.drop_append_of_le_length (by omega), List.drop_eq_getElem_cons hi]; rfl
  rw [e]
  cases e2 : p.drop (i + 1) with
  | nil =>
    rcases hr with rfl | ⟨t, rfl⟩
    · exact pre_short
    · exact pre_second hs
  | cons d q =>
    refine pre_second fun z => h ?_
    have : d ∈ p.drop (i + 1) := by rw [e2]; exact List.mem_cons_self
    rw [← z]
    exact List.mem_of_mem_drop this
theorem spl_join_mid {s m : Nat} {S : List Nat} (hs : s ≠ m) : ∀ {parts : List (List Nat)}, parts ≠ [] → (∀ p ∈ parts, m ∉ p) → spl (s :: m :: S) 0 [] (joinL (s :: m :: S) parts) = parts
  | [], h, _ => absurd rfl h
  | [p], _, hp => by
    show spl (s :: m :: S) 0 [] p = [p]
    rw [spl_last (fun i hi => by
      have := free_mid (S := S) (r := []) (hp p (List.mem_singleton.mpr rfl)) hs (.inl rfl) i hi
      rwa [List.append_nil] at this), List.nil_append]
  | p :: q :: r, _, hp => by
    show spl (s :: m :: S) 0 [] (p ++ (s :: m :: S ++ joinL (s :: m :: S) (q :: r))) = p :: q :: r
    rw [spl_part (by simp) (free_mid (hp p (List.mem_cons_self ..)) hs (.inr ⟨_, rfl⟩)), List.nil_append, spl_join_mid hs (by simp) fun z hz => hp z (List.mem_cons_of_mem _ hz)]
theorem split_join_mid {y : Str} {s m : Nat} {S : List Nat} (ey : tl y = s :: m :: S) (hs : s ≠ m) (hk : y.cps.all (· < 256) = true) {parts : List Str} (hne : parts ≠ []) (hp : ∀ p ∈ parts, m ∉ tl p) :
    Txt.split (Txt.join y parts) y = parts := by
  refine map_tl_inj ?_
  rw [split_spl _ y (by rw [ey]; simp) (kind_ok hk), join_eq, tl_join, ey]
  refine spl_join_mid hs (fun e => hne (List.map_eq_nil_iff.mp e)) fun p h => ?_
  obtain ⟨z, hz, rfl⟩ := List.mem_map.mp h
  exact hp z hz
end TL
namespace Fp
open PySem PySem.Spec PyProof.Rows L2
abbrev TLn := List Int × List (List Int)
def litL (l : List Int) : Str := Txt.join " " (l.map fun i => (toString i : Str))
def lineT (ln : TLn) : Str := litL ln.1 ++ (" : " : Str) ++ Txt.join " | " (ln.2.map litL)
def taskT (ls : List TLn) : Str := Txt.join "\n" (ls.map lineT)
/-! what a text tells -/
def lotIn (z : Str) : Option (List Int) :=
  let ws := (Txt.split z " ").map fun w => numIn w 0 99
  if ws.all Option.isSome = true ∧ adjLt (ws.map fun o => o.getD 0) = true then some (ws.map fun o => o.getD 0) else none
def lineIn (z : Str) : Option TLn :=
  match Txt.split z " : " with
  | [a, b] => match lotIn a with
    | none => none
    | some l => if 4 < l.length ∨ ((Txt.split b " | ").map lotIn).any Option.isNone = true then none else some (l, ((Txt.split b " | ").map lotIn).map fun o => o.getD [])
  | _ => none
theorem starts_neg (z : Str) : Txt.startswith z "-" = isNeg z := by
  obtain ⟨⟨l⟩⟩ := z
  have hl : ("-" : Str) = ⟨#[45]⟩ := by decide +kernel
  rw [hl]
  unfold Txt.startswith isNeg sg Builtin.Str.subAt
  cases l with
  | nil => rfl
  | cons c r =>
    by_cases h : c = 45
    · subst h
      simp [Str.length]
    · have e : (match c :: r with | 45 :: _ => true | _ => false) = false := by
        split
        · rename_i h2
          cases h2
          exact absurd rfl h
        · rfl
      simp only [e]
      simp [Str.length, h]
theorem cut_tail (z : Str) : sg (cutS z (some 1) none) = (sg z).tail := by
  have e1 : HT.sIx z.length z.length none = z.length := rfl
  have e2 := HT.sIx_nat z.length 0 1
  show ((sg z).drop (HT.sIx z.length 0 (some 1))).take (HT.sIx z.length z.length none - HT.sIx z.length 0 (some 1)) = _
  rw [e1, show ((1 : Int)) = ((1 : Nat) : Int) from rfl, e2]
  have hl : z.length = (sg z).length := by simp [Str.length, sg]
  rw [hl]
  cases e : sg z with
  | nil => rfl
  | cons a b => simp
theorem atI0t {α : Type} {l : List α} {v : α} (h : l[0]? = some v) : atI l 0 = some v := atI_nat (j := 0) h
theorem len_sg (z : Str) : z.length = (sg z).length := by simp [Str.length, sg]
theorem numIn_some {w : Str} {lo hi n : Int} (e : intIn w = some n) (h : lo ≤ n ∧ n ≤ hi) : numIn w lo hi = some n := by
  unfold numIn; rw [e]; exact if_pos h
theorem numIn_out {w : Str} {lo hi n : Int} (e : intIn w = some n) (h : ¬ (lo ≤ n ∧ n ≤ hi)) : numIn w lo hi = none := by
  unfold numIn; rw [e]; exact if_neg h
theorem numIn_none {w : Str} {lo hi : Int} (e : intIn w = none) : numIn w lo hi = none := by
  unfold numIn; rw [e]

theorem numIn_range {w : Str} {lo hi n : Int} (h : numIn w lo hi = some n) : lo ≤ n ∧ n ≤ hi := by
  unfold numIn at h
  split at h
  · split at h
    · rename_i c
      cases h
      exact c
    · cases h
  · cases h
/-! ### what was told is read back -/
structure LotOk (l : List Int) : Prop where
  ne : l ≠ []
  up : l.Pairwise (· < ·)
  rng : ∀ x ∈ l, 0 ≤ x ∧ x ≤ 99
  few : l.length ≤ 100
structure LnOk (ln : TLn) : Prop where
  left : LotOk ln.1
  four : ln.1.length ≤ 4
  some : ln.2 ≠ []
  ends : ∀ e ∈ ln.2, LotOk e
  few : ln.2.length ≤ 30
theorem n99 {f : Int → Bool} (h : (List.range 100).all (fun k => f (k : Int)) = true) {i : Int} (h0 : 0 ≤ i) (h1 : i ≤ 99) : f i = true := by
  have := List.all_eq_true.mp h i.toNat (List.mem_range.mpr (by omega))
  rwa [show ((i.toNat : Nat) : Int) = i by omega] at this
def figs (i : Int) : Bool := decide ((toString i : Str).length ≤ 2) && ((sg (toString i : Str)).all fun c => decide (48 ≤ c ∧ c ≤ 57)) && decide (numIn (toString i) 0 99 = some i)
theorem figs_ok {i : Int} (h0 : 0 ≤ i) (h1 : i ≤ 99) : (toString i : Str).length ≤ 2 ∧ (∀ c ∈ sg (toString i : Str), 48 ≤ c ∧ c ≤ 57) ∧ numIn (toString i) 0 99 = some i := by
  have := n99 (f := figs) (by decide +kernel) h0 h1
  unfold figs at this
  simp only [Bool.and_eq_true, decide_eq_true_eq, List.all_eq_true] at this
  exact ⟨this.1.1, this.1.2, this.2⟩
theorem joinL_all {S : List Nat} {f : Nat → Prop} (hS : ∀ c ∈ S, f c) : ∀ {ls : List (List Nat)}, (∀ l ∈ ls, ∀ c ∈ l, f c) → ∀ c ∈ TL.joinL S ls, f c
  | [], _, c, h => nomatch h
  | [p], h, c, hc => h p (by simp) c hc
  | p :: q :: r, h, c, hc => by
    rcases List.mem_append.mp (show c ∈ p ++ (S ++ TL.joinL S (q :: r)) from hc) with m | m
    · exact h p (by simp) c m
    · rcases List.mem_append.mp m with m | m
      · exact hS c m
      · exact joinL_all hS (fun l hl => h l (by simp at hl ⊢; exact .inr hl)) c m
theorem join_signs {y : Str} {S : List Nat} (ey : TL.tl y = S) {parts : List Str} {f : Nat → Prop} (hS : ∀ c ∈ S, f c) (h : ∀ p ∈ parts, ∀ c ∈ sg p, f c) : ∀ c ∈ sg (Txt.join y parts), f c := by
  intro c hc
  have hc' : c ∈ TL.tl (Txt.join y parts) := hc
  rw [TL.join_eq, TL.tl_join, ey] at hc'
  refine joinL_all hS ?_ c hc'
  intro l hl c hc
  obtain ⟨p, hp, rfl⟩ := List.mem_map.mp hl
  exact h p hp c hc
theorem lit_signs {l : List Int} (h : ∀ x ∈ l, 0 ≤ x ∧ x ≤ 99) : ∀ c ∈ sg (litL l), c = 32 ∨ (48 ≤ c ∧ c ≤ 57) := by
  refine join_signs (S := [32]) (by decide +kernel) (fun c hc => .inl (List.mem_singleton.mp hc)) fun p hp c hc => ?_
  obtain ⟨i, hi, rfl⟩ := List.mem_map.mp hp
  exact .inr ((figs_ok (h i hi).1 (h i hi).2).2.1 c hc)
theorem lot_back {l : List Int} (h : LotOk l) : lotIn (litL l) = some l := by
  have e : Txt.split (litL l) " " = l.map fun i => (toString i : Str) := by
    refine TL.split_join (s := 32) (S := []) (by decide +kernel) (by decide +kernel) (by simpa using h.ne) fun p hp hm => ?_
    obtain ⟨i, hi, rfl⟩ := List.mem_map.mp hp
    have := (figs_ok (h.rng i hi).1 (h.rng i hi).2).2.1 32 hm
    omega
  have e2 : (l.map fun i => (toString i : Str)).map (fun w => numIn w 0 99) = l.map some := by
    rw [List.map_map]
    exact List.map_congr_left fun i hi => (figs_ok (h.rng i hi).1 (h.rng i hi).2).2.2
  have e3 : (l.map some).map (fun o : Option Int => o.getD 0) = l := by rw [List.map_map]; exact List.map_id _
  unfold lotIn
  simp only [e, e2, e3]
  rw [if_pos ⟨by simp, adjLt_iff.mpr h.up⟩]
theorem str_app (a b : Str) : sg (a ++ b) = sg a ++ sg b := TL.tl_append a b
theorem ends_signs {es : List (List Int)} (h : ∀ e ∈ es, LotOk e) : ∀ c ∈ sg (Txt.join " | " (es.map litL)), c = 32 ∨ c = 124 ∨ (48 ≤ c ∧ c ≤ 57) := by
  refine join_signs (S := [32, 124, 32]) (by decide +kernel) (fun c hc => ?_) fun p hp c hc => ?_
  · simp only [List.mem_cons, List.not_mem_nil, or_false] at hc
    rcases hc with rfl | rfl | rfl <;> simp
  · obtain ⟨l, hl, rfl⟩ := List.mem_map.mp hp
    rcases lit_signs (h l hl).rng c hc with e | e
    · exact .inl e
    · exact .inr (.inr e)
theorem line_join (ln : TLn) : lineT ln = Txt.join " : " [litL ln.1, Txt.join " | " (ln.2.map litL)] := by
  rw [TL.join_eq]; rfl
theorem line_signs {ln : TLn} (h : LnOk ln) : ∀ c ∈ sg (lineT ln), c = 32 ∨ c = 58 ∨ c = 124 ∨ (48 ≤ c ∧ c ≤ 57) := by
  rw [line_join]
  refine join_signs (S := [32, 58, 32]) (by decide +kernel) (fun c hc => ?_) fun p hp c hc => ?_
  · simp only [List.mem_cons, List.not_mem_nil, or_false] at hc
    rcases hc with rfl | rfl | rfl <;> simp
  · simp only [List.mem_cons, List.not_mem_nil, or_false] at hp
    rcases hp with rfl | rfl
    · rcases lit_signs h.left.rng c hc with e | e
      · exact .inl e
      · exact .inr (.inr (.inr e))
    · rcases ends_signs h.ends c hc with e | e | e
      · exact .inl e
      · exact .inr (.inr (.inl e))
      · exact .inr (.inr (.inr e))
theorem line_back {ln : TLn} (h : LnOk ln) : lineIn (lineT ln) = some ln := by
  have e1 : Txt.split (lineT ln) " : " = [litL ln.1, Txt.join " | " (ln.2.map litL)] := by
    rw [line_join]
    refine TL.split_join_mid (s := 32) (m := 58) (S := [32]) (by decide +kernel) (by decide) (by decide +kernel) (by simp) fun p hp hm => ?_
    simp only [List.mem_cons, List.not_mem_nil, or_false] at hp
    rcases hp with rfl | rfl
    · have := lit_signs h.left.rng 58 hm
      omega
    · have := ends_signs h.ends 58 hm
      omega
  have e2 : Txt.split (Txt.join " | " (ln.2.map litL)) " | " = ln.2.map litL := by
    refine TL.split_join_mid (s := 32) (m := 124) (S := [32]) (by decide +kernel) (by decide) (by decide +kernel) (by simpa using h.some) fun p hp hm => ?_
    obtain ⟨l, hl, rfl⟩ := List.mem_map.mp hp
    have := lit_signs (h.ends l hl).rng 124 hm
    omega
  have e3 : (ln.2.map litL).map lotIn = ln.2.map some := by
    rw [List.map_map]
    exact List.map_congr_left fun l hl => lot_back (h.ends l hl)
  unfold lineIn
  rw [e1]
  simp only [lot_back h.left, e2, e3]
  have hf := h.four
  rw [if_neg (by simp; omega), List.map_map]
  show some (ln.1, ln.2.map id) = _
  rw [List.map_id]
theorem task_back {ls : List TLn} (hne : ls ≠ []) (h : ∀ ln ∈ ls, LnOk ln) : Txt.split (taskT ls) "\n" = ls.map lineT := by
  refine TL.split_join (s := 10) (S := []) (by decide +kernel) (by decide +kernel) (by simpa using hne) fun p hp hm => ?_
  obtain ⟨ln, hl, rfl⟩ := List.mem_map.mp hp
  have := line_signs (h ln hl) 10 hm
  omega

/-! ### in the heap -/
def LtV (H : Hp) (v : V) (l : List Int) : Prop := ∃ c, v = .ref c ∧ H c = some (.tup (l.map V.int))
def EndsV (H : Hp) (v : V) (es : List (List Int)) : Prop := ∃ t ys, v = .ref t ∧ H t = some (.tup ys) ∧ Paired (LtV H) ys es
def LnV (H : Hp) (v : V) (ln : TLn) : Prop := ∃ t a b, v = .ref t ∧ H t = some (.tup [a, b]) ∧ LtV H a ln.1 ∧ EndsV H b ln.2
theorem LtV.tk {H H' : Hp} (g : TK H H') {v : V} {l : List Int} : LtV H v l → LtV H' v l := fun ⟨c, e, h⟩ => ⟨c, e, g.t h⟩
theorem EndsV.tk {H H' : Hp} (g : TK H H') {v : V} {es : List (List Int)} : EndsV H v es → EndsV H' v es := fun ⟨t, ys, e, h, p⟩ => ⟨t, ys, e, g.t h, pr_imp (fun _ _ h => LtV.tk g h) p⟩
theorem LnV.tk {H H' : Hp} (g : TK H H') {v : V} {ln : TLn} : LnV H v ln → LnV H' v ln := fun ⟨t, a, b, e, h, i, j⟩ => ⟨t, a, b, e, g.t h, i.tk g, j.tk g⟩
theorem tk_lst {H : Hp} {p : Addr} {xs : List V} {u : HO} (h : H p = some (.lst xs)) : TK H (upd H p u) := TK.put h (fun z => z.elim)
theorem stab_lt : Stab LtV := ⟨fun g h => h.tk (.of g), fun e h => h.tk (tk_lst e)⟩
theorem stab_ends : Stab EndsV := ⟨fun g h => h.tk (.of g), fun e h => h.tk (tk_lst e)⟩
theorem stab_ln : Stab LnV := ⟨fun g h => h.tk (.of g), fun e h => h.tk (tk_lst e)⟩
theorem LtV.inj {H : Hp} {v : V} {l m : List Int} (h : LtV H v l) (g : LtV H v m) : l = m := by
  obtain ⟨c, rfl, h⟩ := h
  obtain ⟨d, e, g⟩ := g
  cases e
  rw [h] at g
  injection g with g
  injection g with g
  have := congrArg (List.map fun v : V => match v with
    | .int i => i
    | _ => 0) g
  rw [List.map_map, List.map_map] at this
  have e : ∀ l : List Int, l.map ((fun v : V => match v with
    | .int i => i
    | _ => 0) ∘ V.int) = l := fun l => List.map_id l
  rwa [e, e] at this
def LotRes (H : Hp) (v : V) : Option (List Int) → Prop
  | none => v = .non
  | some l => LtV H v l
theorem LotRes.tk {H H' : Hp} (g : TK H H') {v : V} : ∀ {o : Option (List Int)}, LotRes H v o → LotRes H' v o
  | none, h => h
  | some _, h => LtV.tk g h
def LnRes (H : Hp) (v : V) : Option TLn → Prop
  | none => v = .non
  | some ln => LnV H v ln
theorem LnRes.tk {H H' : Hp} (g : TK H H') {v : V} : ∀ {o : Option TLn}, LnRes H v o → LnRes H' v o
  | none, h => h
  | some _, h => LnV.tk g h
theorem stab_lotres : Stab LotRes := ⟨fun g h => h.tk (.of g), fun e h => h.tk (tk_lst e)⟩
def lotP (l : List Int) : PyData := .tuple (l.map PyData.int)
theorem lt_dp {K : PySem.W.Frag} {H : Hp} {v : V} {l : List Int} (h : LtV H v l) : Dp K H v (lotP l) := by
  obtain ⟨c, rfl, h⟩ := h
  refine .tup (.of h) ?_
  clear h
  induction l with
  | nil => exact .nil
  | cons a l ih => exact .cons (.int a) ih
theorem lotP_eq (l : List Int) : toP 1 (lotD l) = lotP l := by
  show PyData.tuple ((l.map Dt.int).map (toP 0)) = _
  rw [List.map_map]; rfl
theorem lotP_eqv (l m : List Int) : PyData.eqv (lotP l) (lotP m) = decide (l = m) := by
  have h : ∀ l : List Int, pl 1 (lotD l) = true := fun l => pl_tup.mpr fun e he => by obtain ⟨i, _, rfl⟩ := List.mem_map.mp he; rfl
  rw [← lotP_eq, ← lotP_eq, Bool.eq_iff_iff, eqv_iff (h _) (h _), decide_eq_true_iff]
  exact ⟨lotD_inj, fun z => by rw [z]⟩
theorem lotP_shaped (l : List Int) : SeqAt.shaped (lotP l) = true := by rw [← lotP_eq]; exact toP_shaped (by decide)
theorem mem_full {n : Nat} {x : Int} : x ∈ fullL n ↔ 0 ≤ x ∧ x < n := by
  unfold fullL
  rw [List.mem_map]
  constructor
  · rintro ⟨i, hi, rfl⟩
    have := List.mem_range.mp hi
    omega
  · rintro ⟨a, b⟩
    exact ⟨x.toNat, List.mem_range.mpr (by omega), by omega⟩
/-- the lot of these words, all below 100 -/
def lotM (ws : List Int) : List Int := (fullL 100).filter fun x => decide (x ∈ ws)
theorem lotM_up (ws : List Int) : (lotM ws).Pairwise (· < ·) := (fullL_up 100).filter _
theorem lotM_mem {ws : List Int} (r : ∀ x ∈ ws, 0 ≤ x ∧ x < 100) {x : Int} : x ∈ lotM ws ↔ x ∈ ws := by
  unfold lotM
  rw [List.mem_filter, mem_full, decide_eq_true_iff]
  exact ⟨fun h => h.2, fun h => ⟨r x h, h⟩⟩
theorem lotM_of {zs ws : List Int} (h : zs.Pairwise (· < ·)) (m : ∀ x, x ∈ zs ↔ x ∈ ws) (r : ∀ x ∈ ws, 0 ≤ x ∧ x < 100) : zs = lotM ws :=
  srt_eq h (lotM_up ws) fun x => (m x).trans (lotM_mem r).symm
end Fp
/-! xs.extend(tuple) -/
namespace L2
open PySem PySem.Spec PyProof.Rows
open PySem.AutoSeq1 (wpAny_loadPart' idx_int)
theorem ext_tup (l : Addr) (xs : Array Value) (n : Nat) (b : Addr) (ys : Array Value) (m : Nat) (dd : Option Addr) (sl : Array (Option Value)) (h0 : ¬ (!xs.isEmpty && Builtin.List.listTooLong (xs.size + ys.size)) = true) (h1 : xs.size ≤ sizeLine) (h2 : xs.size + ys.size ≤ sizeLine + 1) :
    Meets (Builtin.«list.extend» ⟨[.ref l, .ref b], []⟩) (fun _ R s => s.heap.get? l = some { cls := .type "list", dict := none, data := .seq xs n, slots := #[] } ∧
      s.heap.get? b = some { cls := .type "tuple", dict := dd, data := .seq ys m, slots := sl } ∧ R (.ok (.ret Value.none)) { s with heap := s.heap.update l (Obj.mapSeq fun x => x ++ ys), toks := s.toks }) :=
  .of_wp fun prog w A R s h => by
    obtain ⟨hp, g, d, tk, os⟩ := s
    obtain ⟨ha, hb, h⟩ := h
    have e1 := idx_int
    have e2 := PySem.AutoSeq1.sub_tuple_tuple
    have e3 := PySem.AutoSeq1.sub_list_list
    have e4 := PySem.AutoSeq1.sub_tuple_list
    have e5 := PySem.AutoSeq1.sub_list_tuple
    have hz : (xs ++ ys).size ≤ sizeLine + 1 := by rw [Array.size_append]; exact h2
    wp_walk using (wpAny_updateSeq ha rfl (hz := h1) (_hz' := hz)), wpAny_loadPart' ha, wpAny_loadPart' hb
    exact ⟨_, rfl, h⟩
def rExtendT (K : PySem.W.Frag) : V → List V → Hp → VK → Prop := fun x vs H Q => ∃ l b xs zs, x = .ref l ∧ vs = [.ref b] ∧ H l = some (.lst xs) ∧ SqT K H b zs ∧ xs.length + zs.length ≤ sizeLine ∧ Q .non (upd H l (.lst (xs ++ zs)))
theorem mt_extendT {X : Cx} : MtM X "list.extend" (rExtendT X.K) := by
  intro pins s σ H x vs v us Q I rx rv h
  obtain ⟨l, b, xs, zs, rfl, rfl, hH, hB, hz, q⟩ := h
  cases rx
  obtain ⟨u, rfl, ru⟩ := rv.one
  cases ru
  obtain ⟨z, its, n, r, hl, e⟩ := I.lstM hH
  obtain ⟨its2, r2, ⟨⟨cls, dd, data, sl⟩, ho, hc, n2, hd⟩, hs2⟩ := I.tuple hB
  simp only at hc hd
  subst hc hd
  have hl2 := r2.length
  have hsz : its.toArray.size + its2.toArray.size ≤ sizeLine := by simp only [List.size_toArray]; omega
  refine call_meets F.slot_list_extend ⟨_, e, rfl⟩ F.entry_list_extend (F.args_list_extend_2 _ _) (ext_tup l its.toArray n b its2.toArray n2 dd sl ?_ (by simp only [List.size_toArray]; omega) (by omega)) ⟨e, ho, ?_⟩
  · rw [notLongL hsz, Bool.and_false]
    exact Bool.false_ne_true
  · refine ⟨.non, _, I.lset (its' := its ++ its2) hH e (by simp) (r.append r2) ?_, rfl, q⟩
    rw [List.length_append]; omega
end L2
/-! t[::-1] of a tuple; xs[-2::-1] of a list -/
namespace Fp
open PySem PySem.Spec PyProof.Rows L2
section
variable {prog : Program} {w : World} {A : Around} {E : Value → Shared → Prop} {s : Shared}
theorem applied_rev {sl : Addr} {vs : Value} {n : Nat} {Q : Int × Int × Nat → Shared → Prop} (hs : s.heap.IsSliceOf sl .none .none vs) (ps : IsPart vs (some (-1))) (h : Q ((n : Int) - 1, -1, n) s) :
    wpAny (model prog w) A (Builtin.Slice.sliceApplied (.ref sl) (pure (n : Int))) Q E s := by
  obtain ⟨os, hos, hcs, hds⟩ := id hs
  unfold Builtin.Slice.sliceApplied Builtin.Slice.sliceFields
  refine wpAny_bind (wpAny_bind (wpAny_field hos hds (x := .none) rfl (wpAny_bind (wpAny_field hos hds (x := .none) rfl (wpAny_bind (wpAny_field hos hds (x := vs) rfl (wpAny_pure ?_)))))))
  refine wpAny_bind (HT.slicePart_ ps ?_)
  show wpAny _ _ (if ((-1 : Int) == 0) = true then _ else _) _ _ s
  rw [if_neg (by decide)]
  refine wpAny_bind (slicePart_none (wpAny_bind (slicePart_none (wpAny_bind (wpAny_pure ?_)))))
  have e : Builtin.Slice.sliceAdjust none none (-1) (n : Int) = ((n : Int) - 1, -1) := by
    unfold Builtin.Slice.sliceAdjust
    simp only [show ((-1 : Int) < 0) by decide, if_true]
  have p : Builtin.Slice.slicePlaces ((n : Int) - 1) (-1) (-1) = n := by
    unfold Builtin.Slice.slicePlaces
    simp only [show ¬ ((-1 : Int) > 0) by decide, if_false]
    by_cases c : (n : Int) - 1 > -1
    · rw [if_pos c, show (-(-1) : Int) = 1 by decide, Int.ediv_one]; omega
    · rw [if_neg c]; omega
  show wpAny _ _ (match Builtin.Slice.sliceAdjust none none (-1) (n : Int) with | (lo, hi) => pure (lo, (-1 : Int), Builtin.Slice.slicePlaces lo hi (-1))) _ _ s
  rw [e]
  show wpAny _ _ (pure ((n : Int) - 1, (-1 : Int), Builtin.Slice.slicePlaces ((n : Int) - 1) (-1) (-1))) _ _ s
  rw [p]
  exact wpAny_pure h
theorem pick_rev (xs : Array Value) : ((List.range xs.size).filterMap fun (m : Nat) => xs[(((xs.size : Nat) : Int) - 1 + (m : Int) * (-1)).toNat]?).toArray = xs.toList.reverse.toArray := by
  have e : ((List.range xs.size).filterMap fun (m : Nat) => xs[(((xs.size : Nat) : Int) - 1 + (m : Int) * (-1)).toNat]?) = ((List.range xs.size).map (fun k => xs.size - 1 - k)).filterMap (xs[·]?) := by
    rw [List.filterMap_map]
    refine congrArg (fun f => List.filterMap f (List.range xs.size)) (funext fun m => ?_)
    show xs[(((xs.size : Nat) : Int) - 1 + (m : Int) * (-1)).toNat]? = xs[xs.size - 1 - m]?
    congr 1
    omega
  rw [e, PySem.W.krv_range, List.filterMap_reverse, PySem.W.krv_all]
theorem item_rev {t sl : Addr} {items : Array Value} {vs : Value} {Q : Value → Shared → Prop} (ht : IsTup s.heap t items) (hs : s.heap.IsSliceOf sl .none .none vs) (ps : IsPart vs (some (-1)))
    (h : Q (.ref s.heap.objs.size) { s with heap := s.heap.push { cls := .type "tuple", data := .seq items.toList.reverse.toArray } }) (hsz : items.size ≤ sizeLine) : wpAny (model prog w) A (getItem (.ref t) (.ref sl)) Q E s := by
  have hok : sizeOk (.seq items.toList.reverse.toArray) := by
    show items.toList.reverse.toArray.size ≤ sizeLine
    rw [List.size_toArray, List.length_reverse, Array.length_toList]
    exact hsz
  obtain ⟨os, hos, hcs, hds⟩ := id hs
  have hTs : s.TypeIs (.ref sl) "slice" := ⟨os, hos, hcs⟩
  unfold getItem
  try with_reducible refine wpAny_holding ?_
  first | refine wpAny_bind (wpAny_pure ?_) | skip
  refine wpAny_bind (wpAny_sequenceKey ht.typeIs (by decide) ?_)
  refine wpAny_bind (wpAny_callSpecial?_slot (name := Str.ofString "__getitem__") ht.typeIs PyProof.Rows.slot_tuple_getitem
    (wpAny_call_entry PyProof.Rows.slot_tuple_getitem ht.typeIs entry_tuple_getitem ?_ (args_tuple_getitem _ _)))
  show wpAny _ _ (Builtin.Tuple.tupleItemsOf (.ref t) >>= _) _ _ s
  refine wpAny_bind (tupleItemsOf_ ht (wpAny_bind (wpAny_typeOf hTs ?_)))
  rw [if_pos (by decide)]
  refine wpAny_bind (applied_rev hs ps ?_)
  have hno : ¬ ((((items.size : Nat) : Int) - 1 == 0 && (-1 : Int) == 1 && items.size == items.size) = true) := fun q => by
    rw [Bool.and_eq_true, Bool.and_eq_true] at q
    exact absurd q.1.2 (by decide)
  show wpAny _ _ (if (((items.size : Nat) : Int) - 1 == 0 && (-1 : Int) == 1 && items.size == items.size) = true then _ else _) _ _ s
  rw [if_neg hno, pick_rev]
  first
    | exact wpAny_bind (m := Builtin.Tuple.tupleExact _) (wpAny_newObj_type (wpAny_pure ⟨_, rfl, wpAny_pure h⟩) hok)
    | exact wpAny_bind (m := Builtin.Tuple.tupleExact _) (wpAny_newObj_type (wpAny_bind (wpAny_pure (wpAny_pure ⟨_, rfl, wpAny_pure h⟩))) hok)
    | exact wpAny_bind (wpAny_bind (m := Builtin.Tuple.tupleExact _) (wpAny_newObj_type (wpAny_pure (wpAny_pure ⟨_, rfl, wpAny_pure h⟩)) hok))
    | exact wpAny_bind (wpAny_bind (m := Builtin.Tuple.tupleExact _) (wpAny_newObj_type (wpAny_pure ⟨_, rfl, wpAny_pure h⟩) hok))
end
theorem fm_congr {α β : Type} {f g : α → Option β} : ∀ {l : List α}, (∀ x ∈ l, f x = g x) → l.filterMap f = l.filterMap g
  | [], _ => rfl
  | a :: l, h => by
    rw [List.filterMap_cons, List.filterMap_cons, h a (by simp), fm_congr fun x hx => h x (List.mem_cons_of_mem _ hx)]
theorem pick_back (items : Array Value) (hn : 1 ≤ items.size) : slicePick items (some (-2)) none (some (-1)) = items.toList.dropLast.reverse.toArray := by
  have e : sliceBounds (some (-2)) none (some (-1)) items.size = (((items.size - 1 : Nat) : Int) - 1, -1, -1) := by
    unfold sliceBounds
    simp only [Option.getD_some, show ¬ ((-1 : Int) > 0) by decide, if_false, show ((-2 : Int) < 0) by decide, if_true]
    refine Prod.ext ?_ rfl
    show max (-1) (min (-2 + ((items.size : Nat) : Int)) (((items.size : Nat) : Int) - 1)) = ((items.size - 1 : Nat) : Int) - 1
    omega
  unfold slicePick
  rw [e]
  show ((sliceRange (((items.size - 1 : Nat) : Int) - 1) (-1) (-1)).filterMap (items[·]?)).toArray = _
  rw [PySem.W.krv_sliceRange, PySem.W.krv_range, List.filterMap_reverse]
  congr 2
  have h := PySem.W.krv_all (items.toList.dropLast.toArray)
  rw [show items.toList.dropLast.toArray.size = items.size - 1 by simp] at h
  rw [show items.toList.dropLast = items.toList.dropLast.toArray.toList by simp, ← h]
  refine fm_congr fun x hx => ?_
  have hx := List.mem_range.mp hx
  show items[x]? = items.toList.dropLast.toArray[x]?
  have e1 : items.toList.dropLast.toArray[x]? = items.toList.dropLast[x]? := by simp
  rw [e1, List.getElem?_dropLast, if_pos (by rw [Array.length_toList]; exact hx), Array.getElem?_toList]
def tRevT (K : PySem.W.Frag) (te : TE) : TE := fun σ H Q => te σ H fun x H1 => ∃ a xs, x = .ref a ∧ SqT K H1 a xs ∧ ∀ p, H1 p = none → Q (.ref p) (upd H1 p (.tup xs.reverse))
def tBack (K : PySem.W.Frag) (te : TE) : TE := fun σ H Q => te σ H fun x H1 => ∃ a xs, x = .ref a ∧ SqL K H1 a xs ∧ xs ≠ [] ∧ ∀ p, H1 p = none → Q (.ref p) (upd H1 p (.lst xs.dropLast.reverse))
theorem Vals.dropLast' : ∀ {xs : List V} {us : List Value}, Vals xs us → Vals xs.dropLast us.dropLast
  | _, _, .nil => .nil
  | [_], [_], .cons _ .nil => .nil
  | _ :: _ :: _, _ :: _ :: _, .cons h (.cons g t) => .cons h (Vals.dropLast' (.cons g t))
section
variable {X : Cx}
theorem pe_revT {e : Expr} {te : TE} {k : Nat} {p1 p2 p3 pos : Pos} (he : PE X e te) : PE X (.Subscript e (.Slice none none (some (.UnaryOp .USub (.Constant (.int 1) k p1) p2)) p3) pos) (tRevT X.K te) := by
  refine ⟨fun pins s σ H Q I h => ?_⟩
  refine Subscript_ (thn (he.run pins s σ H _ I h) fun v s1 ⟨x, H1, I1, r1, q1⟩ => ?_)
  obtain ⟨a, xs, ex, hx, q⟩ := q1
  subst ex
  cases r1
  have hst : PO X (some (.UnaryOp .USub (.Constant (.int 1) k p1) p2)) (tPart (tUn (rU fun i => .int (-i)) (tC (.int 1)))) := po_some (pe_un un_neg pe_int)
  refine wpAny_Slice (thn (po_none.run pins s1 σ H1 (fun o H2 => o = none ∧ H2 = H1) I1 ⟨rfl, rfl⟩) fun vl s2 ⟨l, H2, I2, pL, el, e2⟩ => ?_)
  subst el e2
  refine thn (po_none.run pins s2 σ H2 (fun o H3 => o = none ∧ H3 = H2) I2 ⟨rfl, rfl⟩) fun vu s3 ⟨u, H3, I3, pu, eu, e3⟩ => ?_
  subst eu e3
  refine thn (hst.run pins s3 σ H3 (fun o H4 => o = some (-1) ∧ H4 = H3) I3 ⟨1, rfl, -1, rfl, rfl, rfl⟩) fun vs s4 ⟨o, H4, I4, ps, eo, e4⟩ => ?_
  subst eo e4
  cases pL
  cases pu
  have I5 : Inv X pins σ H4 { s4 with heap := s4.heap.push { cls := .type "slice", data := .fields #[.none, .none, vs] } } := I4.kept (t' := s4.toks) fun b ob q => Heap.get?_push_of_some _ q
  obtain ⟨its, r, ht, hz⟩ := I5.tuple hx
  have hlen := r.length
  show wpAny (model X.prog X.w) X.A (subscriptTail e (.Slice none none (some (.UnaryOp .USub (.Constant (.int 1) k p1) p2)) p3) (.ref a) (.ref s4.heap.objs.size)) (EP X pins σ Q) X.xe { s4 with heap := s4.heap.push { cls := .type "slice", data := .fields #[.none, .none, vs] } }
  refine tail_any (ops := [.ref a, .ref s4.heap.objs.size]) ht.typeIs (PyProof.Rows.slot_tuple_getitem.lookup) ?_ (by with_unfolding_all rfl)
  refine item_rev ht (Heap.IsSliceOf.new _ .none .none vs) ps ?_ (by rw [List.size_toArray]; omega)
  refine ⟨.ref _, _, I5.laid (t' := s4.toks) (o := .tup xs.reverse) (fun b ob q => Heap.get?_push_of_some _ q) (Nat.le_refl _) ?_, rfl, q _ (I5.hok.fresh (Nat.le_refl _))⟩
  exact ⟨by rw [List.length_reverse]; exact hz, _, r.reverse, IsTup.new _ _⟩
theorem pe_back2 {e : Expr} {te : TE} {k k2 : Nat} {p1 p2 p3 p4 p5 pos : Pos} (he : PE X e te) : PE X (.Subscript e (.Slice (some (.UnaryOp .USub (.Constant (.int 2) k2 p4) p5)) none (some (.UnaryOp .USub (.Constant (.int 1) k p1) p2)) p3) pos) (tBack X.K te) := by
  refine ⟨fun pins s σ H Q I h => ?_⟩
  refine Subscript_ (thn (he.run pins s σ H _ I h) fun v s1 ⟨x, H1, I1, r1, q1⟩ => ?_)
  obtain ⟨a, xs, ex, hx, hne, q⟩ := q1
  subst ex
  cases r1
  have hst : PO X (some (.UnaryOp .USub (.Constant (.int 1) k p1) p2)) (tPart (tUn (rU fun i => .int (-i)) (tC (.int 1)))) := po_some (pe_un un_neg pe_int)
  have hst2 : PO X (some (.UnaryOp .USub (.Constant (.int 2) k2 p4) p5)) (tPart (tUn (rU fun i => .int (-i)) (tC (.int 2)))) := po_some (pe_un un_neg pe_int)
  refine wpAny_Slice (thn (hst2.run pins s1 σ H1 (fun o H2 => o = some (-2) ∧ H2 = H1) I1 ⟨2, rfl, -2, rfl, rfl, rfl⟩) fun vl s2 ⟨l, H2, I2, pL, el, e2⟩ => ?_)
  subst el e2
  refine thn (po_none.run pins s2 σ H2 (fun o H3 => o = none ∧ H3 = H2) I2 ⟨rfl, rfl⟩) fun vu s3 ⟨u, H3, I3, pu, eu, e3⟩ => ?_
  subst eu e3
  refine thn (hst.run pins s3 σ H3 (fun o H4 => o = some (-1) ∧ H4 = H3) I3 ⟨1, rfl, -1, rfl, rfl, rfl⟩) fun vs s4 ⟨o, H4, I4, ps, eo, e4⟩ => ?_
  subst eo e4
  have I5 : Inv X pins σ H4 { s4 with heap := s4.heap.push { cls := .type "slice", data := .fields #[vl, vu, vs] } } := I4.kept (t' := s4.toks) fun b ob q => Heap.get?_push_of_some _ q
  obtain ⟨its, r, ht, hz⟩ := I5.list hx
  have hlen := r.length
  have h1 : 1 ≤ its.toArray.size := by
    have := List.length_pos_iff.mpr hne
    rw [List.size_toArray]; omega
  show wpAny (model X.prog X.w) X.A (subscriptTail e (.Slice (some (.UnaryOp .USub (.Constant (.int 2) k2 p4) p5)) none (some (.UnaryOp .USub (.Constant (.int 1) k p1) p2)) p3) (.ref a) (.ref s4.heap.objs.size)) (EP X pins σ Q) X.xe { s4 with heap := s4.heap.push { cls := .type "slice", data := .fields #[vl, vu, vs] } }
  refine tail_any (ops := [.ref a, .ref s4.heap.objs.size]) ht.isList.typeIs (PySem.slot_list_getitem.lookup) ?_ (by with_unfolding_all rfl)
  refine wpAny_getItem_list_slice ht.isList (Heap.IsSliceOf.new _ vl vu vs) pL pu ps (by decide) ?_ (by rw [List.size_toArray]; omega)
  rw [pick_back _ h1]
  refine ⟨.ref _, _, I5.laid (t' := s4.toks) (o := .lst xs.dropLast.reverse) (fun b ob q => Heap.get?_push_of_some _ q) (Nat.le_refl _) ?_, rfl, q _ (I5.hok.fresh (Nat.le_refl _))⟩
  exact ⟨by rw [List.length_reverse, List.length_dropLast]; omega, _, 0, (Vals.dropLast' r).reverse, Heap.get?_push_size _ rfl⟩
end
end Fp
/-! errors of the program's own classes, whose __init__ (a base's) keeps its only argument as value: made and raised -/
namespace Fp
open PySem PySem.Spec PyProof.Rows L2
/-- HandError.__init__: self.value = value -/
def spHInit (K : PySem.W.Frag) : Sp := fun vs H Q _ => ∃ (a C : Addr) (v : V), vs = [.ref a, v] ∧ OexC K C ∧ PySem.W.findIn K (.ref C) "value" = some none ∧ H a = some (exo a C none) ∧
  ∀ dx, H dx = none → dx ≠ a → Q .non (upd (upd H dx (exd dx [("value", v)])) a (exo a C (some dx)))
structure ErrC (P : Program) (w : World) (K : PySem.W.Frag) (mg : Str → Option Value) (base : Heap) (x : Str) (C : Addr) : Prop where
  oex : OexC K C
  at_ : mg x = some (.ref C)
  noV : PySem.W.findIn K (.ref C) "value" = some none
  ex : ∃ (fI : Addr) (fd : FuncData), PySem.W.findIn K (.ref C) "__init__" = some (some (.ref fI)) ∧ PySem.W.typeIn K (.ref fI) = some (.type "function") ∧ Binds K fd ["self", "value"] [] ∧ FnOk P w K mg base CX0 1 fI fd ["self", "value"] (spHInit K)
/-- raise X(e) -/
def tRaiseE (C : Addr) (W : WX) (te : TE) : TS := fun _ σ H => te σ H fun v H1 => ∀ d, H1 d = none → W (.ref C) (some d) σ (upd H1 d (.xd [("value", v)]))
section
variable {X : Cx} {W : WX} {x : Str} {C : Addr} {e : Expr} {te : TE} {p pos pos' : Pos}
theorem del_upd {H : Hp} {a : Addr} {o u : HO} (h : H a = none) : L2.del (upd (upd H a o) a u) a = H := by
  funext b
  by_cases z : b = a
  · rw [z, del_same, h]
  · rw [del_ne z, upd_ne z, upd_ne z]
def tUp (te : TE) : TE := fun σ H Q => ∃ Q' : V → Hp → Prop, te σ H Q' ∧ ∀ x H', Q' x H' → Q x H'
theorem pe_up (he : PE X e te) : PE X e (tUp te) := ⟨fun pins s σ H Q I h => by
  obtain ⟨Q', h, m⟩ := h
  exact thn (he.run pins s σ H _ I h) fun u s1 ⟨x, H1, I1, r1, q1⟩ => ⟨x, H1, I1, r1, m _ _ q1⟩⟩
theorem ps_raiseE (hc : X.calm = true) (tk : Takes X W) (M : ErrC X.prog X.w X.K X.mg X.base x C) (hr : Room 2 X.A) (hg : Gl X x) (he : PE X e te) (hdb : (x == ("__debug__" : Str)) = false := by decide)
    (hs : starEach [e] X.env = (false, eval e X.env) :: starEach [] X.env := by rfl) (hpl : (backTo pos (starEach [] X.env)).any (·.1) = false := by rfl) : PS X (.Raise (some (.Call (.Name x p) [e] [] pos)) none pos') (tRaiseE C W te) := by
  obtain ⟨fI, fd, iC, tI, hb, F⟩ := M.ex
  have r := ps_raise (pos := pos') hc tk (pmk_oex (p := p) (pos := pos) M.oex iC tI F hr hb .nil pass0 hg M.at_ (pa_cons (pe_up he) pa_nil hs) hdb hs hpl)
  refine ⟨fun pins s σ H D I h => r.run pins s σ H D I ?_⟩
  have h : te σ H fun v H1 => ∀ d, H1 d = none → W (.ref C) (some d) σ (upd H1 d (.xd [("value", v)])) := h
  refine ⟨_, h, fun v H1 q => ?_⟩
  refine ⟨by show 1 ≤ 1000; decide, fun a ha => ?_⟩
  refine ⟨a, C, v, rfl, M.oex, M.noV, upd_same, fun dx hdx ne => ⟨rfl, dx, [("value", v)], upd_same, ?_, ?_, ?_⟩⟩
  · rw [upd_ne ne]; exact upd_same
  · rw [upd_ne ne] at hdx; exact hdx
  · rw [upd_ne ne] at hdx
    have e : upd (L2.del (upd (upd (upd H1 a (exo a C none)) dx (exd dx [("value", v)])) a (exo a C (some dx))) a) dx (.xd [("value", v)]) = upd H1 dx (.xd [("value", v)]) := by
      funext b
      by_cases z : b = dx
      · rw [z, upd_same, upd_same]
      · rw [upd_ne z, upd_ne z]
        by_cases z2 : b = a
        · rw [z2, del_same, ha]
        · rw [del_ne z2, upd_ne z2, upd_ne z, upd_ne z2]
    rw [e]
    exact q dx hdx
end
end Fp
/-! values of any kind: is it whole -/
namespace Fp
open PySem PySem.Spec PyProof.Rows L2
/-- a value of a plain kind, and whether it is an integer and no bool -/
inductive KindV (K : PySem.W.Frag) (H : Hp) : V → Bool → Prop
  | int (i : Int) : KindV K H (.int i) true
  | bl (b : Bool) : KindV K H (.bl b) false
  | non : KindV K H .non false
  | str (z : Str) : KindV K H (.str z) false
  | lst {a : Addr} (h : TyX K H (.ref a) (.type "list")) : KindV K H (.ref a) false
  | tup {a : Addr} (h : TyX K H (.ref a) (.type "tuple")) : KindV K H (.ref a) false
  | dct {a : Addr} (h : TyX K H (.ref a) (.type "dict")) : KindV K H (.ref a) false
def spWholeA (K : PySem.W.Frag) : Sp := fun vs H Q _ => ∃ (v : V) (b : Bool), vs = [v] ∧ KindV K H v b ∧ Q (.bl b) H
def spBelowA (K : PySem.W.Frag) : Sp := fun vs H Q _ => ∃ (v : V) (n : Int), vs = [v, .int n] ∧ ((∃ i, v = .int i ∧ Q (.bl (decide (0 ≤ i ∧ i < n))) H) ∨ (KindV K H v false ∧ Q (.bl false) H))
end Fp
/-! calls that may raise, in a def that errors leave -/
namespace Fp
open PySem PySem.Spec PyProof.Rows L2
section
variable {X : Cx} {k : Nat} {C : Addr} {ps : List Str} {sp : Sp} {m x : Str} {p pos apos : Pos} {o e : Expr} {es : List Expr} {ta : TE} {t : TA} {E : XK}
theorem pass_of (tk : Takes X (fun cls d _ H => E cls d H)) : Passes (L2.CX X.prog X.w) X E := fun pins σ H s e s' I c => passAt tk σ pins H s e s' I c
theorem pe_mdE {pl : Sem Bool} (tk : Takes X (fun cls d _ H => E cls d H)) (he : PE X o ta) (c : Cls X.K C) (M : Md X.prog X.w X.K X.mg X.base (L2.CX X.prog X.w) C m k ps sp) (hr : Room k X.A) (ha : PA X (e :: es) t)
    (hst : starEach (e :: es) X.env = (false, eval e X.env) :: starEach es X.env := by rfl) (hpl : (backTo pos (starEach es X.env)).any (·.1) = false := by rfl)
    (ht : eval (.Call (.Attribute o m apos) (e :: es) [] pos) X.env = (do
      let ov ← eval o X.env
      standAt apos.atName
      let (f, first) ← holding [ov] (getMethod ov m pl)
      callWith pos f first (backTo pos (starEach (e :: es) X.env)) (backToKw pos (keywordEach [] X.env))) := by rfl) :
    PE X (.Call (.Attribute o m apos) (e :: es) [] pos) (tMeth C m sp [] E ta t) := by
  obtain ⟨f, fd, h1, h2, h3⟩ := M.ex
  exact pe_meth he c h1 h3 hr h2 .nil (pass_of tk) ha hst hpl ht
theorem pe_fdE (tk : Takes X (fun cls d _ H => E cls d H)) (G : Fd X.prog X.w X.K X.mg X.base (L2.CX X.prog X.w) x k ps sp) (hr : Room k X.A) (hg : Gl X x) (ha : PA X (e :: es) t) (hdb : (x == ("__debug__" : Str)) = false := by decide)
    (he : starEach (e :: es) X.env = (false, eval e X.env) :: starEach es X.env := by rfl) (hpl : (backTo pos (starEach es X.env)).any (·.1) = false := by rfl) :
    PE X (.Call (.Name x p) (e :: es) [] pos) (tCall sp [] E t) := by
  obtain ⟨f, fd, h1, h2, h3, h4⟩ := G.ex
  exact pe_call h4 hr hg h1 h2 h3 .nil (pass_of tk) ha hdb he hpl
end
end Fp
/-! an error that is kept behind its except suite: its object is known from then on -/
namespace L2
open PySem PySem.Spec PyProof.Rows
/-- an exception's object: its class, its own dict -/
def ErrO (cls : Value) (d : Option Addr) (a : Addr) : HO := .ext fun h => ∃ oe vs, h.get? a = some oe ∧ Zc cls d oe ∧ oe.data = .fields vs
section
variable {X : Cx} {pins : List (Addr × Obj)} {σ : St} {H : Hp} {s : Shared}
/-- an object that stands, and is nobody's, is known from now on -/
theorem Inv.know {a : Addr} {oe : Obj} {o : HO} (I : Inv X pins σ H s) (ha : s.heap.get? a = some oe) (na : H a = none) (nL : a ≠ X.env.locals) (n0 : X.s_0.heap.get? a = none) (nc : ∀ v, oe.data ≠ .cell v) (np : ∀ p ∈ X.pn ++ pins, p.1 ≠ a)
    (new : ObjOk X.prog X.w (upd H a o) s.heap a o) : Inv X pins σ (upd H a o) s := by
  have old : ∀ {b : Addr} {u : Obj}, X.s_0.heap.get? b = some u → b ≠ a := fun q z => by rw [z, n0] at q; cases q
  have oth : ∀ {b : Addr} {u : HO}, H b = some u → upd H a o b = some u := fun {b u} q => by rw [upd_ne (ne_of_none q na)]; exact q
  refine ⟨I.ok, I.os, I.bare, ⟨I.base.keep, I.base.slot, fun b u q n hx => ?_, I.base.there, fun b xs q => oth (I.base.tups b xs q), fun b u v q => oth (I.base.frzs b u v q), fun b ps q => ?_⟩, I.loc, I.cell, ?_, fun x c e => ?_, fun p hp => ?_, fun b u q => ?_, I.len⟩
  · rw [upd_ne (old q)]; exact I.base.free b u q n hx
  · obtain ⟨m, z⟩ := I.base.tbls b ps q
    exact ⟨m, oth z⟩
  · rw [upd_ne (Ne.symm nL)]; exact I.free
  · have ne : c ≠ a := fun z => by
      obtain ⟨v, u, hu, hd⟩ := I.cell x c e
      rw [z, ha] at hu
      exact nc v (by rw [Option.some.inj hu]; exact hd)
    rw [upd_ne ne]; exact I.freeC x c e
  · obtain ⟨e, n, r⟩ := I.pin p hp
    exact ⟨e, by rw [upd_ne (np p hp)]; exact n, r⟩
  · by_cases z : b = a
    · subst z
      rw [upd_same] at q
      cases q
      exact new
    · rw [upd_ne z] at q
      exact (I.hok b u q).stay (fun _ _ _ y => y) (fun _ y => oth y) fun _ _ y => oth y
theorem errO_ok {P : Program} {w : World} {H : Hp} {h : Heap} {a : Addr} {cls : Value} {d : Option Addr} {oe : Obj} (e : h.get? a = some oe) (z : Zc cls d oe) (f : ∃ vs, oe.data = .fields vs) : ObjOk P w H h a (ErrO cls d a) := by
  obtain ⟨vs, f⟩ := f
  exact ⟨⟨oe, vs, e, z, f⟩, ⟨oe, e⟩, fun _ _ ⟨o, v, q, r⟩ k => ⟨o, v, k o q, r⟩⟩
end
/-- behind the suite the error is known, and its name is gone -/
def Ends.kept (D : Ends) (i : Nat) (cls : Value) (d : Option Addr) (a : Addr) : Ends where
  nx := fun σ' H' => H' a = none → D.nx (σ'.set i none) (upd H' a (ErrO cls d a))
  rt := fun v H' => H' a = none → D.rt v (upd H' a (ErrO cls d a))
  bk := fun σ' H' => H' a = none → D.bk (σ'.set i none) (upd H' a (ErrO cls d a))
  ct := fun σ' H' => H' a = none → D.ct (σ'.set i none) (upd H' a (ErrO cls d a))
/-- the wish of 'except x as n' whose error is kept -/
def wKept (K : PySem.W.Frag) (c : Value) (i : Nat) (ts : Addr → Value → Option Addr → TS) (Wout : WX) (D : Ends) : WX := fun cls d σ H =>
  ∃ b, PySem.W.exmOne K cls c = some b ∧ (b = true → ∀ a, H a = none → ts a cls d (D.kept i cls d a) (σ.set i (some (.ref a))) H) ∧ (b = false → Wout cls d σ H)
section
variable {X : Cx} {x n : Str} {c : Value} {i : Nat} {body suite : List Stmt} {b₀ : Stmt} {npx pos pos' : Pos} {tb : WX → TS} {ts : Addr → Value → Option Addr → TS} {Wout : WX}
/-- try: body / except x as n: suite, where n's error may be kept -/
theorem ps_try_kept (hs : X.stack = X.env :: X.outer) (hf : X.env.frame = some X.env.locals) (hex : X.ex = []) (hN : X.N.Nodup) (hi : X.N[i]? = some n) (hln : X.env.kindOf n = some .local) (hc : Names X x c) (tk : Takes X Wout)
    (hb : ∀ (W : WX) (pn : List (Addr × Obj)) (xe : Value → Shared → Prop), Takes (X.tr pn xe) W → PassesOwn (model X.prog X.w) X.A X.env xe → PSs (X.tr pn xe) body (tb W))
    (hsu : ∀ (a : Addr) (oe : Obj) (cls : Value) (d : Option Addr) (pn : List (Addr × Obj)), Zc cls d oe → (∃ vs, oe.data = .fields vs) → PSs (X.suite a ((a, oe) :: pn)) (b₀ :: suite) (ts a cls d)) :
    PS X (.Try body [.ExceptHandler (some (.Name x npx)) (some n) (b₀ :: suite) pos'] [] [] pos) (fun D σ H => tb (wKept X.K c i ts Wout D) D σ H) := by
  constructor
  intro pins s σ H D I h
  have ok := I.ok
  have fr : X.A.frames = some (X.env :: X.outer) := by rw [ok.frames, hs]
  have run := (hb (wKept X.K c i ts Wout D) (X.pn ++ pins) (fun e s1 => wpAny (model X.prog X.w) X.A (noteFrame e X.env) (fun _ s2 => wpAny (model X.prog X.w) X.A (setFlight e none) (fun _ s3 =>
    wpAny (model X.prog X.w) X.A (handleBy e X.env [.ExceptHandler (some (.Name x npx)) (some n) (b₀ :: suite) pos']) (SP X pins D) X.xe s3) X.xe s2) X.xe s1) ?takes PassesOwn.looking).run [] s σ H D (I.toTry _) h
  case takes =>
    rintro u s' ⟨a, B, sI, pins', σ', H', cls, d, rfl, JT, nb, up, sky, na, os, ag, b, hb1, hyes, hno⟩
    have J : Inv X pins σ' H' sI := JT.ofTry ok
    rw [show (X.tr (X.pn ++ pins) _).stack = X.env :: X.outer from hs] at sky
    show wpAny _ X.A (noteFrame (.ref a) X.env) _ _ _
    refine Sky.land Zc.steady fr hf sky fun hL fL uL => ?_
    have JL : Inv X pins σ' H' { s' with heap := hL } := J.landed nb fL.1 (up.trans uL) os ag
    obtain ⟨oL, vL, eL, zL, dL⟩ := fL.there
    have out : a ∉ frs (X.env :: X.outer) := fun m => by
      obtain ⟨_, o', e', hnf⟩ := fL.2.2.1.mem m
      rw [eL] at e'
      cases e'
      exact hnf _ dL
    have nL : a ≠ X.env.locals := fun z => out (List.mem_filterMap.mpr ⟨X.env, List.mem_cons_self, by rw [hf, z]⟩)
    have nF : a ∉ X.fs := fun m => out (by
      obtain ⟨e, he, q⟩ := List.mem_filterMap.mp m
      exact List.mem_filterMap.mpr ⟨e, List.mem_cons_of_mem _ he, q⟩)
    -- the error is new since the def's entry, and no pin of ours
    have nB : B.get? a = none := fL.2.1
    have n0 : X.s_0.heap.get? a = none := by
      cases q : X.s_0.heap.get? a with
      | none => rfl
      | some o =>
        obtain ⟨o', e'⟩ := J.base.there a o q (by rw [hex]; simp)
        have := nb a o' e' (by show a ∉ frs X.stack; rw [hs]; exact out)
        rw [nB] at this; cases this
    have np : ∀ p ∈ X.pn ++ pins, p.1 ≠ a := fun p hp z => by
      obtain ⟨e, _⟩ := J.pin p hp
      rw [z] at e
      have := nb a _ e (by show a ∉ frs X.stack; rw [hs]; exact out)
      rw [nB] at this; cases this
    have SL := JL.suite eL dL na nL nF
    refine wpAny_handleBy_cons (codeAny_handlers_test ?_) (by intro q; cases q)
    have LT : PySem.W.Looks (model X.prog X.w) hL (typeOf (.ref a)) cls := fun A Q E s k q => wpAny_typeOf_ref (k _ _ eL) (by rw [zL.1]; exact q)
    have LM := PySem.W.exm_one (M := model X.prog X.w) (JL.kIn) LT hb1
    have named : ∀ {Q E : Value → Shared → Prop}, Q c { s' with heap := hL } → wpAny (model X.prog X.w) (X.A.mark (some (.ref a))) (eval (.Name x npx) X.env) Q E { s' with heap := hL } := fun {Q E} q => by
      obtain ⟨hg, hdbg, hm | ⟨hm, hv, hnn⟩⟩ := hc
      · exact ld_glob (X := X.suite a ((a, oL) :: (X.pn ++ pins))) SL hg hm q hdbg
      · exact ld_blt (X := X.suite a ((a, oL) :: (X.pn ++ pins))) SL hg hm hv q hnn hdbg
    refine named (LM.here ?_)
    cases b with
    | true =>
      refine codeAny_handlers_suite_as (HandSPX.lands_againZ fL fun hM fM uM => ?_)
      have JM : Inv X pins σ' H' { s' with heap := hM } := J.landed nb fM.1 ((up.trans uL).trans uM) os ag
      obtain ⟨oM, vM, eM, zM, dM⟩ := fM.there
      refine store_ok (X := X.suite a ((a, oM) :: (X.pn ++ pins))) (v := .ref a) (JM.suite eM dM na nL nF) hN hi (.inl hln) rfl (fun s5 S5 => ?_) (.inr hln)
      refine wpAny_mono ((hsu a oM cls d (X.pn ++ pins) zM ⟨_, dM⟩).run [] s5 _ H' _ S5 (hyes rfl a na)) (fun f s6 done => ?_) (fun _ _ z => False.elim z)
      have close : ∀ {σ6 : St} {H6 : Hp} {Q : Shared → Prop}, Inv (X.suite a ((a, oM) :: (X.pn ++ pins))) [] σ6 H6 s6 → (∀ s7, H6 a = none → Inv X pins (σ6.set i none) (upd H6 a (ErrO cls d a)) s7 → Q s7) →
          wpAny (model X.prog X.w) X.A (do bindName X.env n .none; unbindBehindTheSuite X.env n pos') (fun _ s7 => Q s7) X.xe s6 := fun {σ6 H6 Q} S6 hq => by
        refine gone_ok (X := X.suite a ((a, oM) :: (X.pn ++ pins))) S6 hN hi hln fun s7 S7 => ?_
        obtain ⟨e7, n7, _, _, c7⟩ := S7.pin (a, oM) (List.mem_append_left _ List.mem_cons_self)
        exact hq s7 n7 <| (S7.unsuite ok).know e7 n7 nL n0 c7 np (errO_ok e7 zM ⟨_, dM⟩)
      cases f with
      | ret u =>
        obtain ⟨v6, σ6, H6, S6, r6, q6⟩ := done
        exact close S6 fun s7 n7 J7 => ⟨_, _, _, J7, r6, q6 n7⟩
      | next =>
        obtain ⟨σ6, H6, S6, q6⟩ := done
        exact close S6 fun s7 n7 J7 => ⟨_, _, J7, q6 n7⟩
      | brk =>
        obtain ⟨σ6, H6, S6, q6⟩ := done
        exact close S6 fun s7 n7 J7 => ⟨_, _, J7, q6 n7⟩
      | cont =>
        obtain ⟨σ6, H6, S6, q6⟩ := done
        exact close S6 fun s7 n7 J7 => ⟨_, _, J7, q6 n7⟩
    | false =>
      show wpAny _ X.A (handleBy (.ref a) X.env []) _ _ _
      refine wpAny_handleBy_nil ?_
      obtain ⟨k1, k2, k3, oe, vs, T, oT, t7, he, hz, hd, h1, hr⟩ := id fL
      unfold PySem.passOn
      refine wpAny_bind (wpAny_field he hd h1 ?_)
      rw [if_neg (show ¬ ((Value.ref T == Value.none) = true) from by simp)]
      have away : wpAny (model X.prog X.w) X.A (setFlight (.ref a) X.env.frame) (fun _ s4 => wpAny (model X.prog X.w) X.A (throw (.ref a) : Sem Flow) (SP X pins D) X.xe s4) X.xe { s' with heap := hL } := by
        rw [hf]
        refine HandSPX.setFlight_upZ fL fun h4 g4 u4 => wpAny_throw (tk _ _ ⟨a, B, sI, pins, σ', H', cls, d, rfl, J, nb, (up.trans uL).trans u4, .inr (.inr (by rw [hs]; exact g4)), na, os, ag, hno rfl⟩)
      first | exact wpAny_bind (wpAny_pure (wpAny_bind away)) | exact wpAny_bind away
  refine wpAny_Try_except (wpAny_mono run (fun f s1 done => ?_) fun _ _ z => z)
  cases f with
  | ret u =>
    obtain ⟨v, σ1, H1, J1, r1, q1⟩ := done
    exact ⟨v, σ1, H1, J1.ofTry ok, r1, q1⟩
  | next =>
    obtain ⟨σ1, H1, J1, q1⟩ := done
    exact wpAny_execs_nil ⟨σ1, H1, J1.ofTry ok, q1⟩
  | brk =>
    obtain ⟨σ1, H1, J1, q1⟩ := done
    exact ⟨σ1, H1, J1.ofTry ok, q1⟩
  | cont =>
    obtain ⟨σ1, H1, J1, q1⟩ := done
    exact ⟨σ1, H1, J1.ofTry ok, q1⟩
end
end L2
/-! a kept error: its class is asked, its value read -/
namespace PySem.W
open PySem PySem.Spec PySem.Calls PyProof.Rows
section
variable {prog : Program} {w : World} {A : Around} {E : Value → Shared → Prop} {s : Shared} {K : Frag} {x D : Addr} {ox : Obj} {od : Option Obj}
theorem findObj_dataA {C : Addr} {name : Str} {a g : Value} (hc : (clsIn K C).isSome = true) (ha : findIn K (.ref C) name = some (some a)) (hg : specialIn K a "__get__" = some (some g)) (ht : takesIn K a = some true) : findObj K C od name = some (.bind g a) := by
  cases od with
  | some o => exact findObj_data hc ha hg ht
  | none => exact findObj_dataN hc ha hg ht
/-- e.__class__ of an error of an own class, with or without a dict of its own -/
theorem err_class {Q : Option Value → Shared → Prop} (T : L2.ExcC K D) (X : K.In s.heap) (I : InstAt s.heap x ox D od) (h : Q (some (.ref D)) { s with toks := s.toks + 1 }) : wpAny (model prog w) A (getAttr? (.ref x) "__class__") Q E s := by
  obtain ⟨cd, hcd, _⟩ := any_some T.hd
  have hf : findObj K D od "__class__" = some (.bind (.builtin "getset_descriptor.__get__") (.builtin "object.__class__")) := findObj_dataA (by rw [hcd]; rfl) T.ha T.hn T.ht
  have n1 : (Value.builtin "BaseException.__getattribute__" == Value.builtin "object.__getattribute__") = false := by decide +kernel
  have n2 : (onTheHeap (Value.ref D) && Value.builtin "BaseException.__getattribute__" == Value.builtin "object.__getattribute__") = false := by rw [n1]; rfl
  obtain ⟨hp, g, dr, tk, os⟩ := s
  have ty := I.type (M := model prog w)
  have ga := looks_findIn (M := model prog w) X T.hg
  have gt := looks_findIn (M := model prog w) X T.hk
  have fd := looks_find (M := model prog w) X I hf
  have exc : Looks (model prog w) hp (isInstance (.ref x) (.type "BaseException")) true := ty.andThen (looks_subIn X T.hs)
  unfold getAttr? getAttrBy? getAttrBy
  refine wpAny_bind (wpAny_mkText (wpAny_bind (wpAny_attempt (wpAny_holding (wpAny_bind (ty.at (wpAny_bind (ga.at ?_))))))))
  show wpAny _ _ (if _ = true then _ else _) _ _ _
  rw [n2, if_neg Bool.false_ne_true]
  unfold getAttrByItsOwn hookBefore
  refine wpAny_bind ?_
  rw [if_pos (show onTheHeap (Value.ref D) = true from rfl)]
  refine gt.at (wpAny_bind (wpAny_attempt (wpAny_holding ?_)))
  unfold callGetattribute
  rw [show (false && onTheHeap (Value.builtin "BaseException.__getattribute__")) = false from rfl, if_neg Bool.false_ne_true]
  unfold boundAndCalled
  rw [PySem.F.excAttr_ValueError.ga.bind (.ref x)]
  refine wpAny_bind (wpAny_pure ?_)
  refine wpAny_call (codeAny_call_builtin PySem.F.excAttr_ValueError.ga.plain PySem.F.entry_bexc_ga ?_)
  refine @check_slot (model prog w) _ _ ⟨hp, g, dr, tk + 1, os⟩ "BaseException.__getattribute__" "BaseException" "__getattribute__" (.ref x) [.str "__class__" tk] [] _ (by decide +kernel) (by decide +kernel) exc (PySem.F.args_bexc_ga (.ref x) (.str "__class__" tk)) ?_
  unfold Builtin.«object.__getattribute__»
  refine wpAny_bind (wpAny_of_eq (a := ((Value.ref x : Value), [Value.str "__class__" tk])) (by first | rfl | (simp only [slotArgs]; rfl)) ?_)
  refine wpAny_bind (wpAny_pure (wpAny_bind (ty.at (wpAny_bind (fd.at ?_)))))
  show wpAny _ _ (holding [Value.builtin "object.__class__"] (call (.builtin "getset_descriptor.__get__") [.builtin "object.__class__", .ref x, .ref D]) >>= ret) _ _ _
  refine wpAny_bind (wpAny_holding (wpAny_call (class_get (s := ⟨hp, g, dr, tk + 1, os⟩) (ox := ox) (od := od) X I T.hm (wpAny_pure ?_))))
  show wpAny _ _ (handedOut (.ref D)) _ _ _
  rw [handedOut_of (v := .ref D) rfl]
  first | exact wpAny_pure (wpAny_pure h) | exact wpAny_pure h | exact wpAny_pure (wpAny_bind (wpAny_pure (wpAny_pure h)))
theorem err_kit (T : L2.ExcC K D) : KitX K (.ref x) (.ref D) (fun h => InstAt h x ox D od) where
  ty := fun _ _ _ I => I.type
  it := fun _ _ X _ => by
    obtain ⟨cd, hcd, _⟩ := any_some T.hd
    unfold clsIn at hcd
    split at hcd
    · rename_i c' d' cd' sl' ho
      intro A' Q' E' s' k q
      exact wpAny_bind (wpAny_loadPart (k _ _ (X _ _ ho)) (wpAny_pure q))
    · cases hcd
  ne := fun h tp dd its n sl X htp => Bool.eq_false_iff.mpr fun q => by
    obtain ⟨cd, hcd, _⟩ := any_some T.hd
    have e : D = tp := Value.ref.inj (beq_iff_eq.mp q)
    subst e
    unfold clsIn at hcd
    split at hcd
    · rename_i c' d' cd' sl' ho
      have z := (X _ _ ho).symm.trans htp
      cases z
    · cases hcd
  ca := fun X I k => err_class T X I k
end
end PySem.W
namespace L2
open PySem PySem.Spec PyProof.Rows
/-- one of two readings of a call -/
theorem callR_or {X : Cx} {f : Value} {r1 r2 : List V → Hp → VK → Prop} (h1 : CallR X f r1) (h2 : CallR X f r2) : CallR X f (fun xs H Q => r1 xs H Q ∨ r2 xs H Q) := by
  intro pins s σ H xs us Q I r h
  rcases h with h | h
  · exact h1 pins s σ H xs us Q I r h
  · exact h2 pins s σ H xs us Q I r h
theorem err_obj {P : Program} {w : World} {H : Hp} {h : Heap} {a D : Addr} {d : Option Addr} (ok : HOk P w H h) (ha : H a = some (ErrO (.ref D) d a)) : ∃ oe, h.get? a = some oe ∧ oe.cls = .ref D ∧ PySem.W.notCls oe = true ∧ oe.dict = d := by
  obtain ⟨⟨oe, vs, e, ⟨z1, z2⟩, f⟩, _, _⟩ := ok a _ ha
  exact ⟨oe, e, z1, by unfold PySem.W.notCls; rw [f] <;> rfl, z2⟩
/-- isinstance(e, c), e a kept error -/
def rIsK (K : PySem.W.Frag) : List V → Hp → VK → Prop := fun xs H Q => ∃ (a D dd : Addr) (fs : List (Str × V)) (c : V) (cv : Value) (b : Bool), xs = [.ref a, c] ∧ H a = some (ErrO (.ref D) (some dd) a) ∧ H dd = some (.xd fs) ∧ ExcC K D ∧ (∀ u, RelV c u → u = cv) ∧ PySem.W.kitOne K (.ref D) cv = some b ∧ Q (.bl b) H
theorem call_isK {X : Cx} : CallR X (.builtin "isinstance") (rIsK X.K) := by
  intro pins s σ H xs us Q I r h
  obtain ⟨a, D, dd, fs, c, cv, b, rfl, ha, hd, C, hcv, e, q⟩ := h
  match us, r with
  | [u1, u2], .cons r1 (.cons r2 .nil) =>
    cases r1
    have ec := hcv _ r2
    subst ec
    obtain ⟨oe, ea, ec, en, ed⟩ := err_obj I.hok ha
    obtain ⟨mA, hns, _⟩ : ObjOk X.prog X.w H s.heap dd (.xd fs) := I.hok dd _ hd
    obtain ⟨od, ho, _⟩ := lookIn_ns hns
    have J : PySem.W.InstAt s.heap a oe D (some od) := ⟨ea, ec, en, by rw [ed]; exact ho⟩
    exact PySem.W.kia_one (PySem.W.err_kit C) I.kIn J e (fun z => nomatch z) fun tk => ⟨.bl b, H, I.kept (t' := tk) fun _ _ z => z, rfl, q⟩
/-- e.f, e a kept error with a dict of its own -/
def tXk (K : PySem.W.Frag) (n : Str) (te : TE) : TE := fun σ H Q => te σ H fun x H1 => ∃ (a C dd : Addr) (fs : List (Str × V)) (v : V), x = .ref a ∧ H1 a = some (ErrO (.ref C) (some dd) a) ∧ H1 dd = some (.xd fs) ∧ fs.lookup n = some v ∧ XfC K C ∧ PySem.W.findIn K (.ref C) n = some none ∧ Q v H1
theorem pe_xk {X : Cx} {e : Expr} {te : TE} {pos : Pos} {n : Str} (he : PE X e te) (hb : attributeBase e n X.env (eval e X.env) = eval e X.env := by rfl) : PE X (.Attribute e n pos) (tXk X.K n te) := by
  constructor
  intro pins s σ H Q I h
  refine attr_of hb (thn (he.run pins s σ H _ I h) fun u s1 hh => ?_)
  obtain ⟨x, H1, I1, rx, a, C, dd, fs, v, rfl, ha, hd, l, T, hno, q⟩ := hh
  cases rx
  obtain ⟨oe, ea, ec, en, ed⟩ := err_obj I1.hok ha
  obtain ⟨mA, hns, hr⟩ : ObjOk X.prog X.w H1 s1.heap dd (.xd fs) := I1.hok dd _ hd
  obtain ⟨od, ho, hl⟩ := lookIn_ns hns
  obtain ⟨u, hu, ru⟩ := RelO.some_of (v := v) (o := mA n) (by rw [← l]; exact hr n)
  have J : PySem.W.InstAt s1.heap a oe C (some od) := ⟨ea, ec, en, by rw [ed]; exact ho⟩
  exact HandSPX.exc_get I1.kIn J T.ga T.gg T.exC (PySem.W.findObj_own T.hdC hno rfl (by rw [hl, hu])) (handed_of ru) ⟨v, H1, I1.tok _, ru, q⟩
end L2
/-! lambdas handed on: their objects and the cells that they look at are known while others hold them -/
namespace L2
open PySem PySem.Spec PyProof.Rows LamX
/-- just this object -/
def PinO (c : Addr) (o : Obj) : HO := .ext fun h => h.get? c = some o
theorem pinO_ok {P : Program} {w : World} {H : Hp} {h : Heap} {a : Addr} {o : Obj} (e : h.get? a = some o) : ObjOk P w H h a (PinO a o) := ⟨e, ⟨o, e⟩, fun _ _ q k => k o q⟩
theorem pinO_get {P : Program} {w : World} {H : Hp} {h : Heap} {a : Addr} {o : Obj} (x : HOk P w H h) (e : H a = some (PinO a o)) : h.get? a = some o := (x a _ e).1
/-- without what stands at cs -/
def dropC (cs : List Addr) (H : Hp) : Hp := fun b => if b ∈ cs then none else H b
/-- at cs as in H, else as in G -/
def backC (cs : List Addr) (H G : Hp) : Hp := fun b => if b ∈ cs then H b else G b
theorem dropC_in {cs : List Addr} {H : Hp} {b : Addr} (h : b ∈ cs) : dropC cs H b = none := if_pos h
theorem dropC_out {cs : List Addr} {H : Hp} {b : Addr} (h : b ∉ cs) : dropC cs H b = H b := if_neg h
theorem backC_in {cs : List Addr} {H G : Hp} {b : Addr} (h : b ∈ cs) : backC cs H G b = H b := if_pos h
theorem backC_out {cs : List Addr} {H G : Hp} {b : Addr} (h : b ∉ cs) : backC cs H G b = G b := if_neg h
/-- what stands at cs is pinned, where it is known -/
def Pins (cs : List Addr) (H : Hp) : Prop := ∀ c ∈ cs, H c = none ∨ ∃ o, H c = some (PinO c o)
def Pinned (cs : List Addr) (H : Hp) : Prop := ∀ c ∈ cs, ∃ o, H c = some (PinO c o)
theorem Pinned.pins {cs : List Addr} {H : Hp} (p : Pinned cs H) : Pins cs H := fun c m => .inr (p c m)
theorem Pins.no {cs : List Addr} {H : Hp} (p : Pins cs H) {b : Addr} {u : HO} (e : H b = some u) (n : ∀ φ, u ≠ .ext φ) : b ∉ cs := fun m => by
  rcases p b m with z | ⟨o, z⟩
  · rw [e] at z; cases z
  · rw [e] at z; exact n _ (Option.some.inj z)
theorem dropC_some {cs : List Addr} {H : Hp} {b : Addr} {u : HO} (e : dropC cs H b = some u) : b ∉ cs ∧ H b = some u := by
  by_cases m : b ∈ cs
  · rw [dropC_in m] at e; cases e
  · exact ⟨m, by rw [dropC_out m] at e; exact e⟩
theorem no_own {a : Addr} : ∀ φ, HO.own a ≠ .ext φ := fun _ z => by cases z
theorem no_tup {xs : List V} : ∀ φ, HO.tup xs ≠ .ext φ := fun _ z => by cases z
theorem no_frz {o : Obj} {u : HO} : ∀ φ, HO.frz o u ≠ .ext φ := fun _ z => by cases z
theorem no_tbl {ps : Array Value} : ∀ φ, HO.tbl ps ≠ .ext φ := fun _ z => by cases z
section
variable {P : Program} {w : World} {cs : List Addr} {H H' G : Hp} {h h' : Heap}
theorem hok_drop (x : HOk P w H h) (p : Pins cs H) : HOk P w (dropC cs H) h := fun b u e => by
  obtain ⟨_, e⟩ := dropC_some e
  exact (x b u e).stay (fun _ _ _ q => q) (fun c q => by rw [dropC_out (p.no q no_own)]; exact q) fun c xs q => by rw [dropC_out (p.no q no_tup)]; exact q
theorem hok_back (x : HOk P w G h) (p : ∀ c ∈ cs, H c = none ∨ ∃ o, H c = some (PinO c o) ∧ h.get? c = some o) (g : ∀ c ∈ cs, G c = none) : HOk P w (backC cs H G) h := fun b u e => by
  by_cases m : b ∈ cs
  · rw [backC_in m] at e
    rcases p b m with z | ⟨o, z, hz⟩
    · rw [z] at e; cases e
    · rw [z] at e; cases e; exact pinO_ok hz
  · rw [backC_out m] at e
    have out : ∀ {c : Addr} {v : HO}, G c = some v → c ∉ cs := fun q m => by rw [g _ m] at q; cases q
    exact (x b u e).stay (fun _ _ _ q => q) (fun c q => by rw [backC_out (out q)]; exact q) fun c xs q => by rw [backC_out (out q)]; exact q
/-- from a state with the pins to one without: what a call did -/
theorem un_drop {fs : List Addr} (p : Pins cs H) (p' : ∀ c ∈ cs, H' c = H c) (x : HOk P w H h) (x' : HOk P w H' h') (u : Un fs [] H H' h h') (nf : ∀ c ∈ cs, c ∉ fs) : Un fs [] (dropC cs H) (dropC cs H') h h' := by
  refine ⟨fun b o q n hf hx => ?_, fun b o q n hf hx => ?_, fun b o q n hx => ?_, u.there, fun b xs q => ?_, fun b o v q => ?_, fun b ps q => ?_⟩
  · by_cases m : b ∈ cs
    · rcases p b m with z | ⟨o', z⟩
      · exact u.keep b o q z hf hx
      · have e1 := pinO_get x z
        rw [q] at e1; cases e1
        exact pinO_get x' (by rw [p' b m]; exact z)
    · rw [dropC_out m] at n; exact u.keep b o q n hf hx
  · by_cases m : b ∈ cs
    · exact absurd hf (nf b m)
    · rw [dropC_out m] at n; exact u.slot b o q n hf hx
  · by_cases m : b ∈ cs
    · exact dropC_in m
    · rw [dropC_out m] at n ⊢; exact u.free b o q n hx
  · obtain ⟨m, q⟩ := dropC_some q
    rw [dropC_out m]; exact u.tups b xs q
  · obtain ⟨m, q⟩ := dropC_some q
    rw [dropC_out m]; exact u.frzs b o v q
  · obtain ⟨m, q⟩ := dropC_some q
    obtain ⟨more, z⟩ := u.tbls b ps q
    exact ⟨more, by rw [dropC_out m]; exact z⟩
theorem back_none (u : ∀ b o, h.get? b = some o → dropC cs H b = none → G b = none) {b : Addr} {o : Obj} (q : h.get? b = some o) (n : H b = none) : backC cs H G b = none := by
  by_cases m : b ∈ cs
  · rw [backC_in m]; exact n
  · rw [backC_out m]; exact u b o q (by rw [dropC_out m]; exact n)
theorem drop_none {b : Addr} (n : H b = none) : dropC cs H b = none := by
  by_cases m : b ∈ cs
  · exact dropC_in m
  · rw [dropC_out m]; exact n
/-- and back: a call that ran without the pins -/
theorem un_back {fs : List Addr} (p : Pins cs H) (u : Un fs [] (dropC cs H) G h h') : Un fs [] H (backC cs H G) h h' := by
  refine ⟨fun b o q n hf hx => u.keep b o q (drop_none n) hf hx, fun b o q n hf hx => u.slot b o q (drop_none n) hf hx, fun b o q n hx => back_none (fun b o q n => u.free b o q n (by simp)) q n, u.there, fun b xs q => ?_, fun b o v q => ?_, fun b ps q => ?_⟩
  · have m := p.no q no_tup
    rw [backC_out m]; exact u.tups b xs (by rw [dropC_out m]; exact q)
  · have m := p.no q no_frz
    rw [backC_out m]; exact u.frzs b o v (by rw [dropC_out m]; exact q)
  · have m := p.no q no_tbl
    obtain ⟨more, z⟩ := u.tbls b ps (by rw [dropC_out m]; exact q)
    exact ⟨more, by rw [backC_out m]; exact z⟩
end
/-- what cells hold, pinned (or fixed for good) -/
def CellsAt (N : List Str) (base : Heap) (σ : St) (cl : List (Str × Addr)) (H : Hp) : Prop := ∀ y c, cl.lookup y = some c → ∃ o ov, (H c = some (PinO c o) ∨ (H c = none ∧ base.get? c = some o)) ∧ o.data = .cell ov ∧ ∀ (i : Nat) (v : V), N[i]? = some y → σ[i]? = some (some v) → ∃ u, ov = some u ∧ RelV v u
/-- each cell is told by its name -/
def CellN (cl : List (Str × Addr)) : Prop := ∀ c ∈ cl.map (·.2), ∃ y, cl.lookup y = some c
theorem CellsAt.pins {N : List Str} {base : Heap} {σ : St} {cl : List (Str × Addr)} {H : Hp} (n : CellN cl) (h : CellsAt N base σ cl H) : Pins (cl.map (·.2)) H := fun c m => by
  obtain ⟨y, e⟩ := n c m
  obtain ⟨o, _, z, _⟩ := h y c e
  rcases z with z | z
  · exact .inr ⟨o, z⟩
  · exact .inl z.1
end L2
/-! lambdas handed on: made, called, and calls that hand them on -/
namespace L2
open PySem PySem.Spec PyProof.Rows LamX
/-- the cells of these names -/
def cellsOf (X : Cx) (ys : List Str) : List (Str × Addr) := ys.filterMap fun y => (X.env.cells.lookup y).map fun c => (y, c)
theorem cellsOf_mem {X : Cx} {y : Str} {c : Addr} : ∀ {ys : List Str}, (y, c) ∈ cellsOf X ys ↔ y ∈ ys ∧ X.env.cells.lookup y = some c := by
  intro ys
  unfold cellsOf
  rw [List.mem_filterMap]
  constructor
  · rintro ⟨z, hz, e⟩
    cases q : X.env.cells.lookup z with
    | none => rw [q] at e; cases e
    | some d => rw [q] at e; cases e; exact ⟨hz, q⟩
  · rintro ⟨hy, e⟩
    exact ⟨y, hy, by rw [e]; rfl⟩
theorem lookup_of {α : Type} {y : Str} {c : α} : ∀ {l : List (Str × α)}, (y, c) ∈ l → (∀ d, (y, d) ∈ l → d = c) → l.lookup y = some c
  | (z, d) :: l, h, u => by
    rw [List.lookup_cons]
    cases e : y == z with
    | true =>
      have e' : y = z := eq_of_beq e
      subst e'
      exact congrArg some (u d List.mem_cons_self)
    | false =>
      rcases List.mem_cons.mp h with q | q
      · cases q
        simp at e
      · exact lookup_of q fun d hd => u d (List.mem_cons_of_mem _ hd)
theorem cellsOf_lookup {X : Cx} {ys : List Str} {y : Str} {c : Addr} : (cellsOf X ys).lookup y = some c ↔ y ∈ ys ∧ X.env.cells.lookup y = some c := by
  constructor
  · intro h
    exact cellsOf_mem.mp (PySem.mem_of_lookup h)
  · intro h
    exact lookup_of (cellsOf_mem.mpr h) fun d hd => by
      have := (cellsOf_mem.mp hd).2
      rw [h.2] at this; cases this; rfl
theorem cellsOf_N {X : Cx} {ys : List Str} : CellN (cellsOf X ys) := fun c m => by
  obtain ⟨⟨y, c'⟩, h, rfl⟩ := List.mem_map.mp m
  exact ⟨y, cellsOf_lookup.mpr (cellsOf_mem.mp h)⟩
/-- a name that lies in a cell -/
def InCell (X : Cx) (y : Str) : Prop := X.env.scope.names.lookup y = some .cell ∨ X.env.scope.names.lookup y = some .free
section
variable {X : Cx} {pins : List (Addr × Obj)} {σ : St} {H : Hp} {s : Shared}
/-- cells of these names are no frames of the callers -/
def NoFr (X : Cx) (ys : List Str) : Prop := X.Ok → ∀ y ∈ ys, ∀ c, X.env.cells.lookup y = some c → c ∉ X.fs
theorem noFr_def {ys : List Str} (h : X.fn = fun _ => true) : NoFr X ys := fun ok y _ c e m => by
  have h1 := ok.cab y c (by rw [h]) e
  obtain ⟨_, o, ho, _⟩ := ok.funs.mem m
  exact Nat.lt_irrefl _ (Nat.lt_of_lt_of_le (Heap.lt_size ho) h1)
/-- cells of a frame, pinned -/
theorem Inv.cells (I : Inv X pins σ H s) (ys : List Str) (hk : ∀ y ∈ ys, InCell X y) (hf : NoFr X ys) : ∃ cs HZ, dropC cs HZ = H ∧ Pinned cs HZ ∧ CellsAt X.N X.base σ (cellsOf X ys) HZ ∧ (∀ c ∈ cs, c ∉ frs X.stack) ∧ Env0 X.prog X.w X.K X.mg X.base X.A X.stack s HZ := by
  let cs : List Addr := ((cellsOf X ys).map (·.2)).filter fun c => (X.base.get? c).isNone
  have csm : ∀ {c}, c ∈ cs → (∃ y, y ∈ ys ∧ X.env.cells.lookup y = some c) ∧ X.base.get? c = none := fun {c} m => by
    obtain ⟨m1, m2⟩ := List.mem_filter.mp m
    obtain ⟨⟨y, c'⟩, h, rfl⟩ := List.mem_map.mp m1
    exact ⟨⟨y, cellsOf_mem.mp h⟩, Option.isNone_iff_eq_none.mp m2⟩
  have free : ∀ c ∈ cs, H c = none := fun c m => by
    obtain ⟨⟨y, _, e⟩, _⟩ := csm m
    exact I.freeC y c e
  let HZ : Hp := fun b => if b ∈ cs then (s.heap.get? b).map (PinO b) else H b
  have hin : ∀ {b}, b ∈ cs → HZ b = (s.heap.get? b).map (PinO b) := fun m => if_pos m
  have hout : ∀ {b}, b ∉ cs → HZ b = H b := fun m => if_neg m
  have nfr : ∀ c ∈ cs, c ∉ frs X.stack := fun c m z => by
    obtain ⟨⟨y, hy, e⟩, _⟩ := csm m
    rcases List.mem_cons.mp (I.stkSub c z) with q | q
    · exact I.cne y c e q
    · exact hf I.ok y hy c e q
  have keep : ∀ {b u}, H b = some u → HZ b = some u := fun {b u} q => by rw [hout (fun m => by rw [free b m] at q; cases q)]; exact q
  refine ⟨cs, HZ, ?_, fun c m => ?_, fun y c e => ?_, nfr, ⟨I.ok.frames, I.ok.mod, fun b o e => ⟨(I.bs b o e).1, ?_⟩, Nat.le_trans I.ok.bsz I.sz, I.stack, fun b hb => ?_, fun b u e => ?_, I.bare⟩⟩
  · funext b
    by_cases m : b ∈ cs
    · rw [dropC_in m, free b m]
    · rw [dropC_out m, hout m]
  · obtain ⟨⟨y, hy, e⟩, _⟩ := csm m
    obtain ⟨ov, o, ho, hd⟩ := I.cell y c e
    exact ⟨o, by rw [hin m, ho]; rfl⟩
  · obtain ⟨hy, e⟩ := cellsOf_lookup.mp e
    obtain ⟨ov, o, ho, hd⟩ := I.cell y c e
    refine ⟨o, ov, ?_, hd, fun i v e1 e2 => ?_⟩
    · by_cases m : c ∈ cs
      · exact .inl (by rw [hin m, ho]; rfl)
      · right
        refine ⟨by rw [hout m]; exact I.freeC y c e, ?_⟩
        cases q : X.base.get? c with
        | none => exact absurd (List.mem_filter.mpr ⟨List.mem_map.mpr ⟨(y, c), cellsOf_mem.mpr ⟨hy, e⟩, rfl⟩, by rw [q]; rfl⟩) m
        | some o' =>
          have := (I.bs c o' q).1
          rw [ho] at this; cases this; rfl
    · obtain ⟨mm, _, hl⟩ := I.loc
      obtain ⟨u, r, q⟩ := hl i y v e1 e2 ((hk y hy).elim (fun z => .inr (.inl z)) (fun z => .inr (.inr z)))
      rcases q with ⟨k, _⟩ | ⟨_, c', e', o', ho', hd'⟩
      · have k : X.env.scope.names.lookup y = some .local := k
        rcases hk y hy with z | z <;> rw [z] at k <;> cases k
      · rw [e] at e'; cases e'
        rw [ho] at ho'; cases ho'
        rw [hd] at hd'; cases hd'
        exact ⟨u, rfl, r⟩
  · rw [hout (fun m => by rw [(csm m).2] at e; cases e)]
    exact (I.bs b o e).2
  · rw [hout (fun m => nfr b m hb)]; exact I.stkFree b hb
  · by_cases m : b ∈ cs
    · rw [hin m] at e
      cases q : s.heap.get? b with
      | none => rw [q] at e; cases e
      | some o => rw [q] at e; cases e; exact pinO_ok q
    · rw [hout m] at e
      exact (I.hok b u e).stay (fun _ _ _ q => q) (fun c q => keep q) fun c xs q => keep q
/-- a call that hands lambdas on: what they look at is pinned while it runs -/
def tCallC (X : Cx) (ys : List Str) (sp : Sp) (t : TA) : TE := fun σ H Q => t σ H fun vs H1 => X.Ok → σ.length = X.N.length → ∀ cs HZ, dropC cs HZ = H1 → Pinned cs HZ → CellsAt X.N X.base σ (cellsOf X ys) HZ → sp vs HZ (fun v H' => (∀ c ∈ cs, H' c = HZ c) ∧ Q v (dropC cs H')) E0
end
section
variable {X : Cx} {x : Str} {k : Nat} {ps : List Str} {sp : Sp} {e : Expr} {es : List Expr} {t : TA} {p pos : Pos} {ys : List Str}
theorem pe_fdC (ys : List Str) (hk : ∀ y ∈ ys, InCell X y) (hf : NoFr X ys) (G : Fp.FdG X.prog X.w X.K X.mg X.base CX0 x k ps sp) (hr : Room k X.A) (hgu : X.A.guards = some []) (hg : Gl X x) (ha : PA X (e :: es) t) (hdb : (x == ("__debug__" : Str)) = false := by decide)
    (he : starEach (e :: es) X.env = (false, eval e X.env) :: starEach es X.env := by rfl) (hpl : (backTo pos (starEach es X.env)).any (·.1) = false := by rfl) :
    PE X (.Call (.Name x p) (e :: es) [] pos) (tCallC X ys sp t) := by
  obtain ⟨f, fd, hm, hkk, hb, F⟩ := G.ex
  constructor
  intro pins s σ H Q I h
  refine wpAny_Call_Name_kw (ld_glob I hg hm ?_ hdb)
  refine PySem.W.callWith_K (h₀ := X.base) I.ok.mod.kin hkk (thn (ha.run pos pins s σ H _ I h) fun us s1 ⟨vs, H1, I1, r, q⟩ => ⟨I1.kIn, ?_⟩) he hpl
  obtain ⟨cs, HZ, e1, e2, e3, e4, e0⟩ := I1.cells ys hk hf
  have q1 := q I1.ok I1.len cs HZ e1 e2 e3
  have r2 : Vals (vs ++ []) (us ++ []) := r.append .nil
  rw [List.append_nil, List.append_nil] at r2
  have hl : us.length = ps.length := by rw [← r2.length]; exact F.len _ _ _ _ q1
  have bb := hb s1 us I1.kIn (by rw [List.append_nil]; exact hl)
  rw [List.append_nil] at bb
  refine wpAny_call (codeAny_mono (F.run X.A X.stack s1 HZ ⟨us, []⟩ us vs _ E0 hr hgu e0 bb r2 q1) fun r s' hq => ?_)
  cases r with
  | error er => exact pass0 pins σ H1 s1 er s' I1 hq
  | ok fl =>
    cases fl with
    | ret u =>
      obtain ⟨v, H', os, bare, un, hok, rv, hp, qq⟩ := hq
      refine I1.after ⟨v, dropC cs H', os, bare, ?_, hok_drop hok (fun c m => by rw [hp c m]; exact e2.pins c m), rv, qq⟩
      rw [← e1]
      exact un_drop e2.pins hp e0.hok hok un e4
    | next => exact False.elim hq
    | brk => exact False.elim hq
    | cont => exact False.elim hq
end
end L2
/-! lambdas handed on: made, and called -/
namespace L2
open PySem PySem.Spec PyProof.Rows LamX
/-- a lambda that was made in X stands at f -/
def LamAt (X : Cx) (H : Hp) (f : Addr) (params : Arguments) (body : Expr) (scope : Scope) : Prop :=
  ∃ c' pm ctv, H f = some (PinO f (PySem.W.kla_obj "<lambda>" (X.env.qual ++ "<lambda>") params body scope (cloFrom X.env.cells scope.names []) pm c' ctv)) ∧ H c' = some (CodeO c' (X.env.qual ++ "<lambda>"))
theorem LamAt.ext {X : Cx} {H H' : Hp} {f : Addr} {params : Arguments} {body : Expr} {scope : Scope} (h : LamAt X H f params body scope) (e : ∀ b φ, H b = some (.ext φ) → H' b = some (.ext φ)) : LamAt X H' f params body scope := by
  obtain ⟨c', pm, ctv, h1, h2⟩ := h
  exact ⟨c', pm, ctv, e _ _ h1, e _ _ h2⟩
abbrev lamCl (X : Cx) (scope : Scope) : List (Str × Addr) := cloFrom X.env.cells scope.names []
abbrev lamCs (X : Cx) (scope : Scope) : List Addr := (lamCl X scope).map (·.2)
section
variable {X : Cx} {σ : St} {scope : Scope}
theorem lamCl_get (ok : X.Ok) (L : LamS X.env.scope scope) {y : Str} {c : Addr} (e : (lamCl X scope).lookup y = some c) : X.env.cells.lookup y = some c ∧ (y, NameKind.free) ∈ scope.names := by
  rcases cloFrom_mem (PySem.mem_of_lookup e) with m | ⟨h1, h2⟩
  · cases m
  · obtain ⟨c1, hc⟩ := L.has ok _ h1 rfl
    have hc : X.env.cells.lookup y = some c1 := hc
    rw [hc] at h2
    exact ⟨by rw [hc, h2] <;> rfl, h1⟩
theorem lamCl_N (ok : X.Ok) (L : LamS X.env.scope scope) : CellN (lamCl X scope) := fun c m => by
  obtain ⟨⟨y, c'⟩, h, rfl⟩ := List.mem_map.mp m
  refine ⟨y, lookup_of h fun d hd => ?_⟩
  have f : ∀ {z}, (y, z) ∈ lamCl X scope → z = (X.env.cells.lookup y).getD 0 := fun {z} h => by
    rcases cloFrom_mem h with q | ⟨_, q⟩
    · cases q
    · exact q
  rw [f h, f hd]
/-- what a lambda looks at is among the names that are pinned -/
theorem CellsAt.lam {ys : List Str} {H : Hp} (h : CellsAt X.N X.base σ (cellsOf X ys) H) (ok : X.Ok) (L : LamS X.env.scope scope) (hy : ∀ y ∈ scope.names, y.2 = .free → y.1 ∈ ys) : CellsAt X.N X.base σ (lamCl X scope) H := fun y c e => by
  obtain ⟨e1, e2⟩ := lamCl_get ok L e
  exact h y c (cellsOf_lookup.mpr ⟨hy _ e2 rfl, e1⟩)
/-- the lambda's body begins -/
theorem lam_inv {A : Around} {outer : List Env} {E : XK} {f c' : Addr} {HZ : Hp} {s : Shared} {h₁ : Heap} {tk : Nat} (ok : X.Ok) (hl : σ.length = X.N.length) (L : LamS X.env.scope scope) (e0 : Env0 X.prog X.w X.K X.mg X.base A outer s HZ) (hd : A.handled = none)
    (cA : CellsAt X.N X.base σ (lamCl X scope) HZ) (hns : h₁.Ns s.heap.objs.size fun y => ([] : List (Str × Value)).reverse.lookup y) (kp : ∀ b o, s.heap.get? b = some o → h₁.get? b = some o) :
    Inv (lamCx X A outer s (dropC (lamCs X scope) HZ) E scope f c') [] σ (dropC (lamCs X scope) HZ) { s with heap := h₁, toks := tk } := by
  have ps := cA.pins (lamCl_N ok L)
  have none0 : ∀ b : Addr, b ∉ (lamCx X A outer s (dropC (lamCs X scope) HZ) E scope f c').ex := fun b z => absurd (show b ∈ ([] : List Addr) from z) (by simp)
  have here : ∀ {y c}, (lamCl X scope).lookup y = some c → ∃ o ov, s.heap.get? c = some o ∧ o.data = .cell ov ∧ ∀ (i : Nat) (v : V), X.N[i]? = some y → σ[i]? = some (some v) → ∃ u, ov = some u ∧ RelV v u := fun {y c} e => by
    obtain ⟨o, ov, z, r, q⟩ := cA y c e
    rcases z with z | z
    · exact ⟨o, ov, pinO_get e0.hok z, r, q⟩
    · exact ⟨o, ov, (e0.bs c o z.2).1, r, q⟩
  have find : ∀ {y}, scope.names.lookup y = some .free → ∃ c, (lamCl X scope).lookup y = some c := fun {y} q => mem_lookup (cloFrom_has (cells := X.env.cells) (acc := []) (PySem.mem_of_lookup q))
  have only : ∀ {y}, Vis scope y → scope.names.lookup y = some .free := fun {y} q => by
    rcases q with q | q | q
    · exact absurd rfl (L.own _ (PySem.mem_of_lookup q)).1
    · exact absurd rfl (L.own _ (PySem.mem_of_lookup q)).2
    · exact q
  refine ⟨⟨e0.mod, L.kind, rfl, rfl, Nat.le_refl _, fun y z c e1 e2 => ok.inj y z c (lamCl_get ok L e1).1 (lamCl_get ok L e2).1, fun y hy => find (only (.inr hy)), fun y c z _ => (by cases (show false = true from z)), fun _ => hd, Around.frames_deeper e0.frames, .inr ⟨rfl, rfl⟩,
      fun b z => absurd z (none0 b), fun b o e => ⟨(e0.bs b o e).1, drop_none (e0.bs b o e).2⟩, e0.bsz, fun b _ _ => none0 b, fun b z => absurd z (none0 b), e0.funs, fun b m => drop_none (e0.frf b m)⟩,
    rfl, e0.bare, Un.kept kp, ⟨_, hns, fun i y v e1 e2 e3 => ?_⟩, fun y c e => ?_, drop_none (e0.hok.fresh (Nat.le_refl _)), fun y c e => ?_, fun q hq => absurd (show q ∈ ([] : List (Addr × Obj)) ++ [] from hq) (by simp), (hok_drop e0.hok ps).kept kp, hl⟩
  · have hk := only e3
    obtain ⟨c, hc⟩ := find hk
    obtain ⟨o, ov, ho, hov, q⟩ := here hc
    obtain ⟨u, rfl, r⟩ := q i v e1 e2
    exact ⟨u, r, .inr ⟨.inr hk, c, hc, o, kp _ _ ho, hov⟩⟩
  · obtain ⟨o, ov, ho, hov, _⟩ := here e
    exact ⟨ov, o, kp _ _ ho, hov⟩
  · exact dropC_in (List.mem_map.mpr ⟨(y, c), PySem.mem_of_lookup e, rfl⟩)
end
/-- what is called keeps its promise in every state in which the promise holds -/
def CloOk (P : Program) (w : World) (K : PySem.W.Frag) (mg : Str → Option Value) (base : Heap) (k : Nat) (f : Addr) (sp : Hp → VK → XK → Prop) : Prop :=
  ∀ (A : Around) (outer : List Env) (s : Shared) (H : Hp) (Q : VK) (E : XK), Room k A → Env0 P w K mg base A outer s H → sp H Q E → PySem.W.FnAt f s.heap ∧ codeAny (model P w) A (.call (.ref f) ⟨[], []⟩) (CR (L2.CX P w) outer P w H s Q E) s
section
variable {X : Cx} {σ : St} {scope : Scope} {params : Arguments} {body : Expr} {k : Nat} {f : Addr} {t : XK → TE}
/-- a lambda keeps what its body's reading tells -/
theorem lam_clo (ok : X.Ok) (hl : σ.length = X.N.length) (L : LamS X.env.scope scope)
    (hbind : ∀ (q : Str) (cl : List (Str × Addr)) (pm cv ctv : Value), bindArgs (PySem.W.kla_fn "<lambda>" q params body scope cl pm cv ctv) ⟨[], []⟩ = pure [])
    (hbody : ∀ (A : Around) (outer : List Env) (s : Shared) (H : Hp) (E : XK) (f c' : Addr), Room k (A.deeper (lamEnv X scope s.heap.objs.size f c')) → PE (lamCx X A outer s H E scope f c') body (t E)) :
    CloOk X.prog X.w X.K X.mg X.base (k + 1) f fun H Q E => LamAt X H f params body scope ∧ CellsAt X.N X.base σ (lamCl X scope) H ∧
      t (fun cls d G => (∀ c ∈ lamCs X scope, G c = none) → E cls d (backC (lamCs X scope) H G)) σ (dropC (lamCs X scope) H) fun v G => (∀ c ∈ lamCs X scope, G c = none) → Q v (backC (lamCs X scope) H G) := by
  intro A outer s H Q E hr e0 ⟨⟨c', pm, ctv, hf, hc⟩, cA, ht⟩
  have of1 := pinO_get e0.hok hf
  obtain ⟨⟨oc, vs, tq, hoc, hdc, hvc⟩, _, _⟩ := e0.hok c' _ hc
  refine ⟨⟨_, _, _, _, of1⟩, ?_⟩
  have ps := cA.pins (lamCl_N ok L)
  have lim : s.heap.NoLimit := e0.mod.nolimit.keeps fun b o e => (e0.bs b o e).1
  -- cells are no frames
  have run : codeAny (model X.prog X.w) A (.call (.ref f) ⟨[], []⟩) (CR (L2.CX X.prog X.w) outer X.prog X.w (dropC (lamCs X scope) H) s (fun v G => (∀ c ∈ lamCs X scope, G c = none) → Q v (backC (lamCs X scope) H G)) (fun cls d G => (∀ c ∈ lamCs X scope, G c = none) → E cls d (backC (lamCs X scope) H G))) s := by
    refine PySem.W.kla_callFunE hr.depth of1 rfl L.co L.gen rfl ⟨c', oc, vs, tq, rfl, hoc, hdc, hvc⟩ ?_
    rw [hbind]
    refine wpAny_pure (wpAny_newFunctionEnv (fun y hy => (L.own y hy).2) (fun y hy => absurd hy (by simp)) (fun h₁ hns hsb => ⟨lim.fresh _ hsb, ?_⟩) L.kind)
    have kp : ∀ b o, s.heap.get? b = some o → h₁.get? b = some o := fun b o e => hsb.extBut b o (Nat.ne_of_lt (Heap.lt_size e)) (Heap.get?_push_of_some _ e)
    have J := lam_inv (f := f) (c' := c') (E := fun cls d G => (∀ c ∈ lamCs X scope, G c = none) → E cls d (backC (lamCs X scope) H G)) (tk := s.toks + ([] : List (Str × Value)).length) ok hl L e0 hr.hd cA hns kp
    show codeAny _ _ (.expr body (lamEnv X scope s.heap.objs.size f c')) _ _
    refine PySem.W.kla_codeExpr (wpAny_mono ((hbody A outer s (dropC (lamCs X scope) H) _ f c' (hr.deeper _)).run [] _ _ _ _ J ht) (fun v s' hq => ?_) fun _ _ hq => hq)
    obtain ⟨w', G, J', rv, q⟩ := hq
    exact ⟨w', G, J'.os, J'.bare, J'.base, J'.hok, rv, q⟩
  have pin : ∀ {h' : Heap} {G : Hp}, (∀ b o, s.heap.get? b = some o → dropC (lamCs X scope) H b = none → b ∉ frs outer → h'.get? b = some o) →
      ∀ c ∈ lamCs X scope, H c = none ∨ ∃ o, H c = some (PinO c o) ∧ h'.get? c = some o := fun {h' G} kk c m => by
    rcases ps c m with z | ⟨o, z⟩
    · exact .inl z
    · exact .inr ⟨o, z, kk c o (pinO_get e0.hok z) (dropC_in m) fun mm => by rw [e0.frf c mm] at z; cases z⟩
  have gone : ∀ {G : Hp}, (∀ b o, s.heap.get? b = some o → dropC (lamCs X scope) H b = none → G b = none) → ∀ c ∈ lamCs X scope, G c = none := fun {G} kk c m => by
    obtain ⟨y, e⟩ := lamCl_N ok L c m
    obtain ⟨o, _, z, _⟩ := cA y c e
    rcases z with z | z
    · exact kk c o (pinO_get e0.hok z) (dropC_in m)
    · exact kk c o (e0.bs c o z.2).1 (dropC_in m)
  refine codeAny_mono run fun r s' hq => ?_
  cases r with
  | ok fl =>
    cases fl with
    | ret u =>
      obtain ⟨v, G, os, bare, un, hok, rv, q⟩ := hq
      exact ⟨v, _, os, bare, un_back ps un, hok_back hok (pin (G := G) fun b o e n nf => un.keep b o e n nf (by simp)) (gone fun b o e n => un.free b o e n (by simp)), rv, q (gone fun b o e n => un.free b o e n (by simp))⟩
    | next => exact False.elim hq
    | brk => exact False.elim hq
    | cont => exact False.elim hq
  | error er =>
    obtain ⟨a, B, G, cls, d, rfl, fl, hok, ub, na, os, ag, hE⟩ := hq
    have kB : ∀ c ∈ lamCs X scope, H c = none ∨ ∃ o, H c = some (PinO c o) ∧ B.get? c = some o := pin (G := G) fun b o e n nf => ub.keep b o e n nf
    refine ⟨a, B, _, cls, d, rfl, fl, hok_back hok kB (gone ub.free), ⟨fun b o e n nf => ub.keep b o e (drop_none n) nf, ub.slot, fun b o e n => back_none ub.free e n, ub.there, fun b xs q => ?_, fun b o v q => ?_, fun b qs q => ?_⟩, ?_, os, ag, hE (gone ub.free)⟩
    · have m := ps.no q no_tup
      rw [backC_out m]; exact ub.tups b xs (by rw [dropC_out m]; exact q)
    · have m := ps.no q no_frz
      rw [backC_out m]; exact ub.frzs b o v (by rw [dropC_out m]; exact q)
    · have m := ps.no q no_tbl
      obtain ⟨more, z⟩ := ub.tbls b qs (by rw [dropC_out m]; exact q)
      exact ⟨more, by rw [backC_out m]; exact z⟩
    · by_cases m : a ∈ lamCs X scope
      · rcases kB a m with z | ⟨o, _, z⟩
        · rw [backC_in m]; exact z
        · rw [fl.2.1] at z; cases z
      · rw [backC_out m]; exact na
end
section
variable {X : Cx} {i k : Nat} {x : Str} {p pos : Pos} {E : St → XK}
/-- x(), x a name of the def that holds what keeps a promise -/
def tCallClo (P : Program) (w : World) (K : PySem.W.Frag) (mg : Str → Option Value) (base : Heap) (i k : Nat) (E : St → XK) : TE := fun σ H Q => ∃ f sp, σ[i]? = some (some (.ref f)) ∧ CloOk P w K mg base k f sp ∧ sp H Q (E σ)
theorem pe_callClo (hr : Room k X.A) (hN : X.N[i]? = some x) (hv : Vis X.env.scope x) (hx : ∀ σ, PassesAt (L2.CX X.prog X.w) X σ (E σ)) (hdb : (x == ("__debug__" : Str)) = false := by decide) (hcd : (x == ("__classdict__" : Str)) = false := by decide) :
    PE X (.Call (.Name x p) [] [] pos) (tCallClo X.prog X.w X.K X.mg X.base i k E) := by
  constructor
  intro pins s σ H Q I ⟨f, sp, hs, C, h⟩
  refine wpAny_Call_Name_kw (thn ((pe_var (pos := p) hN hv hdb hcd).run pins s σ H (fun v H1 => v = .ref f ∧ H1 = H) I ⟨.ref f, hs, rfl, rfl⟩) fun u s1 ⟨v, H1, I1, r1, q1⟩ => ?_)
  obtain ⟨rfl, rfl⟩ := q1
  cases r1
  obtain ⟨fn, run⟩ := C X.A X.stack s1 _ Q (E σ) hr I1.env0 h
  refine PySem.W.callWith_F0 fn (wpAny_call (codeAny_mono run fun r s' hq => ?_))
  cases r with
  | error er => exact hx σ pins _ s1 er s' I1 hq
  | ok fl =>
    cases fl with
    | ret u => exact I1.after hq
    | next => exact False.elim hq
    | brk => exact False.elim hq
    | cont => exact False.elim hq
end
end L2
/-! a lambda is made, and is new -/
namespace L2
open PySem PySem.Spec PyProof.Rows LamX
/-- the reading: tables grow, all else stays; the lambda stands at a new place -/
def tLamE (X : Cx) (T : List (Addr × Str)) (params : Arguments) (body : Expr) (scope : Scope) : TE := fun σ H Q => Tabs T H ∧ ∀ f H1, ExtN H H1 → Tabs T H1 → H f = none → LamAt X H1 f params body scope → Q (.ref f) H1
section
variable {X : Cx} {pins : List (Addr × Obj)} {σ : St} {H : Hp} {s : Shared} {T : List (Addr × Str)} {c P : Addr} {params : Arguments} {body : Expr} {scope : Scope} {pos : Pos}
/-- the new function's object is pinned -/
theorem Inv.newFn {s1 : Shared} {H1 : Hp} {f c' : Addr} {pm ctv : Value} {q : Str} {cl : List (Str × Addr)} (I : Inv X pins σ H s) (I1 : Inv X pins σ H1 s1) (hz : s.heap.objs.size ≤ f) (n1 : H1 f = none) (ho : s1.heap.get? f = some (PySem.W.kla_obj "<lambda>" q params body scope cl pm c' ctv)) :
    Inv X pins σ (upd H1 f (PinO f (PySem.W.kla_obj "<lambda>" q params body scope cl pm c' ctv))) s1 := by
  refine I1.know ho n1 (fun z => ?_) ?_ (fun v z => by cases z) (fun p hp z => ?_) (pinO_ok ho)
  · have := I.lt
    rw [← z] at this
    exact Nat.lt_irrefl _ (Nat.lt_of_lt_of_le this hz)
  · cases e : X.s_0.heap.get? f with
    | none => rfl
    | some o => exact absurd (Nat.lt_of_lt_of_le (Heap.lt_size e) (Nat.le_trans I.sz hz)) (Nat.lt_irrefl _)
  · have := Heap.lt_size (I.pin p hp).1
    rw [z] at this
    exact Nat.lt_irrefl _ (Nat.lt_of_lt_of_le this hz)
theorem pe_lam (TB : TabB X.base X.mg c P) (hcode : X.env.code = .ref c) (hm : (P, X.env.qual ++ "<lambda>") ∈ T) (hu : ∀ p ∈ T, p.1 = P → p.2 = X.env.qual ++ "<lambda>") (hdef : defaultsOf params X.env = ([], [])) (L : LamS X.env.scope scope) :
    PE X (.Lambda params body scope pos) (tLamE X T params body scope) := by
  constructor
  rintro pins s σ H Q I ⟨hT, h⟩
  have has := L.has I.ok
  obtain ⟨ps, hP, ht, ha⟩ := hT _ hm
  have blt : s.heap.BuiltinsAt X.mg P := TB.bm.keeps I.bk
  have tab : s.heap.get? P = some { cls := .none, data := .fields ps } := I.hok P _ hP
  refine PySem.W.kla_eval hdef ?_
  cases hc : codeAmong pos ps.toList with
  | some cv =>
    obtain ⟨c', rfl, hco⟩ := ha pos cv hc
    refine PySem.W.kla_makeFunctionHit (mg := X.mg) (c := c) (P := P) (ps := ps) (closure_ok has) I.ok.glob (I.mod.glob.keeps I.bk) hcode (TB.code.keeps I.bk) tab ht hc blt fun ctv h' tk hx hsz => ?_
    have I1 : Inv X pins σ H { s with heap := h'.push (PySem.W.kla_obj "<lambda>" (X.env.qual ++ "<lambda>") params body scope (lamCl X scope) ((X.mg "__name__").getD .none) c' ctv), toks := tk } := I.kept fun b o e => Heap.get?_push_of_some _ (hx b o e)
    have nf : H h'.objs.size = none := I.hok.fresh hsz
    have J := I.newFn I1 hsz nf (Heap.get?_push_size _ rfl)
    have sm : ∀ b o, H b = some o → upd H h'.objs.size (PinO h'.objs.size (PySem.W.kla_obj "<lambda>" (X.env.qual ++ "<lambda>") params body scope (lamCl X scope) ((X.mg "__name__").getD .none) c' ctv)) b = some o := fun b o e => by rw [upd_ne (ne_of_none e nf)]; exact e
    exact ⟨.ref h'.objs.size, _, J, rfl, h _ _ (.of sm) (hT.ext sm) nf ⟨c', _, ctv, upd_same, sm _ _ hco⟩⟩
  | none =>
    refine PySem.W.kla_makeFunction (mg := X.mg) (c := c) (P := P) (ps := ps) (closure_ok has) I.ok.glob (I.mod.glob.keeps I.bk) hcode (TB.code.keeps I.bk) tab ht hc TB.gP blt fun c' ctv h' tk hx hge hlt hrec htb => ?_
    obtain ⟨c2, oc, vs, tq, e2, hoc, hd, hv⟩ := hrec
    cases e2
    have hsz : s.heap.objs.size ≤ h'.objs.size := Nat.le_trans hge (Nat.le_of_lt hlt)
    have nC : H c' = none := I.hok.fresh hge
    have nPC : P ≠ c' := ne_of_none hP nC
    have I1 := inv_table (t' := tk) (more := #[rawInt pos.line, rawInt pos.col, .ref c']) (h' := h'.push (PySem.W.kla_obj "<lambda>" (X.env.qual ++ "<lambda>") params body scope (lamCl X scope) ((X.mg "__name__").getD .none) c' ctv)) I hP
      (fun b o hb e => Heap.get?_push_of_some _ (hx b o hb e)) (Heap.get?_push_of_some _ htb) hge ⟨oc, vs, tq, Heap.get?_push_of_some _ hoc, hd, hv⟩
    have nf : upd (upd H P (.tbl (ps ++ #[rawInt pos.line, rawInt pos.col, .ref c']))) c' (CodeO c' (X.env.qual ++ "<lambda>")) h'.objs.size = none := by
      rw [upd_ne (Nat.ne_of_gt hlt), upd_ne (Nat.ne_of_gt (Nat.lt_of_lt_of_le (Heap.lt_size tab) hsz))]
      exact I.hok.fresh hsz
    have J := I.newFn I1 hsz nf (Heap.get?_push_size _ rfl)
    have eA : ∀ b o, H b = some o → (∀ qs, o ≠ .tbl qs) → upd (upd H P (.tbl (ps ++ #[rawInt pos.line, rawInt pos.col, .ref c']))) c' (CodeO c' (X.env.qual ++ "<lambda>")) b = some o := fun b o e n => by
      rw [upd_ne (ne_of_none e nC), upd_ne (fun z => n ps (Option.some.inj (e.symm.trans (by rw [z]; exact hP))))]
      exact e
    have tT : Tabs T (upd (upd H P (.tbl (ps ++ #[rawInt pos.line, rawInt pos.col, .ref c']))) c' (CodeO c' (X.env.qual ++ "<lambda>"))) := fun p hp => by
      have more : (ps ++ #[rawInt pos.line, rawInt pos.col, .ref c']).toList = ps.toList ++ [rawInt pos.line, rawInt pos.col, .ref c'] := by simp
      by_cases hb : p.1 = P
      · refine ⟨ps ++ #[rawInt pos.line, rawInt pos.col, .ref c'], by rw [hb, upd_ne nPC, upd_same], by rw [more]; exact PySem.TriplesOk_snoc _ _ _ _ ht, fun p' cv hcv => ?_⟩
        rw [more] at hcv
        rw [hu p hp hb]
        rcases among_app _ ht hcv with z | z
        · obtain ⟨c0, e1, e2⟩ := ha p' cv z
          exact ⟨c0, e1, eA _ _ e2 codeO_ne⟩
        · exact ⟨c', z, upd_same⟩
      · obtain ⟨qs, a1, a2, a3⟩ := hT p hp
        refine ⟨qs, by rw [upd_ne (ne_of_none a1 nC), upd_ne hb]; exact a1, a2, fun p' cv hcv => ?_⟩
        obtain ⟨c0, e1, e2⟩ := a3 p' cv hcv
        exact ⟨c0, e1, eA _ _ e2 codeO_ne⟩
    refine ⟨.ref h'.objs.size, _, J, rfl, h _ _ (fun b o e n => ?_) (tT.ext fun b o e => by rw [upd_ne (ne_of_none e nf)]; exact e) (I.hok.fresh hsz) ⟨c', _, ctv, upd_same, by rw [upd_ne (Nat.ne_of_lt hlt)]; exact upd_same⟩⟩
    have e' := eA b o e n
    rw [upd_ne (ne_of_none e' nf)]; exact e'
end
end L2
/-! list comprehensions whose items hand lambdas on -/
namespace L2
open PySem PySem.Spec PyProof.Rows LamX
/-- a block of X: what is known where it begins -/
structure BlkAt (X : Cx) (σ0 : St) (scope : Scope) (s : Shared) (H : Hp) (cl : List (Str × Addr)) (fp : List Addr) : Prop where
  inv : ∃ pins, Inv X pins σ0 H s ∧ ∀ b ∈ fp, FpOk X pins H b
  cl : cl = cellsFrom (s.heap.objs.size + 1) scope.names (cloFrom X.env.cells scope.names [])
/-- an item's expression in a block of X -/
def PEb (X : Cx) (scope : Scope) (vs : List Nat) (e : Expr) (t : TE) : Prop :=
  ∀ (σ0 : St) (s0 : Shared) (H0 : Hp) (C : Addr) (cl : List (Str × Addr)) (fp : List Addr), BlkAt X σ0 scope s0 H0 cl fp →
    ∀ (pins : List (Addr × Obj)) (s : Shared) (σ : St) (H : Hp) (Q : VK), wipe σ vs = wipe σ0 vs → Inv (X.blk s0 H0 scope (compEnvC scope cl C X.env) fp) pins σ H s → t σ H Q →
      wpAny (model X.prog X.w) X.A (eval e (compEnvC scope cl C X.env)) (EP (X.blk s0 H0 scope (compEnvC scope cl C X.env) fp) pins σ Q) (fun _ _ => False) s
theorem peb_of {X : Cx} {scope : Scope} {vs : List Nat} {e : Expr} {t : TE} (h : ∀ (s : Shared) (H : Hp) (C : Addr) (cl : List (Str × Addr)) (fp : List Addr), PE (X.blk s H scope (compEnvC scope cl C X.env) fp) e t) : PEb X scope vs e t :=
  fun _ s0 H0 C cl fp _ pins s σ H Q _ I q => (h s0 H0 C cl fp).run pins s σ H Q I q
section
variable {X : Cx}
theorem pe_lcX {elt tg iter : Expr} {ifs : List Expr} {scope : Scope} {own : List (Str × Nat)} {pos : Pos} {wi : TI} {g : TG} {tt : TT} {te : TE} (hc : X.calm = true) (hN : X.N.Nodup) (hi : PI X tg iter wi) (ok : BlkOk X.N X.env.scope scope own)
    (hg : ∀ (s : Shared) (H : Hp) (C : Addr) (cl : List (Str × Addr)) (fp : List Addr), PG (X.blk s H scope (compEnvC scope cl C X.env) fp) tg g) (ht : ∀ (s : Shared) (H : Hp) (C : Addr) (cl : List (Str × Addr)) (fp : List Addr), PTs (X.blk s H scope (compEnvC scope cl C X.env) fp) ifs tt)
    (he : PEb X scope (own.map (·.2)) elt te) (hs : ∀ x, foldedSetIterable iter X.env x = pure x := by intro _; rfl) :
    PE X (.ListComp elt [⟨tg, iter, ifs, 0⟩] scope pos) (tLc wi g tt te (own.map (·.2))) := by
  constructor
  intro pins s σ H Q I h
  rw [eval_ListComp]
  have caught : ∀ y ∈ scope.names, y.2 = .free → ∃ c, X.env.cells.lookup y.1 = some c := fun y hy e => (ok.free y hy e).elim (fun k => I.ok.has _ (.inl k)) fun k => I.ok.has _ (.inr k)
  refine wpAny_comprehension_free rfl hs (closure_ok caught) ok.kind (fun y hy e => by rw [ok.uniq y hy, e]) (thn (hi.run pins s σ H _ I h) fun xv s1 hx => thn hx fun itv s2 h2 => ?_)
  obtain ⟨it, fp, tn, J, H2, rfl, I2, T, st2, f2, q⟩ := h2
  refine wpAny_newObj_type (newEnv_comp ?_) (by show 0 ≤ sizeLine; decide)
  generalize hD : s2.heap.objs.size = D
  have nD : H2 D = none := I2.hok.fresh (Nat.le_of_eq hD)
  obtain ⟨W, ⟨m0, w0⟩, turn⟩ := q D nD
  have grow : ∀ {l : List Value} {b : Addr} {o : Obj}, s2.heap.get? b = some o → (s2.heap.push { cls := .type "list", data := .seq l.toArray }).get? b = some o := fun e => Heap.get?_push_of_some _ e
  have I3 : Inv X pins σ (upd H2 D (.lst [])) { s2 with heap := s2.heap.push { cls := .type "list", data := .seq ([] : List Value).toArray } } :=
    I2.laid (t' := s2.toks) (fun b o e => grow e) (Nat.le_of_eq hD) ⟨Nat.zero_le _, [], 0, .nil, by rw [← hD]; exact Heap.get?_push_size _ rfl⟩
  have f3 : ∀ b ∈ fp, FpOk X pins (upd H2 D (.lst [])) b ∧ b < (s2.heap.push { cls := .type "list", data := .seq ([] : List Value).toArray }).objs.size := fun b hb => by
    obtain ⟨o, e, _⟩ := T.obj _ _ st2 b hb
    have lt := Heap.lt_size e
    exact ⟨⟨by rw [upd_ne (by rw [← hD]; exact Nat.ne_of_lt lt)]; exact (f2 b hb).1, (f2 b hb).2⟩, by rw [Heap.size_push]; exact Nat.lt_succ_of_lt lt⟩
  have st3 := T.keep _ _ (s2.heap.push { cls := .type "list", data := .seq ([] : List Value).toArray }) st2 fun b _ o e => grow e
  generalize hs3 : ({ s2 with heap := s2.heap.push { cls := .type "list", data := .seq ([] : List Value).toArray } } : Shared) = s3 at I3 ⊢
  have e3 : s3.heap = s2.heap.push { cls := .type "list", data := .seq ([] : List Value).toArray } := by rw [← hs3]
  rw [← e3] at f3 st3
  have I4 := block_start I3 ok hN f3
  have B : BlkAt X σ scope s3 (upd H2 D (.lst [])) (cellsFrom (s3.heap.objs.size + 1) scope.names (cloFrom X.env.cells scope.names [])) fp := ⟨⟨pins, I3, fun b hb => (f3 b hb).1⟩, rfl⟩
  have pg := hg s3 (upd H2 D (.lst [])) s3.heap.objs.size (cellsFrom (s3.heap.objs.size + 1) scope.names (cloFrom X.env.cells scope.names [])) fp
  have pt := ht s3 (upd H2 D (.lst [])) s3.heap.objs.size (cellsFrom (s3.heap.objs.size + 1) scope.names (cloFrom X.env.cells scope.names [])) fp
  have pe := he σ s3 (upd H2 D (.lst [])) s3.heap.objs.size (cellsFrom (s3.heap.objs.size + 1) scope.names (cloFrom X.env.cells scope.names [])) fp B
  show codeAny _ _ (.compStart (.ListComp elt [⟨tg, iter, ifs, 0⟩] scope pos) 0 (.ref it) (.ref D) (compEnvC scope (cellsFrom (s3.heap.objs.size + 1) scope.names (cloFrom X.env.cells scope.names [])) s3.heap.objs.size X.env)) _ { s3 with heap := pushCells (s3.heap.push { cls := .type "dict", data := .dict #[] }) scope.names }
  have nfp : ∀ b ∈ fp, (upd H2 D (.lst [])) b = none := fun b hb => (f3 b hb).1.1
  generalize hce : compEnvC scope (cellsFrom (s3.heap.objs.size + 1) scope.names (cloFrom X.env.cells scope.names [])) s3.heap.objs.size X.env = ce at I4 pg pt pe ⊢
  have cL : ce.locals = s3.heap.objs.size := by subst hce; rfl
  generalize upd H2 D (.lst []) = H3 at I3 I4 pg pt pe w0 nfp f3
  generalize hs4 : ({ s3 with heap := pushCells (s3.heap.push { cls := .type "dict", data := .dict #[] }) scope.names } : Shared) = s4 at I4 ⊢
  have st4 : tn 0 s4.heap := T.keep _ _ _ st3 fun b _ o e => by rw [← hs4]; exact pushCells_keeps _ _ _ _ (Heap.get?_push_of_some _ e)
  have still : ∀ {σ' : St} {H' : Hp} {s' : Shared}, Inv (X.blk s3 H3 scope ce fp) [] σ' H' s' → (∀ b ∈ fp, H' b = none) → ∀ b ∈ fp, FpOk (X.blk s3 H3 scope ce fp) [] H' b := fun {σ' H' s'} I' hn b hb =>
    ⟨hn b hb, (I'.ok.exf b hb).1, I'.ok.exfs b hb, .inl hb, fun x c e => (I'.ok.exf b hb).2 x c e, fun p hp => absurd (show p ∈ ([] : List (Addr × Obj)) ++ [] from hp) (by simp)⟩
  have loop : codeAny (model X.prog X.w) X.A (.compLoop (.ListComp elt [⟨tg, iter, ifs, 0⟩] scope pos) 0 (.ref it) (.ref D) ce) (compPost (model X.prog X.w) X.A X.xe none (EP X pins σ Q) (.ref D) s3.heap.objs.size) s4 := by
    refine compLoop_any (fun n s' => ∃ i H', Inv (X.blk s3 H3 scope ce fp) [] (wipe σ (own.map (·.2))) H' s' ∧ tn i s'.heap ∧ (∀ b ∈ fp, H' b = none) ∧ W i n H') ?_ m0 ⟨0, H3, I4, st4, nfp, w0⟩
    rintro n s5 ⟨i, H5, I5, st5, n5, w5⟩
    rcases turn i n H5 w5 with ⟨stop, qq⟩ | ⟨go, Nx, hNx, step⟩
    · refine thnF (T.done (X.blk s3 H3 scope ce fp) rfl rfl rfl hc i [] s5 _ H5 (fun _ _ => False) I5 (still I5 n5) st5 stop) fun r s6 ⟨hr, I6⟩ => ?_
      subst hr
      have I7 : Inv X pins σ H5 s6 := I3.call' (ch := fp) I6.os I6.base I6.hok I6.bare fun b hb => ⟨(f3 b hb).1.2.2.2.1, (f3 b hb).1.2.1, (f3 b hb).1.2.2.2.2.1, (f3 b hb).1.2.2.2.2.2⟩
      have nC : H5 s3.heap.objs.size = none := by
        have z : H5 ce.locals = none := I6.free
        rw [cL] at z; exact z
      obtain ⟨m, hn, _⟩ := I6.loc
      have hn : s6.heap.Ns ce.locals m := hn
      rw [cL] at hn
      obtain ⟨g0, g1, g2, g3, g4, g5⟩ := I3.fpOk (Nat.le_refl s3.heap.objs.size) nC
      exact ⟨m, hn, fun h'' sb => ⟨.ref D, H5, I7.turned (t' := s6.toks) (fun b o hb e => (sb.2 b hb).trans e) g0 g1 g3 g4 g5, rfl, qq⟩⟩
    · refine thnF (T.item (X.blk s3 H3 scope ce fp) rfl rfl rfl hc i [] s5 _ H5 (fun _ _ => False) I5 (still I5 n5) st5 go) fun r s6 ⟨u, hr, h6⟩ => ?_
      subst hr
      refine thnF h6 fun _ s7 ⟨x, H7, I7, r7, y7, st7, n7⟩ => ?_
      have J7 := I7.pinned (still I7 n7) (T.obj _ _ st7)
      refine thnF (pg.run _ s7 _ H7 x u _ J7 r7 (step x H7 y7)) fun _ s8 ⟨σ8, H8, I8, hw8, q8⟩ => ?_
      refine thnF (pt.run _ s8 σ8 H8 _ I8 q8) fun b s9 ⟨H9, I9, q9⟩ => ?_
      have next : ∀ {s' : Shared} {H' : Hp}, Inv (X.blk s3 H3 scope ce fp) ([] ++ pinsAt fp s7.heap) σ8 H' s' → Nx H' → ∃ m, m < n ∧ ∃ i H', Inv (X.blk s3 H3 scope ce fp) [] (wipe σ (own.map (·.2))) H' s' ∧ tn i s'.heap ∧ (∀ b ∈ fp, H' b = none) ∧ W i m H' := fun {s' H'} I' nx => by
        obtain ⟨m', hm, w'⟩ := hNx H' nx
        have pp : ∀ b ∈ fp, ∀ o, s7.heap.get? b = some o → s'.heap.get? b = some o ∧ H' b = none := fun b hb o e =>
          have z := I'.pin (b, o) (List.mem_append_right _ (List.mem_append_right _ (mem_pinsAt hb e)))
          ⟨z.1, z.2.1⟩
        refine ⟨m', hm, i + 1, H', (I'.unpinned (pins := [])).weak (by rw [← wipe_length σ8 (own.map (·.2)), hw8]) (fun j v e => ?_), T.keep _ _ _ st7 fun b hb o e => (pp b hb o e).1, fun b hb => ?_, w'⟩
        · rw [← hw8] at e; exact (wipe_some e).1
        · obtain ⟨o, e, _⟩ := T.obj _ _ st7 b hb
          exact (pp b hb o e).2
      cases b with
      | false =>
        simp only [Bool.false_eq_true, if_false] at q9 ⊢
        exact next I9 q9
      | true =>
        simp only [if_true] at q9 ⊢
        refine thnF (pe _ s9 σ8 H9 _ hw8 I9 q9) fun z s10 ⟨yv, H10, I10, r10, acc, hD10, hz10, nx⟩ => ?_
        exact app_ok (X := X.blk s3 H3 scope ce fp) I10 hD10 hz10 r10 fun s11 I11 => next I11 nx
  exact codeAny_compStart_list loop (T.self X.A 0 _ _ _ st4 loop)
end
end L2
/-! within a comprehension: calls that hand on lambdas of the def around -/
namespace L2
open PySem PySem.Spec PyProof.Rows LamX
theorem wipe_get {σ : St} {i : Nat} : ∀ {vs : List Nat}, i ∉ vs → (wipe σ vs)[i]? = σ[i]?
  | [], _ => rfl
  | v :: vs, h => by
    unfold wipe
    rw [List.getElem?_set_ne (fun z => h (by rw [z]; exact List.mem_cons_self))]
    exact wipe_get fun m => h (List.mem_cons_of_mem _ m)
section
variable {P : Program} {w : World} {K : PySem.W.Frag} {mg : Str → Option Value} {base : Heap} {A : Around} {outer : List Env} {s : Shared} {H : Hp}
/-- objects that nobody knows, pinned -/
theorem pin_state (e0 : Env0 P w K mg base A outer s H) (cs : List Addr) (h : ∀ c ∈ cs, H c = none ∧ c ∉ frs outer ∧ base.get? c = none) :
    ∃ HZ, dropC cs HZ = H ∧ Pins cs HZ ∧ (∀ c ∈ cs, HZ c = (s.heap.get? c).map (PinO c)) ∧ (∀ b, b ∉ cs → HZ b = H b) ∧ Env0 P w K mg base A outer s HZ := by
  let HZ : Hp := fun b => if b ∈ cs then (s.heap.get? b).map (PinO b) else H b
  have hin : ∀ {b}, b ∈ cs → HZ b = (s.heap.get? b).map (PinO b) := fun m => if_pos m
  have hout : ∀ {b}, b ∉ cs → HZ b = H b := fun m => if_neg m
  have keep : ∀ {b u}, H b = some u → HZ b = some u := fun {b u} q => by rw [hout (fun m => by rw [(h b m).1] at q; cases q)]; exact q
  refine ⟨HZ, ?_, fun c m => ?_, fun c m => hin m, fun b m => hout m, ⟨e0.frames, e0.mod, fun b o e => ⟨(e0.bs b o e).1, ?_⟩, e0.bsz, e0.funs, fun b hb => ?_, fun b u e => ?_, e0.bare⟩⟩
  · funext b
    by_cases m : b ∈ cs
    · rw [dropC_in m, (h b m).1]
    · rw [dropC_out m, hout m]
  · rw [hin m]
    cases s.heap.get? c with
    | none => exact .inl rfl
    | some o => exact .inr ⟨o, rfl⟩
  · rw [hout (fun m => by rw [(h b m).2.2] at e; cases e)]
    exact (e0.bs b o e).2
  · rw [hout (fun m => (h b m).2.1 hb)]; exact e0.frf b hb
  · by_cases m : b ∈ cs
    · rw [hin m] at e
      cases q : s.heap.get? b with
      | none => rw [q] at e; cases e
      | some o => rw [q] at e; cases e; exact pinO_ok q
    · rw [hout m] at e
      exact (e0.hok b u e).stay (fun _ _ _ q => q) (fun c q => keep q) fun c xs q => keep q
end
section
variable {X : Cx} {x : Str} {k : Nat} {ps : List Str} {sp : Sp} {e : Expr} {es : List Expr} {t : TA} {p pos : Pos} {scope : Scope} {vs : List Nat}
/-- g(e, ..) in a comprehension, where lambdas that the def around made are handed on -/
theorem peb_fdC (ys : List Str) (hk : ∀ y ∈ ys, InCell X y) (hf : NoFr X ys) (hv : ∀ y ∈ ys, ∀ i, X.N[i]? = some y → i ∉ vs) (G : Fp.FdG X.prog X.w X.K X.mg X.base CX0 x k ps sp) (hr : Room k X.A) (hgu : X.A.guards = some [])
    (hg : ∀ (s : Shared) (H : Hp) (C : Addr) (cl : List (Str × Addr)) (fp : List Addr), Gl (X.blk s H scope (compEnvC scope cl C X.env) fp) x)
    (ha : ∀ (s : Shared) (H : Hp) (C : Addr) (cl : List (Str × Addr)) (fp : List Addr), PA (X.blk s H scope (compEnvC scope cl C X.env) fp) (e :: es) t) (hdb : (x == ("__debug__" : Str)) = false := by decide)
    (he : ∀ env : Env, starEach (e :: es) env = (false, eval e env) :: starEach es env := by intro _; rfl) (hpl : ∀ env : Env, (backTo pos (starEach es env)).any (·.1) = false := by intro _; rfl) :
    PEb X scope vs (.Call (.Name x p) (e :: es) [] pos) (tCallC X ys sp t) := by
  obtain ⟨f, fd, hm, hkk, hb, F⟩ := G.ex
  intro σ0 s0 H0 C cl fp B pins s σ H Q hw I h
  obtain ⟨⟨pins0, I0, hfp⟩, _⟩ := B
  refine wpAny_Call_Name_kw (ld_glob (X := X.blk s0 H0 scope (compEnvC scope cl C X.env) fp) I (hg s0 H0 C cl fp) hm ?_ hdb)
  refine PySem.W.callWith_K (h₀ := X.base) I.ok.mod.kin hkk (thn ((ha s0 H0 C cl fp).run pos pins s σ H _ I h) fun us s1 ⟨ws, H1, I1, r, q⟩ => ⟨I1.kIn, ?_⟩) (he _) (hpl _)
  let cs : List Addr := ((cellsOf X ys).map (·.2)).filter fun c => (X.base.get? c).isNone
  have csm : ∀ {c}, c ∈ cs → (∃ y, y ∈ ys ∧ X.env.cells.lookup y = some c) ∧ X.base.get? c = none := fun {c} m => by
    obtain ⟨m1, m2⟩ := List.mem_filter.mp m
    obtain ⟨⟨y, c'⟩, h, rfl⟩ := List.mem_map.mp m1
    exact ⟨⟨y, cellsOf_mem.mp h⟩, Option.isNone_iff_eq_none.mp m2⟩
  have nfr : ∀ y ∈ ys, ∀ c, X.env.cells.lookup y = some c → c ∉ frs X.stack := fun y hy c e z => by
    rcases List.mem_cons.mp (I0.stkSub c z) with q | q
    · exact I0.cne y c e q
    · exact hf I0.ok y hy c e q
  have nfp : ∀ y c, X.env.cells.lookup y = some c → c ∉ fp := fun y c e m => (hfp c m).2.2.2.2.1 y c e rfl
  -- what stands there since the block began
  have here : ∀ y ∈ ys, ∀ c, X.env.cells.lookup y = some c → ∃ o ov, s1.heap.get? c = some o ∧ H1 c = none ∧ s0.heap.get? c = some o ∧ o.data = .cell ov := fun y hy c e => by
    obtain ⟨ov, o, ho, hd⟩ := I0.cell y c e
    have n0 := I0.freeC y c e
    exact ⟨o, ov, I1.base.keep c o ho n0 (nfr y hy c e) (nfp y c e), I1.base.free c o ho n0 (nfp y c e), ho, hd⟩
  obtain ⟨HZ, e1, e2, e3, e4, e0⟩ := pin_state I1.env0 cs fun c m => by
    obtain ⟨⟨y, hy, e⟩, hb⟩ := csm m
    obtain ⟨_, _, _, n, _⟩ := here y hy c e
    exact ⟨n, nfr y hy c e, hb⟩
  have cA : CellsAt X.N X.base σ (cellsOf X ys) HZ := fun y c e => by
    obtain ⟨hy, e⟩ := cellsOf_lookup.mp e
    obtain ⟨o, ov, h1, n1, h0, hd⟩ := here y hy c e
    refine ⟨o, ov, ?_, hd, fun i v a1 a2 => ?_⟩
    · by_cases m : c ∈ cs
      · exact .inl (by rw [e3 c m, h1]; rfl)
      · right
        refine ⟨by rw [e4 c m]; exact n1, ?_⟩
        cases q : X.base.get? c with
        | none => exact absurd (List.mem_filter.mpr ⟨List.mem_map.mpr ⟨(y, c), cellsOf_mem.mpr ⟨hy, e⟩, rfl⟩, by rw [q]; rfl⟩) m
        | some o' =>
          have := (I0.bs c o' q).1
          rw [h0] at this; cases this; rfl
    · have ni := hv y hy i a1
      have a0 : σ0[i]? = some (some v) := by rw [← wipe_get ni, ← hw, wipe_get ni]; exact a2
      obtain ⟨mm, _, hl⟩ := I0.loc
      obtain ⟨u, r, q⟩ := hl i y v a1 a0 ((hk y hy).elim (fun z => .inr (.inl z)) (fun z => .inr (.inr z)))
      rcases q with ⟨k, _⟩ | ⟨_, c', e', o', ho', hd'⟩
      · have k : X.env.scope.names.lookup y = some .local := k
        rcases hk y hy with z | z <;> rw [z] at k <;> cases k
      · rw [e] at e'; cases e'
        rw [h0] at ho'; cases ho'
        rw [hd] at hd'; cases hd'
        exact ⟨u, rfl, r⟩
  have eP : Pinned cs HZ := fun c m => by
    obtain ⟨⟨y, hy, e⟩, _⟩ := csm m
    obtain ⟨o, _, h1, _⟩ := here y hy c e
    exact ⟨o, by rw [e3 c m, h1]; rfl⟩
  have q1 := q I0.ok I1.len cs HZ e1 eP cA
  have r2 : Vals (ws ++ []) (us ++ []) := r.append .nil
  rw [List.append_nil, List.append_nil] at r2
  have hl : us.length = ps.length := by rw [← r2.length]; exact F.len _ _ _ _ q1
  have bb := hb s1 us I1.kIn (by rw [List.append_nil]; exact hl)
  rw [List.append_nil] at bb
  refine wpAny_call (codeAny_mono (F.run X.A X.stack s1 HZ ⟨us, []⟩ us ws _ E0 hr hgu e0 bb r2 q1) fun r s' hq => ?_)
  cases r with
  | error er => exact (show False from hq)
  | ok fl =>
    cases fl with
    | ret u =>
      obtain ⟨v, H', os, bare, un, hok, rv, hp, qq⟩ := hq
      refine I1.after ⟨v, dropC cs H', os, bare, ?_, hok_drop hok (fun c m => by rw [hp c m]; exact e2 c m), rv, qq⟩
      rw [← e1]
      exact un_drop e2 hp e0.hok hok un fun c m => by
        obtain ⟨⟨y, hy, e⟩, _⟩ := csm m
        exact nfr y hy c e
    | next => exact False.elim hq
    | brk => exact False.elim hq
    | cont => exact False.elim hq
end
end L2
namespace L2
open PySem PySem.Spec PyProof.Rows LamX
/-- within a block, too, cells are no frames -/
theorem noFr_blk {X : Cx} {scope : Scope} {own : List (Str × Nat)} {ys : List Str} {σ0 : St} {s : Shared} {H : Hp} {C : Addr} {cl : List (Str × Addr)} {fp : List Addr} (okb : BlkOk X.N X.env.scope scope own) (hf : NoFr X ys) (B : BlkAt X σ0 scope s H cl fp) :
    NoFr (X.blk s H scope (compEnvC scope cl C X.env) fp) ys := fun _ y hy c e m => by
  obtain ⟨⟨pins0, I0, _⟩, hcl⟩ := B
  have e : cl.lookup y = some c := e
  have m : c ∈ frs X.stack := m
  rw [hcl] at e
  have mem := PySem.mem_of_lookup e
  rw [← Heap.size_push s.heap { cls := .type "cell", data := .cell none }] at mem
  rcases cells_mem mem with q | ⟨_, q, _⟩
  · rcases cloFrom_mem q with q | ⟨q1, q2⟩
    · cases q
    · obtain ⟨c1, hc⟩ : ∃ c1, X.env.cells.lookup y = some c1 := by
        rcases okb.free _ q1 rfl with k | k
        · exact I0.ok.has _ (.inl k)
        · exact I0.ok.has _ (.inr k)
      have ec : c = c1 := by rw [q2, hc]; rfl
      subst ec
      rcases List.mem_cons.mp (I0.stkSub c m) with z | z
      · exact I0.cne y c hc z
      · exact hf I0.ok y hy c hc z
  · obtain ⟨_, o, ho, _⟩ := I0.stack.mem m
    rw [Heap.size_push] at q
    exact Nat.lt_irrefl _ (Nat.lt_of_lt_of_le (Heap.lt_size ho) (Nat.le_of_succ_le q))
def tAllB (t : Shared → Hp → Addr → List (Str × Addr) → List Addr → TE) : TE := fun σ H Q => ∀ s0 H0 C cl fp, t s0 H0 C cl fp σ H Q
theorem all_in {t : Shared → Hp → Addr → List (Str × Addr) → List Addr → TE} {σ : St} {H : Hp} {Q : VK} (h : ∀ s0 H0 C cl fp, t s0 H0 C cl fp σ H Q) : tAllB t σ H Q := h
/-- an item's expression, whatever the block -/
theorem peb_all {X : Cx} {scope : Scope} {vs : List Nat} {e : Expr} {t : Shared → Hp → Addr → List (Str × Addr) → List Addr → TE}
    (h : ∀ (σ0 : St) (s : Shared) (H : Hp) (C : Addr) (cl : List (Str × Addr)) (fp : List Addr), BlkAt X σ0 scope s H cl fp → PE (X.blk s H scope (compEnvC scope cl C X.env) fp) e (t s H C cl fp)) :
    PEb X scope vs e (tAllB t) :=
  fun σ0 s0 H0 C cl fp B pins s σ H Q _ I q => (h σ0 s0 H0 C cl fp B).run pins s σ H Q I (q s0 H0 C cl fp)
end L2
/-! the end of a law whose defs make lambdas and show data -/
namespace L2
open PySem PySem.Spec PyProof.Rows LamX
theorem law_callTG {P : Program} {w : World} {K : PySem.W.Frag} {mg mb : Str → Option Value} {CX : CXT} {k : Nat} {fa a : Addr} {cs : List (Addr × Addr)} {fd : FuncData} {x : Str} {sp : Sp} {s₁ : Shared} {vs : List Value} {ns : List Int}
    (KX : K.In s₁.heap) (hns : s₁.heap.Ns mainGlobals mg) (hb : s₁.heap.Ns builtinsNs mb) (hbb : ∀ x : Str, x ≠ "__name__" → mb x = bootBuiltins x) (hlim : s₁.heap.NoLimit) (hg : s₁.gens = #[])
    (hT : ∀ p ∈ cs, s₁.heap.get? p.2 = some { cls := .none, data := .fields #[] }) (nT : ∀ p ∈ cs, K.lookup p.2 = none) (C : ∀ p ∈ cs, PySem.W.CodeHd s₁.heap p.1 p.2)
    (hbm : ∃ (bm : Addr) (ob : Obj), mg "__builtins__" = some (.ref bm) ∧ bm ≠ builtinsNs ∧ s₁.heap.get? bm = some ob ∧ ob.cls = .type "module" ∧ ob.dict = some builtinsNs ∧ ob.data = .plain)
    (ha : s₁.heap.get? a = some { cls := .type "list", data := .seq vs.toArray }) (hi : IntsAre vs ns) (hl : ns.length ≤ sizeLine) (hr : Room k callerA)
    (F : ∀ base : Heap, K.In base → base.Ns mainGlobals mg → (∀ p ∈ cs, TabB base mg p.1 p.2) → FnOkG P w K mg base CX k fa fd [x] sp) (hbind : ∀ (s : Shared) (u : Value), BindsTo s fd ⟨[u], []⟩ [(x, u)])
    (hsp : ∀ H : Hp, (∀ p ∈ cs, H p.2 = some (.tbl #[])) → (∀ b qs, H b = some (.tbl qs) → b ∈ cs.map (·.2)) → SqL K H a (ns.map V.int) → sp [.ref a] H (fun v _ => v = .bl true) fun _ _ _ => False)
    (hCX : ∀ H e s', CX [] H s₁ (fun _ _ _ => False) e s' → False) :
    codeAny (model P w) callerA (.call (.ref fa) ⟨[.ref a], []⟩) (fun r s' => r = .ok (.ret (.bool true)) ∧ OldK s₁.heap s'.heap ∧ s'.os = s₁.os ∧ AllBare s'.gens) s₁ := by
  have rv := vals_ints hi
  have lenV := hi.length
  have tab : ∀ b, b ∈ cs.map (·.2) → s₁.heap.get? b = some { cls := .none, data := .fields #[] } ∧ K.lookup b = none := fun b hb => by
    obtain ⟨p, hp, rfl⟩ := List.mem_map.mp hb
    exact ⟨hT p hp, nT p hp⟩
  have inT : ∀ p ∈ cs, p.2 ∈ cs.map (·.2) := fun p hp => List.mem_map.mpr ⟨p, hp, rfl⟩
  have aT : a ∉ cs.map (·.2) := fun z => by
    have q := (tab a z).1
    rw [ha] at q
    have z' : Data.seq vs.toArray _ = Data.fields #[] := congrArg Obj.data (Option.some.inj q)
    cases z'
  -- the script is locked, unless it is one of the module's own objects
  let H : Hp := fun b => if b ∈ cs.map (·.2) then some (.tbl #[]) else if b = a ∧ K.lookup a = none then some (.frz { cls := .type "list", data := .seq vs.toArray } (.lst (ns.map V.int))) else none
  have hTab : ∀ b, b ∈ cs.map (·.2) → H b = some (.tbl #[]) := fun b m => if_pos m
  have hOut : ∀ b, b ∉ cs.map (·.2) → H b = if b = a ∧ K.lookup a = none then some (.frz { cls := .type "list", data := .seq vs.toArray } (.lst (ns.map V.int))) else none := fun b m => if_neg m
  have kinds : ∀ b u, H b = some u → (b ∈ cs.map (·.2) ∧ u = .tbl #[]) ∨ (b = a ∧ K.lookup a = none ∧ u = .frz { cls := .type "list", data := .seq vs.toArray } (.lst (ns.map V.int))) := fun b u e => by
    by_cases m : b ∈ cs.map (·.2)
    · rw [hTab b m] at e; cases e; exact .inl ⟨m, rfl⟩
    · rw [hOut b m] at e
      by_cases q : b = a ∧ K.lookup a = none
      · rw [if_pos q] at e; cases e; exact .inr ⟨q.1, q.2, rfl⟩
      · rw [if_neg q] at e; cases e
  have hok : HOk P w H s₁.heap := fun b u e => by
    rcases kinds b u e with ⟨m, rfl⟩ | ⟨rfl, _, rfl⟩
    · exact (tab b m).1
    · exact ⟨ha, by rw [List.length_map]; exact hl, vs, _, rv, ha⟩
  have hS : SqL K H a (ns.map V.int) := by
    cases hk : K.lookup a with
    | none => exact .inl (.inr ⟨_, by rw [hOut a aT, if_pos ⟨rfl, hk⟩]⟩)
    | some o =>
      have e := KX a o hk
      rw [ha] at e; cases e
      exact .inr ⟨_, vs.toArray, _, hk, rfl, rfl, rfl, by rw [List.size_toArray, lenV]; exact hl, by simpa using rv⟩
  have other : ∀ {b : Addr} {o : Obj}, s₁.heap.get? b = some o → (∀ vs n, o.data ≠ .seq vs n) → o.data ≠ .fields #[] → H b = none := fun {b o} e h1 h2 => by
    cases q : H b with
    | none => rfl
    | some u =>
      rcases kinds b u q with ⟨m, _⟩ | ⟨rfl, _, _⟩
      · rw [(tab b m).1] at e; cases e; exact (h2 rfl).elim
      · rw [ha] at e; cases e; exact (h1 _ _ rfl).elim
  have keep : ∀ {b : Addr} {o : Obj}, s₁.heap.get? b = some o → H b = none → (hidT s₁.heap H).get? b = some o := fun e n => hidT_get e n
  have dict : ∀ {b : Addr} {m : Str → Option Value}, s₁.heap.Ns b m → (hidT s₁.heap H).Ns b m := fun {b m} ⟨o, es, ep, e, d, r⟩ => ⟨o, es, ep, keep e (other e (fun vs n z => by rw [d] at z; cases z) fun z => by rw [d] at z; cases z), d, r⟩
  have hKb : K.In (hidT s₁.heap H) := fun b o e => keep (KX b o e) (by
    cases q : H b with
    | none => rfl
    | some u =>
      rcases kinds b u q with ⟨m, _⟩ | ⟨rfl, n, _⟩
      · rw [(tab b m).2] at e; cases e
      · rw [n] at e; cases e)
  have hM : L2.Mod K mg (hidT s₁.heap H) := ⟨hKb, dict hns, ⟨mb, dict hb, hbb⟩, let ⟨mc, h1, h2⟩ := hlim; ⟨mc, dict h1, h2⟩⟩
  have TB : ∀ p ∈ cs, TabB (hidT s₁.heap H) mg p.1 p.2 := fun p hp => by
    have hP := hT p hp
    refine ⟨?_, ?_, fun z => ?_⟩
    · obtain ⟨o, us, file, tf, flags, tg, inF, text, tt, e1, r1, r2, r3, r⟩ := C p hp
      refine ⟨o, us, file, tf, flags, tg, inF, text, tt, keep e1 (other e1 (fun vs n z => ?_) fun z => ?_), r1, r2, r3, r⟩
      · rw [r2] at z; cases z
      · rw [r2] at z; cases z; simp at r3
    · obtain ⟨bm, ob, b1, b2, b3, b4, b5, b6⟩ := hbm
      refine ⟨bm, ob, b1, b2, fun q => ?_, fun q => ?_, keep b3 (other b3 (fun vs n z => ?_) fun z => ?_), b4, b5, b6⟩
      · obtain ⟨o, es, ep, e, hd, _⟩ := hns
        rw [q, e] at b3; cases b3
        rw [hd] at b6; cases b6
      · rw [q, hP] at b3; cases b3; cases b6
      · rw [b6] at z; cases z
      · rw [b6] at z; cases z
    · obtain ⟨o, es, ep, e, hd, _⟩ := hns
      rw [z, hP] at e; cases e; cases hd
  have e0 : Env0 P w K mg (hidT s₁.heap H) callerA [] s₁ H := ⟨rfl, hM, fun b o e => of_hidT e, Nat.le_of_eq (hidT_size _ _), trivial, fun b hb => absurd (show b ∈ ([] : List Addr) from hb) (by simp), hok, .of_eq hg⟩
  refine codeAny_mono ((F _ hKb (dict hns) TB).run callerA [] s₁ H ⟨[.ref a], []⟩ [.ref a] [.ref a] _ _ hr rfl e0 (hbind s₁ (.ref a)) (.cons rfl .nil) (hsp H (fun p hp => hTab _ (inT p hp)) (fun b qs e => ?_) hS)) fun r s' h => ?_
  · rcases kinds b _ e with ⟨m, _⟩ | ⟨_, _, z⟩
    · exact m
    · cases z
  cases r with
  | error e => exact (hCX H e s' h).elim
  | ok fl =>
    cases fl with
    | next => exact False.elim h
    | brk => exact False.elim h
    | cont => exact False.elim h
    | ret u =>
      obtain ⟨v, H', os, bare, un, hok', r', q⟩ := h
      have q' : v = .bl true := q
      subst q'
      obtain rfl : u = Value.bool true := r'
      have old : ∀ b o, b ∉ cs.map (·.2) → s₁.heap.get? b = some o → s'.heap.get? b = some o := fun b o nb e => by
        cases q : H b with
        | none => exact un.keep b o e q (by intro z; exact absurd (show b ∈ ([] : List Addr) from z) (by simp)) (by simp)
        | some u =>
          rcases kinds b u q with ⟨m, _⟩ | ⟨rfl, _, rfl⟩
          · exact absurd m nb
          · obtain ⟨e2, _⟩ := hok' b _ (un.frzs b _ _ q)
            rw [ha] at e; cases e
            exact e2
      have grown : ∀ p ∈ cs, ∃ more : Array Value, s'.heap.get? p.2 = some { cls := .none, data := .fields more } := fun p hp => by
        obtain ⟨more, z⟩ := un.tbls p.2 #[] (hTab _ (inT p hp))
        exact ⟨_, hok' p.2 _ z⟩
      refine ⟨rfl, ⟨fun b o e => ?_, fun b o e => ?_⟩, os, bare⟩
      · by_cases m : b ∈ cs.map (·.2)
        · obtain ⟨p, hp, rfl⟩ := List.mem_map.mp m
          obtain ⟨more, hm⟩ := grown p hp
          rw [hT p hp] at e; cases e
          exact .inr (.inl ⟨((C p hp).tab (hT p hp)).isCodeTable, rfl, #[], more, rfl, by rw [Array.empty_append]; exact hm⟩)
        · exact .inl (old b o m e)
      · by_cases m : b ∈ cs.map (·.2)
        · obtain ⟨p, hp, rfl⟩ := List.mem_map.mp m
          obtain ⟨more, hm⟩ := grown p hp
          exact ⟨_, hm⟩
        · exact ⟨o, old b o m e⟩
end L2
/-! the walk to the end of such a law -/
namespace L2
open PySem PySem.Spec PyProof.Rows LamX
/-- what is known of the law's promise; xs: the defs that make lambdas -/
def LawAtT (l : PySem.W.OpenLaw) (w : World) (K : PySem.W.Frag) (CX : CXT) (k n : Nat) (x : Str) (xs : List Str) (mg : Str → Option Value) (fa : Addr) : Prop :=
  ∃ (fd : FuncData) (cs : List (Addr × Addr)) (sp : Sp), (∀ p ∈ cs, ∃ y ∈ xs, PySem.W.tabIn K y = some p) ∧ (∀ p ∈ cs, K.lookup p.2 = none) ∧ (∀ (s : Shared) (u : Value), BindsTo s fd ⟨[u], []⟩ [(x, u)]) ∧
    (∀ (H : Hp) (a : Addr) (ns : List Int), ns.length ≤ n → (∀ p ∈ cs, H p.2 = some (.tbl #[])) → (∀ b qs, H b = some (.tbl qs) → b ∈ cs.map (·.2)) → SqL K H a (ns.map V.int) → sp [.ref a] H (fun v _ => v = .bl true) fun _ _ _ => False) ∧
    ∀ base : Heap, K.In base → base.Ns mainGlobals mg → (∀ p ∈ cs, TabB base mg p.1 p.2) → FnOkG l.prog w K mg base CX k fa fd [x] sp
theorem walk_ofTG {l : PySem.W.OpenLaw} {n k : Nat} {q : Program} {loose : List Str} {XP : (Str → Option Value) → Heap → Prop} {YP : World → Heap → Prop} {d : DefRec} {K : Params → PySem.W.Frag} {CX : World → CXT} {x : Str} {xs : List Str}
    (hn : l.most = some n) (hn2 : n ≤ sizeLine) (hdf : d.params.defaults = []) (hr : Room k callerA) (hrec : (xs.all fun y => (recsOf q).any fun e => e.name == y) = true) (hY : ∀ (w : World) (h : Heap), YP w h → (K w.params).In h)
    (F : ∀ (w : World) (mg : Str → Option Value) (fa : Addr) (h : Heap), (K w.params).In h → h.Ns mainGlobals mg → mg d.name = some (.ref fa) → LawAtT l w (K w.params) (CX w) k n x xs mg fa)
    (hCX : ∀ (w : World) (H : Hp) (s : Shared) (e : Value) (s' : Shared), CX w [] H s (fun _ _ _ => False) e s' → False) :
    PySem.W.WalkO q loose XP YP l.row.toRowW d [] (fun f vs => PySem.call f vs) := by
  refine Att.attach_callB hn hdf fun w s₀ s₁ mg mb fa o pm cd doc a vs ns G Y ho hd hcd hmg hobj hints hlen hbits hg => ?_
  have KX := hY w _ Y
  obtain ⟨fd, cs, sp, hcs, nT, hb, hsp, hF⟩ := F w mg fa _ KX G.T.g hmg
  have tabs : ∀ p ∈ cs, PySem.W.CodeHd s₁.heap p.1 p.2 ∧ s₁.heap.get? p.2 = some { cls := .none, data := .fields #[] } := fun p hp => by
    obtain ⟨y, hy, ht⟩ := hcs p hp
    obtain ⟨dL, hm, he⟩ := List.any_eq_true.mp (List.all_eq_true.mp hrec y hy)
    obtain ⟨dF, hF⟩ : ∃ dF, (recsOf q).find? (fun e => e.name == y) = some dF := Option.isSome_iff_exists.mp (List.find?_isSome.mpr ⟨dL, hm, he⟩)
    exact PySem.W.tab_of G.T KX hF ht
  exact law_callTG KX G.T.g G.T.b G.T.builtins G.T.nolimit hg (fun p hp => (tabs p hp).2) nT (fun p hp => (tabs p hp).1) G.T.bmain hobj hints (Nat.le_trans hlen hn2) hr hF hb (fun H hH hN hS => hsp H a ns hlen hH hN hS) fun H e s' => hCX w H s₁ e s'
end L2
/-! values of any kind, as data -/
namespace Fp
open PySem PySem.Spec PyProof.Rows L2 LamX
mutual
inductive DA (H : Hp) : V → PyData → Prop where
  | non : DA H .non .none
  | bl (b : Bool) : DA H (.bl b) (.bool b)
  | int (i : Int) : DA H (.int i) (.int i)
  | str (z : Str) : DA H (.str z) (.str z)
  | tup {a : Addr} {xs : List V} {ds : List PyData} : H a = some (.tup xs) → DAs H xs ds → DA H (.ref a) (.tuple ds)
  | lst {a : Addr} {xs : List V} {ds : List PyData} : H a = some (.lst xs) → DAs H xs ds → DA H (.ref a) (.list ds)
  | dct {a : Addr} : H a = some (.dK []) → DA H (.ref a) (.dict [])
inductive DAs (H : Hp) : List V → List PyData → Prop where
  | nil : DAs H [] []
  | cons {v vs d ds} : DA H v d → DAs H vs ds → DAs H (v :: vs) (d :: ds)
end
/-- what is no table stays -/
theorem ExtN.at_ {H H' : Hp} (g : ExtN H H') {a : Addr} {o : HO} (h : H a = some o) (n : ∀ ps, o ≠ .tbl ps) : H' a = some o := g a o h n
mutual
theorem DA.ext {H H' : Hp} (g : ExtN H H') : ∀ {v : V} {d : PyData}, DA H v d → DA H' v d
  | _, _, .non => .non
  | _, _, .bl b => .bl b
  | _, _, .int i => .int i
  | _, _, .str z => .str z
  | _, _, .tup h t => .tup (g _ _ h fun _ z => by cases z) (DAs.ext g t)
  | _, _, .lst h t => .lst (g _ _ h fun _ z => by cases z) (DAs.ext g t)
  | _, _, .dct h => .dct (g _ _ h fun _ z => by cases z)
theorem DAs.ext {H H' : Hp} (g : ExtN H H') : ∀ {vs : List V} {ds : List PyData}, DAs H vs ds → DAs H' vs ds
  | _, _, .nil => .nil
  | _, _, .cons h t => .cons (DA.ext g h) (DAs.ext g t)
end
mutual
theorem DA.dp {K : PySem.W.Frag} {H : Hp} : ∀ {v : V} {d : PyData}, DA H v d → d.hasDict = false → Dp K H v d
  | _, _, .non, _ => .non
  | _, _, .bl b, _ => .bl b
  | _, _, .int i, _ => .int i
  | _, _, .str z, _ => .str z
  | _, _, .tup h t, e => .tup (.of h) (DAs.dp t (by simpa [PyData.hasDict] using e))
  | _, _, .lst h t, e => .lst (.of h) (DAs.dp t (by simpa [PyData.hasDict] using e))
  | _, _, .dct h, e => by simp [PyData.hasDict] at e
theorem DAs.dp {K : PySem.W.Frag} {H : Hp} : ∀ {vs : List V} {ds : List PyData}, DAs H vs ds → PyData.hasDictAll ds = false → DpAll K H vs ds
  | _, _, .nil, _ => .nil
  | _, _, .cons h t, e => by
    simp only [PyData.hasDictAll, Bool.or_eq_false_iff] at e
    exact .cons (DA.dp h e.1) (DAs.dp t e.2)
end
theorem DAs.len {H : Hp} : ∀ {vs : List V} {ds : List PyData}, DAs H vs ds → vs.length = ds.length
  | _, _, .nil => rfl
  | _, _, .cons _ t => congrArg (· + 1) (DAs.len t)
theorem DAs.at_ {H : Hp} {v : V} : ∀ {i : Nat} {vs : List V} {ds : List PyData}, DAs H vs ds → vs[i]? = some v → ∃ d, ds[i]? = some d ∧ DA H v d
  | 0, _, _, .cons h t, e => by cases e; exact ⟨_, rfl, h⟩
  | i + 1, _, _, .cons h t, e => DAs.at_ (i := i) t e
  | _, _, _, .nil, e => by simp at e
/-- of which built-in type -/
def tyN : PyData → String
  | .none => "NoneType" | .bool _ => "bool" | .int _ => "int" | .str _ => "str" | .tuple _ => "tuple" | .list _ => "list" | .dict _ => "dict"
theorem DA.ty {K : PySem.W.Frag} {H : Hp} {v : V} {d : PyData} (h : DA H v d) : TyX K H v (.type (tyN d)) := by
  cases h with
  | non => exact .base .non
  | bl b => exact .base (.bl b)
  | int i => exact .base (.int i)
  | str z => exact .base (.str z)
  | tup h t => exact .base (.tup h)
  | lst h t => exact .base (.lst h)
  | dct h => exact .base (.dK h)
theorem kit_tuple {K : PySem.W.Frag} (d : PyData) : PySem.W.kitOne K (.type (tyN d)) (.type "tuple") = some (match d with | .tuple _ => true | _ => false) := by
  cases d <;> first | rfl | decide +kernel | kernel_rfl
theorem kit_int {K : PySem.W.Frag} (d : PyData) : PySem.W.kitOne K (.type (tyN d)) (.type "int") = some (match d with | .int _ => true | .bool _ => true | _ => false) := by
  cases d <;> first | rfl | decide +kernel | kernel_rfl
theorem kit_bool {K : PySem.W.Frag} (d : PyData) : PySem.W.kitOne K (.type (tyN d)) (.type "bool") = some (match d with | .bool _ => true | _ => false) := by
  cases d <;> first | rfl | decide +kernel | kernel_rfl
/-- repr of any such data: without dicts, or an empty dict itself -/
def ShowOk (d : PyData) : Prop := (∃ k n, Sm k n d ∧ k ≤ 64 ∧ n ≤ 1000000) ∨ d = .dict []
section
variable {X : Cx}
theorem call_reprX {K : PySem.W.Frag} (hgu : X.A.guards = some []) (hu : X.A.units + 66 < cLine) (e : X.K = K := by rfl) : CallR X (.builtin "repr") (fun xs H Q => ∃ (x : V) (d : PyData), xs = [x] ∧ DA H x d ∧ ShowOk d ∧ Q (.str d.shown) H) := by
  subst e
  intro pins s σ H xs us Q I r h
  obtain ⟨x, d, rfl, hd, ok, q⟩ := h
  rcases ok with ⟨k, n, sm, hk, hn⟩ | rfl
  · exact call_reprA hgu hu pins s σ H _ us Q I r ⟨x, d, k, n, rfl, hd.dp (PyData.hasDict_of_canLay _ sm.lay), sm, hk, hn, q⟩
  · cases hd with
    | @dct a ha =>
      obtain ⟨u, rfl, rx⟩ := vals1 r
      cases rx
      obtain ⟨_, ns, vs, rv, o, es, ep, ho, hx, hd, hks, hps, _⟩ := (show ObjOk X.prog X.w H s.heap a (.dK []) from I.hok a _ ha)
      cases rv
      have he : es.toList = [] := by cases he : es.toList with
        | nil => rfl
        | cons x xs => rw [he] at hps; cases hps
      have rd : Reads s.heap (.ref a) (.dict []) (a :: [] ++ []) := by
        refine .dict ho hx.1 hd ?_ ?_ <;> (rw [he]; exact .nil)
      exact repr_of_reads' rd (by decide +kernel) (fun _ m => by
        have e : sysModules = a := by simpa using m
        rw [← e] at ns; simp at ns) hgu (by show _ + 2 < _; omega) (fun _ _ z => z) (fun h' u tk k => ⟨.str (PyData.dict []).shown, H, I.kept (t' := tk) k, ⟨_, rfl⟩, q⟩) (by decide +kernel)
end
/-! ### small values -/
def smallD : Nat → PyData → Bool
  | 0, .tuple _ => false
  | n + 1, .tuple ds => decide (ds.length ≤ 60) && ds.all (smallD n)
  | _, .none => true
  | _, .int i => decide (-9999 ≤ i) && decide (i ≤ 9999)
  | _, _ => false
def isInt : PyData → Bool
  | .int _ => true
  | _ => false
def spWholeD : Sp := fun vs H Q _ => ∃ v d, vs = [v] ∧ DA H v d ∧ Q (.bl (isInt d)) H
def spBelowD : Sp := fun vs H Q _ => ∃ (v : V) (d : PyData) (n : Int), vs = [v, .int n] ∧ DA H v d ∧ Q (.bl (match d with | .int i => decide (0 ≤ i ∧ i < n) | _ => false)) H
def spSmD (n : Nat) : Sp := fun vs H Q _ => ∃ (v : V) (d : PyData) (deep : Nat), vs = [v, .int deep] ∧ DA H v d ∧ deep < n ∧ ∀ H', Same H H' → Q (.bl (smallD deep d)) H'
def spSmallD : Sp := fun vs H Q _ => ∃ (v : V) (d : PyData), vs = [v] ∧ DA H v d ∧ ∀ H', Same H H' → Q (.bl (smallD 12 d)) H'
end Fp
/-! values that can be shown: without dicts (b = true) or without lists (b = false); N: the addresses that may change -/
namespace Fp
open PySem PySem.Spec PyProof.Rows L2
mutual
inductive SA (b : Bool) (N : Addr → Prop) (H : Hp) : Nat → Nat → V → PyData → Prop where
  | non {k n} : SA b N H k n .non .none
  | bl {k n} (c : Bool) : SA b N H k n (.bl c) (.bool c)
  | int {k n} (i : Int) : -200000000 ≤ i → i ≤ 200000000 → SA b N H k n (.int i) (.int i)
  | str {k n} (z : Str) : z.cps.size ≤ n → (z.cps.toList.all fun c => decide (c < 16 ^ 8)) = true → SA b N H k n (.str z) (.str z)
  | tup {k n} {a : Addr} {xs : List V} {ds : List PyData} : H a = some (.tup xs) → SAs b N H k n xs ds → ds.length ≤ 1000 → SA b N H (k + 1) n (.ref a) (.tuple ds)
  | lst {k n} {a : Addr} {xs : List V} {ds : List PyData} : b = true → ¬ N a → H a = some (.lst xs) → SAs b N H k n xs ds → SA b N H (k + 1) n (.ref a) (.list ds)
  | dct0 {k n} {a : Addr} : b = false → ¬ N a → H a = some (.dK []) → SA b N H (k + 1) n (.ref a) (.dict [])
  | dct1 {k n} {a : Addr} (z : Str) (i : Int) : b = false → ¬ N a → H a = some (.dK [(.inr z, .int i)]) → -9999 ≤ i → i ≤ 9999 → z.cps.size + 2 ≤ n → (z.cps.toList.all fun c => decide (c < 16 ^ 8)) = true → SA b N H (k + 1) n (.ref a) (.dict [(.str z, .int i)])
inductive SAs (b : Bool) (N : Addr → Prop) (H : Hp) : Nat → Nat → List V → List PyData → Prop where
  | nil {k n} : SAs b N H k n [] []
  | cons {k m n q v vs d ds} : SA b N H k m v d → SAs b N H k n vs ds → m + 1 + n ≤ q → SAs b N H k q (v :: vs) (d :: ds)
end
section
variable {b : Bool} {N N' : Addr → Prop} {H H' : Hp}
mutual
theorem SA.mono {k n k' n' : Nat} (hk : k ≤ k') (hn : n ≤ n') : ∀ {v : V} {d : PyData}, SA b N H k n v d → SA b N H k' n' v d
  | _, _, .non => .non
  | _, _, .bl c => .bl c
  | _, _, .int i h g => .int i h g
  | _, _, .str z h g => .str z (Nat.le_trans h hn) g
  | _, _, .tup (k := q) h t l => by
    obtain ⟨k2, rfl⟩ : ∃ k2, k' = k2 + 1 := ⟨k' - 1, by omega⟩
    exact .tup h (SAs.mono (by omega) hn t) l
  | _, _, .lst (k := q) e a h t => by
    obtain ⟨k2, rfl⟩ : ∃ k2, k' = k2 + 1 := ⟨k' - 1, by omega⟩
    exact .lst e a h (SAs.mono (by omega) hn t)
  | _, _, .dct0 (k := q) e a h => by
    obtain ⟨k2, rfl⟩ : ∃ k2, k' = k2 + 1 := ⟨k' - 1, by omega⟩
    exact .dct0 e a h
  | _, _, .dct1 (k := q) z i e a h h1 h2 h3 h4 => by
    obtain ⟨k2, rfl⟩ : ∃ k2, k' = k2 + 1 := ⟨k' - 1, by omega⟩
    exact .dct1 z i e a h h1 h2 (by omega) h4
theorem SAs.mono {k n k' n' : Nat} (hk : k ≤ k') (hn : n ≤ n') : ∀ {vs : List V} {ds : List PyData}, SAs b N H k n vs ds → SAs b N H k' n' vs ds
  | _, _, .nil => .nil
  | _, _, .cons h t l => .cons (SA.mono hk (Nat.le_refl _) h) (SAs.mono hk (Nat.le_refl _) t) (by omega)
end
mutual
theorem SA.step (g : ∀ a o, ¬ N a → H a = some o → H' a = some o ∧ ¬ N' a) (gt : ∀ {a xs}, H a = some (.tup xs) → H' a = some (.tup xs)) : ∀ {k n : Nat} {v : V} {d : PyData}, SA b N H k n v d → SA b N' H' k n v d
  | _, _, _, _, .non => .non
  | _, _, _, _, .bl c => .bl c
  | _, _, _, _, .int i h h2 => .int i h h2
  | _, _, _, _, .str z h h2 => .str z h h2
  | _, _, _, _, .tup h t l => .tup (gt h) (SAs.step g gt t) l
  | _, _, _, _, .lst e a h t => .lst e (g _ _ a h).2 (g _ _ a h).1 (SAs.step g gt t)
  | _, _, _, _, .dct0 e a h => .dct0 e (g _ _ a h).2 (g _ _ a h).1
  | _, _, _, _, .dct1 z i e a h h1 h2 h3 h4 => .dct1 z i e (g _ _ a h).2 (g _ _ a h).1 h1 h2 h3 h4
theorem SAs.step (g : ∀ a o, ¬ N a → H a = some o → H' a = some o ∧ ¬ N' a) (gt : ∀ {a xs}, H a = some (.tup xs) → H' a = some (.tup xs)) : ∀ {k n : Nat} {vs : List V} {ds : List PyData}, SAs b N H k n vs ds → SAs b N' H' k n vs ds
  | _, _, _, _, .nil => .nil
  | _, _, _, _, .cons h t l => .cons (SA.step g gt h) (SAs.step g gt t) l
end
theorem SA.same {k n : Nat} {v : V} {d : PyData} (g : Same H H') (h : SA b N H k n v d) : SA b N H' k n v d := h.step (fun a o na q => ⟨g a o q, na⟩) fun q => g _ _ q
theorem SAs.same {k n : Nat} {v : List V} {d : List PyData} (g : Same H H') (h : SAs b N H k n v d) : SAs b N H' k n v d := h.step (fun a o na q => ⟨g a o q, na⟩) fun q => g _ _ q
theorem SA.but {S : List Addr} {k n : Nat} {v : V} {d : PyData} (g : But S H H') (hS : ∀ a ∈ S, N a) (kp : DKp H H') (h : SA b N H k n v d) : SA b N H' k n v d := h.step (fun a o na q => ⟨g a o (fun m => na (hS a m)) q, na⟩) kp.t
theorem SAs.but {S : List Addr} {k n : Nat} {v : List V} {d : List PyData} (g : But S H H') (hS : ∀ a ∈ S, N a) (kp : DKp H H') (h : SAs b N H k n v d) : SAs b N H' k n v d := h.step (fun a o na q => ⟨g a o (fun m => na (hS a m)) q, na⟩) kp.t
mutual
/-- the look of a value that need not be shown -/
def dtO : PyData → Dt
  | .none => .non
  | .bool c => .bl c
  | .int i => .int i
  | .str _ => .oth
  | .list _ => .oth
  | .dict _ => .oth
  | .tuple ds => .tup (dtOs ds)
def dtOs : List PyData → List Dt
  | [] => []
  | d :: ds => dtO d :: dtOs ds
end
theorem dtOs_map : ∀ ds : List PyData, dtOs ds = ds.map dtO
  | [] => by simp [dtOs]
  | d :: ds => by rw [dtOs, List.map_cons, dtOs_map ds]
theorem dtOs_len (ds : List PyData) : (dtOs ds).length = ds.length := by rw [dtOs_map, List.length_map]
mutual
theorem SA.dv : ∀ {k n : Nat} {v : V} {d : PyData}, SA b N H k n v d → DV H v (dtO d)
  | _, _, _, _, .non => by rw [dtO]; exact .non
  | _, _, _, _, .bl c => by rw [dtO]; exact .bl c
  | _, _, _, _, .int i _ _ => by rw [dtO]; exact .int i
  | _, _, _, _, .str z _ _ => by rw [dtO]; exact .str z
  | _, _, _, _, .tup h t l => by rw [dtO]; exact .tup h (SAs.dv t) (by rw [dtOs_len]; exact l)
  | _, _, _, _, .lst e a h t => by rw [dtO]; exact .lst h
  | _, _, _, _, .dct0 e a h => by rw [dtO]; exact .dct h
  | _, _, _, _, .dct1 z i e a h _ _ _ _ => by rw [dtO]; exact .dct h
theorem SAs.dv : ∀ {k n : Nat} {vs : List V} {ds : List PyData}, SAs b N H k n vs ds → DVs H vs (dtOs ds)
  | _, _, _, _, .nil => by rw [dtOs]; exact .nil
  | _, _, _, _, .cons h t l => by rw [dtOs]; exact .cons (SA.dv h) (SAs.dv t)
end
theorem SAs.len : ∀ {k n : Nat} {vs : List V} {ds : List PyData}, SAs b N H k n vs ds → vs.length = ds.length
  | _, _, _, _, .nil => rfl
  | _, _, _, _, .cons _ t _ => by rw [List.length_cons, List.length_cons, SAs.len t]
theorem SAs.at_ {v : V} : ∀ {i k n : Nat} {vs : List V} {ds : List PyData}, SAs b N H k n vs ds → vs[i]? = some v → ∃ d, ds[i]? = some d ∧ SA b N H k n v d
  | _, _, _, _, _, .nil, e => by simp at e
  | 0, _, _, _, _, .cons h _ l, e => by
    simp at e; subst e
    exact ⟨_, rfl, h.mono (Nat.le_refl _) (by omega)⟩
  | i + 1, _, _, _, _, .cons _ t l, e => by
    obtain ⟨d, h1, h2⟩ := SAs.at_ t (by simpa using e)
    exact ⟨d, by simpa using h1, h2.mono (Nat.le_refl _) (by omega)⟩
theorem SAs.app : ∀ {k m n : Nat} {vs ws : List V} {ds es : List PyData}, SAs b N H k m vs ds → SAs b N H k n ws es → SAs b N H k (m + n) (vs ++ ws) (ds ++ es)
  | _, _, _, _, _, _, _, .nil, g => g.mono (Nat.le_refl _) (by omega)
  | _, _, n, _, _, _, _, .cons (n := q) h t l, g => .cons (n := q + n) h (t.app g) (by omega)
theorem SAs.take {i : Nat} : ∀ {k n : Nat} {vs : List V} {ds : List PyData}, SAs b N H k n vs ds → SAs b N H k n (vs.take i) (ds.take i) := by
  induction i with
  | zero => intros; exact .nil
  | succ i ih =>
    intro k n vs ds h
    cases h with
    | nil => exact .nil
    | cons h t l => exact .cons h (ih t) l
theorem SAs.drop {i : Nat} : ∀ {k n : Nat} {vs : List V} {ds : List PyData}, SAs b N H k n vs ds → SAs b N H k n (vs.drop i) (ds.drop i) := by
  induction i with
  | zero => intro k n vs ds h; exact h
  | succ i ih =>
    intro k n vs ds h
    cases h with
    | nil => exact .nil
    | cons h t l => exact (ih t).mono (Nat.le_refl _) (by omega)
theorem SAs.rev : ∀ {k n : Nat} {vs : List V} {ds : List PyData}, SAs b N H k n vs ds → SAs b N H k n vs.reverse ds.reverse
  | _, _, _, _, .nil => .nil
  | _, _, _, _, .cons h t l => by
    rw [List.reverse_cons, List.reverse_cons]
    exact ((SAs.rev t).app (.cons (n := 0) h .nil (Nat.le_refl _))).mono (Nat.le_refl _) (by omega)
end
/-! ### they can be shown -/
theorem sa_int_len {i : Int} (h : -200000000 ≤ i) (g : i ≤ 200000000) : (PyData.int i).shown.length ≤ 13 := PyData.shown_int_le (by omega)
theorem sa_log {i : Int} (h0 : -200000000 ≤ i) (h1 : i ≤ 200000000) : i.natAbs.log2 < 1920 := by
  by_cases h : i.natAbs = 0
  · rw [h]; decide
  · have : i.natAbs.log2 < 28 := (Nat.log2_lt h).mpr (show i.natAbs < 2 ^ 28 by omega)
    omega
structure ShD (k n : Nat) (d : PyData) : Prop where
  sh : d.showable = true
  lv : d.leavesShort 13 = true
  blk : d.bulk ≤ n
  dep : d.depth ≤ k
structure ShDs (k n : Nat) (d : List PyData) : Prop where
  sh : PyData.showableAll d = true
  lv : PyData.leavesShortAll 13 d = true
  blk : PyData.bulkAll d ≤ n
  dep : PyData.depthAll d ≤ k
section
variable {b : Bool} {N N' : Addr → Prop} {H H' : Hp}
mutual
theorem SA.shd : ∀ {k n : Nat} {v : V} {d : PyData}, SA b N H k n v d → ShD k n d
  | _, _, _, _, .non => ⟨by simp [PyData.showable], by simp [PyData.leavesShort], by simp [PyData.bulk], by simp [PyData.depth]⟩
  | _, _, _, _, .bl c => ⟨by simp [PyData.showable], by simp [PyData.leavesShort], by simp [PyData.bulk], by simp [PyData.depth]⟩
  | _, _, _, _, .int i h g => ⟨by simp only [PyData.showable, decide_eq_true_eq]; exact sa_log h g, by simp only [PyData.leavesShort, decide_eq_true_eq]; exact sa_int_len h g, by simp [PyData.bulk], by simp [PyData.depth]⟩
  | _, _, _, _, .str z h g => ⟨by simp [PyData.showable], by simpa only [PyData.leavesShort] using g, by simpa only [PyData.bulk] using h, by simp [PyData.depth]⟩
  | _, _, _, _, .tup h t l => by
    have s := SAs.shd t
    exact ⟨by simpa [PyData.showable] using s.sh, by simpa [PyData.leavesShort] using s.lv, by have := s.blk; simpa only [PyData.bulk] using this, by have := s.dep; simp only [PyData.depth]; omega⟩
  | _, _, _, _, .lst e a h t => by
    have s := SAs.shd t
    exact ⟨by simpa [PyData.showable] using s.sh, by simpa [PyData.leavesShort] using s.lv, by have := s.blk; simpa only [PyData.bulk] using this, by have := s.dep; simp only [PyData.depth]; omega⟩
  | _, _, _, _, .dct0 e a h => ⟨by simp [PyData.showable, PyData.showableKv], by simp [PyData.leavesShort, PyData.leavesShortKv], by simp [PyData.bulk, PyData.bulkKv], by simp [PyData.depth, PyData.depthKv]⟩
  | _, _, _, _, .dct1 z i e a h h1 h2 h3 h4 => by
    refine ⟨?_, ?_, ?_, ?_⟩
    · simp only [PyData.showable, PyData.showableKv, Bool.and_true, Bool.true_and, decide_eq_true_eq]; exact sa_log (by omega) (by omega)
    · simp only [PyData.leavesShort, PyData.leavesShortKv, Bool.and_true, Bool.and_eq_true, decide_eq_true_eq]; exact ⟨h4, sa_int_len (by omega) (by omega)⟩
    · simp only [PyData.bulk, PyData.bulkKv]; omega
    · simp only [PyData.depth, PyData.depthKv]; omega
theorem SAs.shd : ∀ {k n : Nat} {vs : List V} {ds : List PyData}, SAs b N H k n vs ds → ShDs k n ds
  | _, _, _, _, .nil => ⟨by simp [PyData.showableAll], by simp [PyData.leavesShortAll], by simp [PyData.bulkAll], by simp [PyData.depthAll]⟩
  | _, _, _, _, .cons h t l => by
    have s := SA.shd h
    have u := SAs.shd t
    exact ⟨by simp [PyData.showableAll, s.sh, u.sh], by simp [PyData.leavesShortAll, s.lv, u.lv], by have := s.blk; have := u.blk; simp only [PyData.bulkAll]; omega, by have := s.dep; have := u.dep; simp only [PyData.depthAll]; omega⟩
end
end
end Fp
namespace Fp
open PySem PySem.Spec PyProof.Rows L2
section
variable {X : Cx} {pins : List (Addr × Obj)} {σ : L2.St} {H : Hp} {s : Shared} {b : Bool} {N : Addr → Prop}
mutual
theorem SA.reads (I : Inv X pins σ H s) : ∀ {k n : Nat} {v : V} {d : PyData}, SA b N H k n v d → ∀ u, RelV v u → ∃ as, Reads s.heap u d as ∧ (b = false → sysModules ∉ as) ∧ (b = true → d.hasDict = false)
  | _, _, _, _, .non, u, r => by
    cases r
    exact ⟨_, .none, fun _ => by simp, fun _ => by simp [PyData.hasDict]⟩
  | _, _, _, _, .bl c, u, r => by
    cases r
    exact ⟨_, .bool c, fun _ => by simp, fun _ => by simp [PyData.hasDict]⟩
  | _, _, _, _, .int i _ _, u, r => by
    obtain ⟨t, rfl⟩ := r
    exact ⟨_, .int i t, fun _ => by simp, fun _ => by simp [PyData.hasDict]⟩
  | _, _, _, _, .str z _ _, u, r => by
    obtain ⟨t, rfl⟩ := r
    exact ⟨_, .str z t, fun _ => by simp, fun _ => by simp [PyData.hasDict]⟩
  | _, _, _, _, .tup (a := a) (xs := xs) h t _, u, r => by
    cases r
    obtain ⟨its, rv, ⟨o, ho, hc, n, hd⟩, _⟩ := I.tuple (show SqT X.K H a xs from .of h)
    obtain ⟨as, hr, h1, h2⟩ := SAs.reads I t its rv
    exact ⟨_, Reads.tuple ho hc hd hr, h1, fun e => by simp only [PyData.hasDict]; exact h2 e⟩
  | _, _, _, _, .lst (a := a) (xs := xs) e _ h t, u, r => by
    cases r
    obtain ⟨its, rv, ⟨o, n, ho, hc, _, hd⟩, _⟩ := I.list (show SqL X.K H a xs from .of h)
    obtain ⟨as, hr, h1, h2⟩ := SAs.reads I t its rv
    exact ⟨_, Reads.list ho hc hd hr, (fun z => absurd (e.symm.trans z) (by decide) : b = false → _), fun e => by simp only [PyData.hasDict]; exact h2 e⟩
  | _, _, _, _, .dct0 (a := a) e _ h, u, r => by
    cases r
    obtain ⟨_, ns, vs, rv, o, es, ep, ho, hx, hd, hks, hps, _⟩ := (show ObjOk X.prog X.w H s.heap a (.dK []) from I.hok a _ h)
    cases rv
    have he : es.toList = [] := by cases he : es.toList with
      | nil => rfl
      | cons x xs => rw [he] at hps; cases hps
    refine ⟨a :: [] ++ [], .dict ho hx.1 hd ?_ ?_, fun _ m => ?_, (fun z => absurd (e.symm.trans z) (by decide) : b = true → _)⟩
    · rw [he]; exact .nil
    · rw [he]; exact .nil
    · have e : sysModules = a := by simpa using m
      rw [← e] at ns; simp at ns
  | _, _, _, _, .dct1 (a := a) z i e _ h _ _ _ _, u, r => by
    cases r
    obtain ⟨_, ns, vs, rv, o, es, ep, ho, hx, hd, hks, hps, _⟩ := (show ObjOk X.prog X.w H s.heap a (.dK [(.inr z, .int i)]) from I.hok a _ h)
    cases rv with
    | cons q r =>
      cases r
      obtain ⟨q1, q2⟩ := q
      obtain ⟨t, q2⟩ := q2
      cases he : es.toList with
      | nil => rw [he] at hps; cases hps
      | cons x xs =>
        rw [he] at hps
        cases hps with
        | cons h1 h2 h3 =>
          cases h3
          rw [← q1] at h1
          obtain ⟨t2, h1⟩ := Value.isStrOf_shape (show Value.isStrOf z x.key = true from h1)
          refine ⟨a :: ([] ++ []) ++ ([] ++ []), .dict ho hx.1 hd ?_ ?_, fun _ m => ?_, (fun z => absurd (e.symm.trans z) (by decide) : b = true → _)⟩
          · rw [he]
            show ReadsAll s.heap [x.key] [.str z] _
            rw [h1]
            exact .cons (.str z t2) .nil
          · rw [he]
            show ReadsAll s.heap [x.val] [.int i] _
            rw [h2, q2]
            exact .cons (.int i t) .nil
          · have e : sysModules = a := by simpa using m
            rw [← e] at ns; simp at ns
theorem SAs.reads (I : Inv X pins σ H s) : ∀ {k n : Nat} {vs : List V} {ds : List PyData}, SAs b N H k n vs ds → ∀ us, Vals vs us → ∃ as, ReadsAll s.heap us ds as ∧ (b = false → sysModules ∉ as) ∧ (b = true → PyData.hasDictAll ds = false)
  | _, _, _, _, .nil, us, r => by
    cases r
    exact ⟨_, .nil, fun _ => by simp, fun _ => by simp [PyData.hasDictAll]⟩
  | _, _, _, _, .cons h t _, us, r => by
    cases r with
    | cons r1 r2 =>
      obtain ⟨as, a1, a2, a3⟩ := SA.reads I h _ r1
      obtain ⟨bs, b1, b2, b3⟩ := SAs.reads I t _ r2
      refine ⟨_, .cons a1 b1, fun z m => ?_, fun z => by simp only [PyData.hasDictAll, a3 z, b3 z, Bool.or_false]⟩
      rcases List.mem_append.mp m with m | m
      · exact a2 z m
      · exact b2 z m
end
end
/-- repr of such a value -/
def rReprS (N : Addr → Prop) : List V → Hp → VK → Prop := fun xs H Q => ∃ (b : Bool) (x : V) (d : PyData) (k n : Nat), xs = [x] ∧ SA b N H k n x d ∧ k ≤ 64 ∧ n ≤ 1000000 ∧ Q (.str d.shown) H
theorem call_reprS {X : Cx} {N : Addr → Prop} (hgu : X.A.guards = some []) (hu : X.A.units + 66 < cLine) : CallR X (.builtin "repr") (rReprS N) := by
  intro pins s σ H xs us Q I r h
  obtain ⟨b, x, d, k, n, rfl, hd, hk, hn, q⟩ := h
  obtain ⟨u, rfl, rx⟩ := vals1 r
  obtain ⟨as, rd, n1, n2⟩ := SA.reads I hd u rx
  have S := hd.shd
  have sm : d.hasDict = true → sysModules ∉ as := fun z => by
    cases b with
    | false => exact n1 rfl
    | true => rw [n2 rfl] at z; cases z
  have hz : d.shown.length ≤ sizeLine := PyData.shown_fits_bulk (B := 13) (by decide) (by decide) S.lv (Nat.le_trans S.blk (Nat.le_trans hn (by decide)))
  have hu2 : X.A.units + (d.depth + 1) < cLine := by have := S.dep; omega
  have hQ : ∀ h' u tk, (∀ b o, s.heap.get? b = some o → h'.get? b = some o) → EP X pins σ Q (.str d.shown u) { s with heap := h', toks := tk } := fun h' u tk k => ⟨.str d.shown, H, I.kept (t' := tk) k, ⟨_, rfl⟩, q⟩
  have hs := S.sh
  cases rd with
  | none => exact PySem.P.repr_of_none (hQ _ _ _ fun _ _ e => e)
  | bool b => exact PySem.P.repr_of_bool (hQ _ _ _ fun _ _ e => e)
  | int i t => exact PySem.P.repr_of_int (by simpa only [PyData.showable, decide_eq_true_eq] using hs) (by simpa only [PyData.shown] using hQ _ _ _ fun _ _ e => e)
  | str x t => exact PySem.P.repr_of_str (by simpa only [PyData.shown] using hQ _ _ _ fun _ _ e => e) (by simpa only [PyData.shown] using hz)
  | list a b c e => exact repr_of_reads' (.list a b c e) hs sm hgu hu2 (fun _ _ z => z) hQ hz
  | tuple a b c e => exact repr_of_reads' (.tuple a b c e) hs sm hgu hu2 (fun _ _ z => z) hQ hz
  | dict a b c e f => exact repr_of_reads' (.dict a b c e f) hs sm hgu hu2 (fun _ _ z => z) hQ hz
end Fp
/-! a def with lambdas, refused: what is wanted at the law's def itself -/
namespace L2
open PySem PySem.Spec PyProof.Rows LamX
/-- all stays but tables and what is pinned -/
def Kp (H H' : Hp) : Prop := ∀ b o, H b = some o → (∀ ps, o ≠ .tbl ps) → (∀ φ, o ≠ .ext φ) → H' b = some o
theorem Kp.of {H H' : Hp} (g : ExtN H H') : Kp H H' := fun b o q n _ => g b o q n
theorem Kp.trans {H H1 H2 : Hp} (a : Kp H H1) (b : Kp H1 H2) : Kp H H2 := fun c o h n m => b c o (a c o h n m) n m
end L2
namespace Fp
open PySem PySem.Spec PyProof.Rows L2 LamX
theorem kp_same {H H' : Hp} (g : Same H H') : Kp H H' := fun b o q _ _ => g b o q
theorem extN_same {H H' : Hp} (g : Same H H') : ExtN H H' := fun b o q _ => g b o q
theorem Kp.tk {H H' : Hp} (g : Kp H H') : TK H H' := fun a h => by
  cases e : H a with
  | none => rw [e] at h; exact h.elim
  | some o =>
    rw [e] at h
    refine g a o e (fun ps z => ?_) (fun φ z => ?_) <;> (subst z; exact h)
mutual
theorem DA.kp {H H' : Hp} (g : Kp H H') : ∀ {v : V} {d : PyData}, DA H v d → DA H' v d
  | _, _, .non => .non
  | _, _, .bl b => .bl b
  | _, _, .int i => .int i
  | _, _, .str z => .str z
  | _, _, .tup h t => .tup (g _ _ h (fun _ z => by cases z) (fun _ z => by cases z)) (DAs.kp g t)
  | _, _, .lst h t => .lst (g _ _ h (fun _ z => by cases z) (fun _ z => by cases z)) (DAs.kp g t)
  | _, _, .dct h => .dct (g _ _ h (fun _ z => by cases z) (fun _ z => by cases z))
theorem DAs.kp {H H' : Hp} (g : Kp H H') : ∀ {vs : List V} {ds : List PyData}, DAs H vs ds → DAs H' vs ds
  | _, _, .nil => .nil
  | _, _, .cons h t => .cons (DA.kp g h) (DAs.kp g t)
end
theorem DoorAt.kp {C : Addr} {H H' : Hp} {d : Addr} {s : DS} (h : DoorAt C H d s) (g : Kp H H') : DoorAt C H' d s := by
  obtain ⟨dx, a, b, c, e, f, cv, hv, sv, dv, h⟩ := h
  exact ⟨dx, a, b, c, e, f, cv, hv, sv, dv, h.mono (Kp.tk g) (fun o q => by rw [h.obj] at q; cases q; exact g _ _ h.obj (fun _ z => by cases z) (fun _ z => by cases z)) (by rw [g _ _ h.own (fun _ z => by cases z) (fun _ z => by cases z)]; exact h.own.symm)⟩
theorem OwnAt.kp {H H' : Hp} {o : Addr} {L : List Addr} {s : DS} {k : Int} (h : OwnAt H o L s k) (g : Kp H H') : OwnAt H' o L s k := by
  obtain ⟨l1, l2, l3, l4, l5, cv, hv, rfl, h⟩ := h
  have l : ∀ {a : Addr} {xs : List V}, H a = some (.lst xs) → H' a = some (.lst xs) := fun q => g _ _ q (fun _ z => by cases z) (fun _ z => by cases z)
  have tk := Kp.tk g
  exact ⟨l1, l2, l3, l4, l5, cv, hv, rfl, g _ _ h.dict (fun _ z => by cases z) (fun _ z => by cases z), l h.came, pr_imp (fun _ _ => One.mono tk) h.cameP, l h.lev, l h.stg, l h.won, l h.heard, pr_imp (fun _ _ => One.mono tk) h.heardP, h.nd⟩
theorem PotAt.kp {H H' : Hp} {p : Addr} {m : Nat} (h : PotAt H p m) (g : Kp H H') : PotAt H' p m := by
  obtain ⟨a, b, c, h1, h2⟩ := h
  exact ⟨a, b, c, g _ _ h1 (fun _ z => by cases z) (fun _ z => by cases z), h2⟩
/-- a class whose making may raise -/
structure MkX (P : Program) (w : World) (K : PySem.W.Frag) (mg : Str → Option Value) (base : Heap) (x : Str) (C : Addr) (k : Nat) (ps : List Str) (sp : Sp) : Prop where
  at_ : mg x = some (.ref C)
  ex : ∃ (f : Addr) (fd : FuncData), Mk K C f ∧ Binds K fd ps [] ∧ FnOk P w K mg base (L2.CX P w) k f fd ps sp
section
variable {X : Cx} {x : Str} {k : Nat} {ps : List Str} {sp : Sp} {C : Addr} {e : Expr} {es : List Expr} {t : TA} {p pos : Pos} {E : XK}
theorem pe_mkE (tk : Takes X (fun cls d _ H => E cls d H)) (M : MkX X.prog X.w X.K X.mg X.base x C k ps sp) (hr : Room (k + 1) X.A) (hg : Gl X x) (ha : PA X (e :: es) t) (hdb : (x == ("__debug__" : Str)) = false := by decide)
    (he : starEach (e :: es) X.env = (false, eval e X.env) :: starEach es X.env := by rfl) (hpl : (backTo pos (starEach es X.env)).any (·.1) = false := by rfl) : PE X (.Call (.Name x p) (e :: es) [] pos) (tMake C sp [] E t) := by
  obtain ⟨f, fd, h1, h2, h3⟩ := M.ex
  exact pe_make h1 h3 hr hg M.at_ h2 .nil (pass_of tk) ha hdb he hpl
end
section
variable {P : Program} {w : World} {K : PySem.W.Frag} {mg : Str → Option Value} {base : Heap}
/-- as fun_okG, where the def's code is known -/
theorem fun_okT {x qual : Str} {st : Stmt} {f c PT : Addr} {fd : FuncData} {N ps : List Str} {k : Nat} {sp : Sp} (F : Fun K x qual st f fd) (hns : PySem.W.nsIn K mainGlobals x = some (some (.ref f))) (hT : PySem.W.tabIn K x = some (c, PT)) (S : FnScope N ps (defScope st)) (len : ∀ vs H Q E, sp vs H Q E → vs.length = ps.length)
    (hbody : ∀ (A : Around) (outer : List Env) (s : Shared) (H : Hp) (vs : List V) (Q : VK) (E : XK), Room k (A.deeper (envOfC qual (defScope st) s.heap.objs.size f (.ref c))) → (A.deeper (envOfC qual (defScope st) s.heap.objs.size f (.ref c))).guards = some [] → sp vs H Q E →
      ∃ t, PSs (cxOf CX0 P w K mg base N qual (defScope st) f (.ref c) A outer s H E).nox (defBody st) t ∧ t { nx := fun _ H' => Q .non H', rt := Q } (start N vs) H) : FnOkG P w K mg base CX0 (k + 1) f fd ps sp := by
  obtain ⟨oc, od, kV, doc, pm, an, cdv, ct, osl, rfl, lk, hcd⟩ := F.ex
  have e : cdv = .ref c := by
    unfold PySem.W.tabIn at hT
    rw [hns] at hT
    dsimp only at hT
    rw [lk] at hT
    dsimp only at hT
    cases cdv <;> first | (cases hT; done) | skip
    rename_i c'
    have hT : (match K.lookup c' with
        | some ⟨_, _, .fields vs, _⟩ => (match (vs[11]? : Option Value) with
          | some (.ref P) => some (c', P)
          | _ => none)
        | _ => none) = some (c, PT) := hT
    split at hT
    · split at hT
      · cases hT; rfl
      · cases hT
    · cases hT
  subst e
  refine fn_ofG lk hcd S len fun A outer s H vs Q E hr hg hsp => ?_
  obtain ⟨t, h, q⟩ := hbody A outer s H vs Q E hr hg hsp
  exact ⟨t, h.nox, q⟩
end
end Fp
/-! calls of lambdas that raise, caught; what is common to laws that do so -/
namespace Fp
open PySem PySem.Spec PyProof.Rows L2 LamX
/-- what a call without arguments does: it raises, so -/
def Raises (sp : Hp → VK → XK → Prop) (H : Hp) (R : XK) : Prop := ∀ Q E, (∀ cls d G, R cls d G → E cls d G) → sp H Q E
theorem takes_no {X : Cx} : Takes X (fun _ _ _ _ => False) := fun u s' ⟨_, _, _, _, _, _, _, _, _, _, _, _, _, _, _, _, w⟩ => w.elim
/-- what a lambda's body reads -/
def LamR (X : Cx) (scope : Scope) (body : Expr) (t : XK → TE) : Prop := ∀ (A : Around) (outer : List Env) (s : Shared) (H : Hp) (E : XK) (f c' : Addr), Room 16 (A.deeper (lamEnv X scope s.heap.objs.size f c')) → PE (lamCx X A outer s H E scope f c') body (t E)
def LamB (params : Arguments) (body : Expr) (scope : Scope) : Prop := ∀ (q : Str) (cl : List (Str × Addr)) (pm cv ctv : Value), bindArgs (PySem.W.kla_fn "<lambda>" q params body scope cl pm cv ctv) ⟨[], []⟩ = pure []
theorem lamB0 {body : Expr} {scope : Scope} : LamB { posonlyargs := [], args := [], vararg := none, kwonlyargs := [], kw_defaults := [], kwarg := none, defaults := [] } body scope := fun q cl pm cv ctv => rfl
/-! ### the heap, tables apart -/
def ButN (S : List Addr) (H H' : Hp) : Prop := ∀ b o, b ∉ S → H b = some o → (∀ ps, o ≠ .tbl ps) → H' b = some o
theorem ButN.of {S : List Addr} {H H' : Hp} (g : But S H H') : ButN S H H' := fun b o n q _ => g b o n q
theorem ButN.ext {S : List Addr} {H H' : Hp} (g : ExtN H H') : ButN S H H' := fun b o _ q t => g b o q t
theorem ButN.trans {S : List Addr} {H H1 H2 : Hp} (a : ButN S H H1) (b : ButN S H1 H2) : ButN S H H2 := fun c o n q t => b c o n (a c o n q t) t
theorem Tabs.but {T : List (Addr × Str)} {S : List Addr} {H H' : Hp} (t : Tabs T H) (g : But S H H') (n : ∀ x ∈ S, ∀ o, H x = some o → (∀ ps, o ≠ .tbl ps) ∧ ∀ φ, o ≠ .ext φ) : Tabs T H' := fun p hp => by
  obtain ⟨ps, h1, h2, h3⟩ := t p hp
  have out : ∀ {b : Addr} {o : HO}, H b = some o → ((∃ ps, o = .tbl ps) ∨ ∃ φ, o = .ext φ) → H' b = some o := fun {b o} q k => g b o (fun m => by
    obtain ⟨n1, n2⟩ := n b m o q
    rcases k with ⟨ps, z⟩ | ⟨φ, z⟩
    · exact n1 _ z
    · exact n2 _ z) q
  refine ⟨ps, out h1 (.inl ⟨_, rfl⟩), h2, fun pos cv hc => ?_⟩
  obtain ⟨c, e1, e2⟩ := h3 pos cv hc
  exact ⟨c, e1, out e2 (.inr ⟨_, rfl⟩)⟩
theorem Tabs.same {T : List (Addr × Str)} {H H' : Hp} (t : Tabs T H) (g : Same H H') : Tabs T H' := t.ext fun b o q => g b o q
theorem Tabs.put {T : List (Addr × Str)} {H : Hp} {l : Addr} {xs ys : List V} (t : Tabs T H) (h : H l = some (.lst xs)) : Tabs T (upd H l (.lst ys)) := Tabs.but t (S := [l]) ((But.refl _ _).put (by simp)) fun x hx o q => by
  rw [List.mem_singleton.mp hx, h] at q
  cases q
  exact ⟨fun _ z => (by cases z), fun _ z => (by cases z)⟩
abbrev Q41 : Str := ("_law_right" : Str) ++ (".<locals>." : Str)
abbrev T41 (PR : Addr) : List (Addr × Str) := [(PR, Q41 ++ ("<lambda>" : Str))]
theorem mem41 {q : Str} {PR : Addr} (h : q = Q41) : (PR, q ++ ("<lambda>" : Str)) ∈ T41 PR := by subst h; exact List.mem_singleton.mpr rfl
theorem only41 {q : Str} {PR : Addr} (h : q = Q41) : ∀ p ∈ T41 PR, p.1 = PR → p.2 = q ++ ("<lambda>" : Str) := fun p hp _ => by subst h; exact congrArg Prod.snd (List.mem_singleton.mp hp)
def spRightT (PR : Addr) : Sp := fun vs H Q _ => ∃ p, vs = [.ref p] ∧ PotAt H p 0 ∧ Tabs (T41 PR) H ∧ ∀ H', ButN [p] H H' → Tabs (T41 PR) H' → Q (.bl true) H'
/-- a call that raises, caught: the error is kept, told in a pair -/
def spCaught (P : Program) (w : World) (K : PySem.W.Frag) (mg : Str → Option Value) (base : Heap) (k : Nat) (CH : Addr) : Sp := fun vs H Q _ => ∃ (f : Addr) (sp : Hp → VK → XK → Prop) (R : XK), vs = [.ref f] ∧ CloOk P w K mg base k f sp ∧
  Raises sp H R ∧ ∀ cls d G, R cls d G → PySem.W.exmOne K cls (.ref CH) = some true ∧ ∀ a t, a ≠ t → G a = none → G t = none → Q (.ref t) (upd (upd G a (ErrO cls d a)) t (.tup [.ref a, .non]))
/-! ### such values while tables grow -/
section
variable {b : Bool} {N : Addr → Prop} {H H' : Hp}
mutual
theorem SA.kp (g : Kp H H') : ∀ {k n : Nat} {v : V} {d : PyData}, SA b N H k n v d → SA b (fun _ => False) H' k n v d
  | _, _, _, _, .non => .non
  | _, _, _, _, .bl c => .bl c
  | _, _, _, _, .int i h h2 => .int i h h2
  | _, _, _, _, .str z h h2 => .str z h h2
  | _, _, _, _, .tup h t l => .tup (g _ _ h (fun _ z => by cases z) (fun _ z => by cases z)) (SAs.kp g t) l
  | _, _, _, _, .lst e a h t => .lst e id (g _ _ h (fun _ z => by cases z) (fun _ z => by cases z)) (SAs.kp g t)
  | _, _, _, _, .dct0 e a h => .dct0 e id (g _ _ h (fun _ z => by cases z) (fun _ z => by cases z))
  | _, _, _, _, .dct1 z i e a h h1 h2 h3 h4 => .dct1 z i e id (g _ _ h (fun _ z => by cases z) (fun _ z => by cases z)) h1 h2 h3 h4
theorem SAs.kp (g : Kp H H') : ∀ {k n : Nat} {vs : List V} {ds : List PyData}, SAs b N H k n vs ds → SAs b (fun _ => False) H' k n vs ds
  | _, _, _, _, .nil => .nil
  | _, _, _, _, .cons h t l => .cons (SA.kp g h) (SAs.kp g t) l
end
end
theorem DKp.kp {H H' : Hp} (g : Kp H H') : DKp H H' := ⟨fun h => g _ _ h (fun _ z => by cases z) (fun _ z => by cases z), fun h => ⟨_, g _ _ h (fun _ z => by cases z) (fun _ z => by cases z)⟩, fun h => ⟨_, g _ _ h (fun _ z => by cases z) (fun _ z => by cases z)⟩⟩
section
variable {X : Cx} {params : Arguments} {body : Expr} {scope : Scope} {ys : List Str} {v : V} {tf : TE} {t : XK → TE} {σ : L2.St} {H HZ : Hp} {Q : VK} {f CE CH : Addr}
theorem caught_at (ok : X.Ok) (hl : σ.length = X.N.length) (L : LamS X.env.scope scope) (hbind : LamB params body scope) (hbody : LamR X scope body t) (hf : LamAt X HZ f params body scope) (cA : CellsAt X.N X.base σ (lamCl X scope) HZ) (hexm : PySem.W.exmOne X.K (.ref CE) (.ref CH) = some true)
    (hR : ∀ Q' E', (∀ e' G0, Same (dropC (lamCs X scope) HZ) G0 → G0 e' = some (.xd [("value", v)]) → E' (.ref CE) (some e') G0) → t E' σ (dropC (lamCs X scope) HZ) Q')
    (hQ : ∀ H' p a e', Same HZ H' → HZ a = none → H' p = some (.tup [.ref a, .non]) → H' a = some (ErrO (.ref CE) (some e') a) → H' e' = some (.xd [("value", v)]) → Q (.ref p) H') : spCaught X.prog X.w X.K X.mg X.base 17 CH [.ref f] HZ Q E0 := by
  refine ⟨f, _, fun cls dd G => ∃ G0 e', cls = .ref CE ∧ dd = some e' ∧ Same (dropC (lamCs X scope) HZ) G0 ∧ G0 e' = some (.xd [("value", v)]) ∧ (∀ c ∈ lamCs X scope, G0 c = none) ∧ G = backC (lamCs X scope) HZ G0, rfl, lam_clo ok hl L hbind hbody, fun Q' E' hE => ⟨hf, cA, hR _ _ fun e' G0 g he n => hE _ _ _ ⟨G0, e', rfl, rfl, g, he, n, rfl⟩⟩, ?_⟩
  rintro cls dd G ⟨G0, e', rfl, rfl, g, he, n, rfl⟩
  have sg : Same HZ (backC (lamCs X scope) HZ G0) := fun b o q => by
    by_cases m : b ∈ lamCs X scope
    · rw [backC_in m]; exact q
    · rw [backC_out m]; exact g b o (by rw [dropC_out m]; exact q)
  have ne : e' ∉ lamCs X scope := fun m => by rw [n e' m] at he; cases he
  have he' : backC (lamCs X scope) HZ G0 e' = some (.xd [("value", v)]) := by rw [backC_out ne]; exact he
  refine ⟨hexm, fun a p nap na np => ?_⟩
  have s1 := same_new na (ErrO (.ref CE) (some e') a)
  have np' : upd (backC (lamCs X scope) HZ G0) a (ErrO (.ref CE) (some e') a) p = none := by rw [upd_ne (Ne.symm nap)]; exact np
  have s2 := same_new np' (.tup [.ref a, .non])
  have na0 : HZ a = none := by
    cases e : HZ a with
    | none => rfl
    | some o => rw [sg _ _ e] at na; cases na
  exact hQ _ p a e' ((sg.trans s1).trans s2) na0 upd_same (s2 _ _ upd_same) (s2 _ _ (s1 _ _ he'))
/-- a lambda that stands, handed on -/
theorem caught_old (L : LamS X.env.scope scope) (hbind : LamB params body scope) (hbody : LamR X scope body t) (hy : ∀ y ∈ scope.names, y.2 = .free → y.1 ∈ ys) (hf : LamAt X H f params body scope) (hexm : PySem.W.exmOne X.K (.ref CE) (.ref CH) = some true)
    (hv : tf σ H fun x H1 => x = .ref f ∧ H1 = H) (mf : ∀ {Q1 Q2 : VK}, (∀ x H1, Q1 x H1 → Q2 x H1) → tf σ H Q1 → tf σ H Q2)
    (hR : ∀ G Q' E', Kp H G → (∀ e' G0, Same G G0 → G0 e' = some (.xd [("value", v)]) → E' (.ref CE) (some e') G0) → t E' σ G Q')
    (hQ : ∀ H' p a e', Same H H' → H' p = some (.tup [.ref a, .non]) → H' a = some (ErrO (.ref CE) (some e') a) → H' e' = some (.xd [("value", v)]) → Q (.ref p) H') : tCallC X ys (spCaught X.prog X.w X.K X.mg X.base 17 CH) (tCons tf tNil) σ H Q := by
  refine mf (fun x H1 z => ?_) hv
  obtain ⟨rfl, rfl⟩ := z
  intro ok hl cs HZ eD pn cA
  have up : ∀ b o, H1 b = some o → HZ b = some o ∧ b ∉ cs := fun b o q => by
    rw [← eD] at q
    exact ⟨(dropC_some q).2, (dropC_some q).1⟩
  have cL := cA.lam ok L hy
  have ps := cL.pins (lamCl_N ok L)
  refine caught_at (v := v) ok hl L hbind hbody (hf.ext fun b φ q => (up b _ q).1) cL hexm (fun Q' E' hE => hR _ Q' E' (fun b o q n1 n2 => ?_) hE) fun H' p a e' g na h1 h2 h3 => ?_
  · have q' := (up b o q).1
    rw [dropC_out (ps.no q' n2)]; exact q'
  · have fresh : ∀ {b o}, H' b = some o → (∀ o', HZ b = some o' → o' = o) := fun {b o} q o' q' => by
      rw [g _ _ q'] at q; exact Option.some.inj q
    have out : ∀ {b o}, H' b = some o → (∀ c u, o ≠ PinO c u) → b ∉ cs := fun {b o} q nn m => by
      obtain ⟨u, z⟩ := pn b m
      exact nn _ _ (fresh q _ z).symm
    refine ⟨fun c m => ?_, hQ _ p a e' (fun b o q => ?_) ?_ ?_ ?_⟩
    · obtain ⟨o, z⟩ := pn c m
      rw [z]; exact g _ _ z
    · obtain ⟨q1, q2⟩ := up b o q
      rw [dropC_out q2]; exact g _ _ q1
    · rw [dropC_out (out h1 fun c u z => by cases z)]; exact h1
    · rw [dropC_out (fun m => by obtain ⟨u, z⟩ := pn a m; rw [na] at z; cases z)]; exact h2
    · rw [dropC_out (out h3 fun c u z => by cases z)]; exact h3
end
end Fp
/-! texts of runs: values, steps -/
namespace Fp
open PySem PySem.Spec PyProof.Rows L2
def top (i : Nat) : Stmt := PySem.Challenge.pw_fewplaymany_k12_whole_texts_of_runs.main.body.getD i (.Pass ⟨0, 0, 0, 0⟩)
structure RTx (mg : Str → Option Value) : Prop where
  isinstance : mg "isinstance" = none
  int : mg "int" = none
  bool : mg "bool" = none
  tuple : mg "tuple" = none
  list : mg "list" = none
  all : mg "all" = none
  len : mg "len" = none
  range : mg "range" = none
  repr : mg "repr" = none
  enumerate : mg "enumerate" = none
  str : mg "str" = none
  c_FIGURES : ∃ t, mg "FIGURES" = some (.str "0123456789" t)
  c_MOST_FIGURES : ∃ t, mg "MOST_FIGURES" = some (.int 4000 t)
  c_MOST_HANDS : ∃ t, mg "MOST_HANDS" = some (.int 6 t)
mutual
def valB : PyData → Bool
  | .none => true
  | .int _ => true
  | .tuple ds => valBs ds
  | _ => false
def valBs : List PyData → Bool
  | [] => true
  | d :: ds => valB d && valBs ds
end
mutual
def vsz : PyData → Nat
  | .tuple ds => 1 + vszs ds
  | _ => 1
def vszs : List PyData → Nat
  | [] => 0
  | d :: ds => vsz d + vszs ds
end
theorem valBs_app : ∀ ds es : List PyData, valBs (ds ++ es) = (valBs ds && valBs es)
  | [], _ => by simp [valBs]
  | d :: ds, es => by rw [List.cons_append, valBs, valBs, valBs_app ds es, Bool.and_assoc]
theorem vszs_app : ∀ ds es : List PyData, vszs (ds ++ es) = vszs ds + vszs es
  | [], _ => by simp [vszs]
  | d :: ds, es => by rw [List.cons_append, vszs, vszs, vszs_app ds es]; omega
theorem vsz_pos (d : PyData) : 1 ≤ vsz d := by cases d <;> simp [vsz]
theorem vszs_len : ∀ ds : List PyData, ds.length ≤ vszs ds
  | [] => by simp [vszs]
  | d :: ds => by have := vszs_len ds; have := vsz_pos d; rw [vszs, List.length_cons]; omega
def isTup : PyData → Bool
  | .tuple _ => true
  | _ => false
def isStr : PyData → Bool
  | .str _ => true
  | _ => false
theorem kit_str {K : PySem.W.Frag} (d : PyData) : PySem.W.kitOne K (.type (tyN d)) (.type "str") = some (isStr d) := by
  cases d <;> first | rfl | decide +kernel | kernel_rfl
theorem kit_tupT {K : PySem.W.Frag} (d : PyData) : PySem.W.kitOne K (.type (tyN d)) (.type "tuple") = some (isTup d) := by
  rw [kit_tuple]; cases d <;> rfl
def wordB : PyData → Bool
  | .int i => decide (0 ≤ i ∧ i ≤ 99)
  | _ => false
def belB (n : Int) : PyData → Bool
  | .int i => decide (0 ≤ i ∧ i < n)
  | _ => false
def boxB : PyData → Bool
  | .tuple [a, b] => belB 6 a && wordB b
  | _ => false
def lookB : PyData → Bool
  | .tuple ds => decide (1 ≤ ds.length) && decide (ds.length ≤ 6) && valBs ds
  | _ => false
def isNon : PyData → Bool
  | .none => true
  | _ => false
def matS (k : Str) (m : PyData) : Bool := if k = "write" then valB m else if k = "look" then lookB m else if k = "say" then wordB m else if k = "ask" ∨ k = "answer" then boxB m else if k = "forget" then isNon m else false
def matB : PyData → PyData → Bool
  | .str k, m => matS k m
  | _, _ => false
def stepB : PyData → Bool
  | .tuple [h, k, m] => belB 6 h && matB k m
  | _ => false
def stepsB : PyData → Bool
  | .tuple ds => ds.all stepB
  | _ => false
/-- the kind of a step, if it is one of three parts -/
def KdOk : PyData → Prop
  | .tuple [_, k, _] => (∃ z, k = .str z) ∨ k = .none
  | _ => True
def spWhA : Sp := fun vs H Q _ => ∃ v d, vs = [v] ∧ DA H v d ∧ Q (.bl (isInt d)) H
def spWordA : Sp := fun vs H Q _ => ∃ v d, vs = [v] ∧ DA H v d ∧ Q (.bl (wordB d)) H
def spBelA : Sp := fun vs H Q _ => ∃ (v : V) (d : PyData) (n : Int), vs = [v, .int n] ∧ DA H v d ∧ Q (.bl (belB n d)) H
def spValA : Sp := fun vs H Q _ => ∃ v d, vs = [v] ∧ DA H v d ∧ vsz d ≤ 1000000 ∧ ∀ H', Same H H' → Q (.bl (valB d)) H'
def spBoxA : Sp := fun vs H Q _ => ∃ v d, vs = [v] ∧ DA H v d ∧ ∀ H', Same H H' → Q (.bl (boxB d)) H'
def spMatA : Sp := fun vs H Q _ => ∃ (u v : V) (k d : PyData), vs = [u, v] ∧ DA H u k ∧ ((∃ z, k = .str z) ∨ k = .none) ∧ DA H v d ∧ vsz d ≤ 1000000 ∧ ∀ H', Same H H' → Q (.bl (matB k d)) H'
def spStepA : Sp := fun vs H Q _ => ∃ v d, vs = [v] ∧ DA H v d ∧ KdOk d ∧ vsz d ≤ 1000000 ∧ ∀ H', Same H H' → Q (.bl (stepB d)) H'
def spStepsA : Sp := fun vs H Q _ => ∃ v d, vs = [v] ∧ DA H v d ∧ (∀ ds, d = .tuple ds → ∀ x ∈ ds, KdOk x) ∧ vsz d ≤ 1000000 ∧ ∀ H', Same H H' → Q (.bl (stepsB d)) H'
theorem DA.same {H H' : Hp} {v : V} {d : PyData} (g : Same H H') (h : DA H v d) : DA H' v d := h.ext fun b o q _ => g b o q
theorem DAs.same {H H' : Hp} {vs : List V} {ds : List PyData} (g : Same H H') (h : DAs H vs ds) : DAs H' vs ds := h.ext fun b o q _ => g b o q
theorem DAs.snoc_inv {H : Hp} {y : V} : ∀ {ys : List V} {ds : List PyData}, DAs H (ys ++ [y]) ds → ∃ es e, ds = es ++ [e] ∧ DAs H ys es ∧ DA H y e
  | [], _, .cons h .nil => ⟨[], _, rfl, .nil, h⟩
  | _ :: ys, _, .cons h t => by
    obtain ⟨es, e, rfl, h1, h2⟩ := DAs.snoc_inv (ys := ys) t
    exact ⟨_ :: es, e, rfl, .cons h h1, h2⟩
theorem DAs.app {H : Hp} : ∀ {vs ws : List V} {ds es : List PyData}, DAs H vs ds → DAs H ws es → DAs H (vs ++ ws) (ds ++ es)
  | _, _, _, _, .nil, g => g
  | _, _, _, _, .cons h t, g => .cons h (t.app g)
theorem notb_in {te : TE} {σ : L2.St} {H : Hp} {Q' : Bool → Hp → Prop} (h : te σ H fun x H1 => ∃ k, x = .bl k ∧ Q' (!k) H1) : tNot (tB te) σ H Q' := h
theorem same_put {H G : Hp} {l : Addr} {o : HO} (g : Same H G) (h : H l = none) : Same H (upd G l o) := fun a u e => by rw [upd_ne (ne_of_none e h)]; exact g a u e
def VW (v : V) (l : Addr) (d : PyData) (H : Hp) (m : Nat) (σ : L2.St) (G : Hp) : Prop := ∃ xs ds u, σ = [some v, some (.ref l), u] ∧ Same H G ∧ G l = some (.lst xs) ∧ DAs H xs ds ∧ vszs ds = m ∧ m ≤ vsz d ∧ valBs ds = valB d
section
variable {P : Program} {w : World} {K : PySem.W.Frag} {mg : Str → Option Value} {base : Heap} {f : Addr} {fd : FuncData} {C : Addr}
abbrev s_is_whole : Stmt := top 7
theorem sc_is_whole : FnScope ["value"] ["value"] (defScope s_is_whole) := ⟨rfl, rfl, rfl, by decide +kernel, rfl, by decide +kernel, by decide +kernel⟩
theorem ok_is_whole (F : Fun K "is_whole" "is_whole" s_is_whole f fd) (T : RTx mg) : FnOk P w K mg base CX0 1 f fd ["value"] spWhA := by
  refine F.ok sc_is_whole (fun vs H Q E h => ?_) (fun cdv A outer s H vs Q E hr h => ?_)
  · obtain ⟨v, d, rfl, _⟩ := h
    rfl
  obtain ⟨v, d, rfl, hd, q⟩ := h
  refine ⟨_, (pss_one (ps_ret (pe_and (pe_callB call_isi rfl T.isinstance (by decide +kernel) (pa_cons (pv 0) (pa_cons (pe_bltn (v := .ty "int") rfl T.int boot_int rfl) pa_nil))) (pe_one (pe_not (pe_callB call_isi rfl T.isinstance (by decide +kernel) (pa_cons (pv 0) (pa_cons (pe_bltn (v := .ty "bool") rfl T.bool boot_bool rfl) pa_nil)))))))), ?_⟩
  refine ⟨_, rfl, _, _, _, _, _, rfl, .ty "int", hd.ty (K := K), kit_int d, _, rfl, ?_⟩
  cases d <;> first | exact iteF q | exact iteT ⟨_, rfl, _, _, _, _, _, rfl, .ty "bool", hd.ty (K := K), kit_bool _, _, rfl, q⟩
abbrev s_is_word : Stmt := top 8
theorem sc_is_word : FnScope ["value"] ["value"] (defScope s_is_word) := ⟨rfl, rfl, rfl, by decide +kernel, rfl, by decide +kernel, by decide +kernel⟩
theorem ok_is_word (F : Fun K "is_word" "is_word" s_is_word f fd) (G_is_whole : Fd P w K mg base CX0 "is_whole" 1 ["value"] spWhA) : FnOk P w K mg base CX0 2 f fd ["value"] spWordA := by
  refine F.ok sc_is_word (fun vs H Q E h => ?_) (fun cdv A outer s H vs Q E hr h => ?_)
  · obtain ⟨v, d, rfl, _⟩ := h
    rfl
  obtain ⟨v, d, rfl, hd, q⟩ := h
  refine ⟨_, (pss_one (ps_ret (pe_and (pe_fd G_is_whole (hr.mono (by first | decide | omega)) rfl (pa_cons (pv 0) pa_nil)) (pe_one (pe_chain op_le op_le pe_int (pv 0) pe_int))))), ?_⟩
  refine ⟨_, rfl, v, d, rfl, hd, _, rfl, ?_⟩
  cases hd <;> first | exact iteF q | skip
  rename_i i
  refine iteT ?_
  refine ⟨_, rfl, _, _, rfl, rfl, _, rfl, ite2 (fun c => ?_) (fun c => ?_)⟩
  · refine ⟨_, _, rfl, rfl, ?_⟩
    have c' : 0 ≤ i := of_decide_eq_true c
    have e : decide (0 ≤ i ∧ i ≤ 99) = decide (i ≤ 99) := by simp [c']
    rw [wordB, e] at q
    exact q
  · have c' : ¬ 0 ≤ i := of_decide_eq_false (by simpa using c)
    rw [wordB, decide_eq_false (fun z => c' z.1)] at q
    exact q
abbrev s_is_below : Stmt := top 9
theorem sc_is_below : FnScope ["value", "many"] ["value", "many"] (defScope s_is_below) := ⟨rfl, rfl, rfl, by decide +kernel, rfl, by decide +kernel, by decide +kernel⟩
theorem ok_is_below (F : Fun K "is_below" "is_below" s_is_below f fd) (G_is_whole : Fd P w K mg base CX0 "is_whole" 1 ["value"] spWhA) : FnOk P w K mg base CX0 2 f fd ["value", "many"] spBelA := by
  refine F.ok sc_is_below (fun vs H Q E h => ?_) (fun cdv A outer s H vs Q E hr h => ?_)
  · obtain ⟨v, d, n, rfl, _⟩ := h
    rfl
  obtain ⟨v, d, n, rfl, hd, q⟩ := h
  refine ⟨_, (pss_one (ps_ret (pe_and (pe_fd G_is_whole (hr.mono (by first | decide | omega)) rfl (pa_cons (pv 0) pa_nil)) (pe_one (pe_chain op_le op_lt pe_int (pv 0) (pv 1)))))), ?_⟩
  refine ⟨_, rfl, v, d, rfl, hd, _, rfl, ?_⟩
  cases hd <;> first | exact iteF q | skip
  rename_i i
  refine iteT ?_
  refine ⟨_, rfl, _, _, rfl, rfl, _, rfl, ite2 (fun c => ?_) (fun c => ?_)⟩
  · refine ⟨_, rfl, _, _, rfl, rfl, ?_⟩
    have c' : 0 ≤ i := of_decide_eq_true c
    have e : decide (0 ≤ i ∧ i < n) = decide (i < n) := by simp [c']
    rw [belB, e] at q
    exact q
  · have c' : ¬ 0 ≤ i := of_decide_eq_false (by simpa using c)
    rw [belB, decide_eq_false (fun z => c' z.1)] at q
    exact q
abbrev s_is_value : Stmt := top 12
theorem sc_is_value : FnScope ["value", "left", "thing"] ["value"] (defScope s_is_value) := ⟨rfl, rfl, rfl, by decide +kernel, rfl, by decide +kernel, by decide +kernel⟩
theorem ok_is_value (F : Fun K "is_value" "is_value" s_is_value f fd) (T : RTx mg) (G_is_whole : Fd P w K mg base CX0 "is_whole" 1 ["value"] spWhA) : FnOk P w K mg base CX0 2 f fd ["value"] spValA := by
  refine F.ok sc_is_value (fun vs H Q E h => ?_) (fun cdv A outer s H vs Q E hr h => ?_)
  · obtain ⟨v, d, rfl, _⟩ := h
    rfl
  obtain ⟨v, d, rfl, hd, hz, q⟩ := h
  refine ⟨_, (pss_cons (ps_set (i := 1) sc_is_value.nd rfl (Or.inl rfl) (pe_lst (pa_cons (pv 0) pa_nil)))
  (pss_cons (ps_while PassesOwn.never (pt_truth (pv 1) (by intro _; rfl)) (pss_cons (ps_set (i := 2) sc_is_value.nd rfl (Or.inl rfl) (pe_bm0 PySem.F.plainAttrs_list PySem.F.slot_list_pop PySem.F.type_list_pop mt_pop (pv 1)))
  (pss_one (ps_if (pt_val (pe_callB call_isi rfl T.isinstance (by decide +kernel) (pa_cons (pv 2) (pa_cons (pe_bltn (v := .ty "tuple") rfl T.tuple boot_tuple rfl) pa_nil)))) (pss_one (ps_expr (pe_bm PySem.F.plainAttrs_list PySem.F.slot_list_extend PySem.F.type_list_extend mt_extendT (pv 1) (pa_cons (pv 2) pa_nil)))) (pss_one (ps_if (PW.pt (pw_and (pt_cmpR op_notN (pv 2) pe_non (nomark _)) (pw_and1 (pt_not (pt_val (pe_fd G_is_whole (hr.mono (by first | decide | omega)) rfl (pa_cons (pv 2) pa_nil))))))) (pss_one (ps_ret pe_bl)) pss_nil))))))
  (pss_one (ps_ret pe_bl)))), ?_⟩
  refine seq_in ?_
  refine asg_in ?_
  refine ⟨_, rfl, szl (by show 1 ≤ _; decide), fun l nl => ?_⟩
  refine g_set ?_
  refine nx_in ?_
  refine seq_in ?_
  refine ⟨VW v l d H, ⟨vszs [d], [v], [d], _, rfl, same_new nl _, upd_same, .cons hd .nil, rfl, by simp [vszs], by simp [valBs]⟩, ?_⟩
  rintro m σ G ⟨xs, ds, u, rfl, g, hl, hds, hm, hle, hv⟩
  refine ⟨_, rfl, _, .inl ⟨xs, .of hl, rfl⟩, ?_⟩
  rcases List.eq_nil_or_concat xs with rfl | ⟨ys, y, rfl⟩
  · refine ite_no rfl ?_
    refine nx_in ?_
    refine ret_in ?_
    cases hds
    rw [show valB d = true by rw [← hv]; simp [valBs]] at q
    exact q _ g
  rw [List.concat_eq_append] at hl hds ⊢
  obtain ⟨es, e, rfl, hes, hye⟩ := hds.snoc_inv
  rw [vszs_app] at hm
  have e1 : vszs [e] = vsz e := by simp [vszs]
  rw [e1] at hm
  have hpos := vsz_pos e
  rw [valBs_app, show valBs [e] = valB e by simp [valBs]] at hv
  refine ite_yes (by simp) ⟨fun σ' G' => ∃ m', m' < m ∧ VW v l d H m' σ' G', fun _ _ z => z, ?_⟩
  refine seq_in ?_
  refine asg_in ?_
  refine ⟨_, rfl, .inl ⟨rfl, _, .of hl⟩, l, _, y, rfl, rfl, hl, by simp, ?_⟩
  rw [List.dropLast_concat]
  refine g_set ?_
  refine nx_in ?_
  have g1 : Same H (upd G l (.lst ys)) := same_put g nl
  have hl1 : upd G l (.lst ys) l = some (.lst ys) := upd_same
  generalize upd G l (.lst ys) = G1 at g1 hl1 ⊢
  refine ⟨_, rfl, _, _, _, _, _, rfl, .ty "tuple", (hye.same g1).ty (K := K), kit_tupT e, _, rfl, ?_⟩
  have stay : valB e = true → ∃ m', m' < m ∧ VW v l d H m' [some v, some (.ref l), some y] G1 := fun he => ⟨vszs es, by omega, ys, es, _, rfl, g1, hl1, hes, rfl, by omega, by rw [he, Bool.and_true] at hv; exact hv⟩
  have out : valB e = false → Q (.bl false) G1 := fun he => by
    rw [he, Bool.and_false] at hv
    rw [← hv] at q
    exact q _ g1
  have rest : isTup e = false → (y = .non ↔ e = .none) → tIfS (tAnd (tTest (tOp (fun x y H Q => y = V.non ∧ Q (V.bl !decide (x = V.non)) H) (tVar 2) (tC V.non))) (tNot (tB (tCall spWhA [] E0 (tCons (tVar 2) tNil))))) (tRet (tC (V.bl false))) tNext { nx := fun σ' G' => ∃ m', m' < m ∧ VW v l d H m' σ' G', ct := fun σ' G' => ∃ m', m' < m ∧ VW v l d H m' σ' G', bk := fun σ H1 => tRet (tC (V.bl true)) { nx := fun x H' => Q V.non H', rt := Q } σ H1, rt := Q } [some v, some (.ref l), some y] G1 := fun ht hn => by
    refine ⟨_, rfl, rfl, _, rfl, ?_⟩
    by_cases hy : y = .non
    · refine ite_no (by rw [hy]; rfl) (iteF ?_)
      refine next_in ?_
      exact stay (by rw [hn.mp hy]; rfl)
    · refine ite_yes (by simp [hy]) ?_
      refine notb_in ?_
      refine ⟨_, rfl, y, e, rfl, hye.same g1, _, rfl, ?_⟩
      cases e with
      | none => exact absurd (hn.mpr rfl) hy
      | tuple ds2 => exact absurd ht (by simp [isTup])
      | int i => exact iteF (next_in (stay (by simp [valB])))
      | bool b => exact iteT (ret_in (out (by simp [valB])))
      | str z => exact iteT (ret_in (out (by simp [valB])))
      | list z => exact iteT (ret_in (out (by simp [valB])))
      | dict z => exact iteT (ret_in (out (by simp [valB])))
  cases hye with
  | @tup a zs ds2 ha hds2 =>
    refine iteT ?_
    have hz2 := hds2.len
    have h2 := vszs_len ds2
    have h3 := hes.len
    have h4 := vszs_len es
    have e2 : vsz (.tuple ds2) = 1 + vszs ds2 := by simp [vsz]
    rw [e2] at hm
    refine ⟨_, rfl, .inl ⟨rfl, _, .of hl1⟩, _, rfl, l, a, ys, zs, rfl, rfl, hl1, .of (g1 _ _ ha), szl (by omega), ?_⟩
    refine ⟨vszs (es ++ ds2), by rw [vszs_app]; omega, ys ++ zs, es ++ ds2, _, rfl, same_put g1 nl, upd_same, hes.app hds2, rfl, by rw [vszs_app]; omega, ?_⟩
    rw [valBs_app]
    rw [valB] at hv
    exact hv
  | non => exact iteF (rest rfl (by simp))
  | bl b => exact iteF (rest rfl (by simp))
  | int i => exact iteF (rest rfl (by simp))
  | str z => exact iteF (rest rfl (by simp))
  | lst h t => exact iteF (rest rfl (by simp))
  | dct h => exact iteF (rest rfl (by simp))
end
end Fp
namespace Fp
open PySem PySem.Spec PyProof.Rows L2
theorem iforN {te : TE} {u : L2.TT} {A B : TS} {D : Ends} {σ : L2.St} {H : Hp} (h : te σ H fun x H1 => ∃ k, x = .bl k ∧ if (!k) = true then (if true = true then A D σ H1 else B D σ H1) else u σ H1 fun b H2 => if b = true then A D σ H2 else B D σ H2) : tIfS (tOr (tNot (tB te)) u) A B D σ H := h
theorem boxB_len {ds : List PyData} (h : ds.length ≠ 2) : boxB (.tuple ds) = false := by
  match ds, h with
  | [], _ => rfl
  | [_], _ => rfl
  | [_, _], h => exact absurd rfl h
  | _ :: _ :: _ :: _, _ => rfl
theorem stepB_len {ds : List PyData} (h : ds.length ≠ 3) : stepB (.tuple ds) = false := by
  match ds, h with
  | [], _ => rfl
  | [_], _ => rfl
  | [_, _], _ => rfl
  | [_, _, _], h => exact absurd rfl h
  | _ :: _ :: _ :: _ :: _, _ => rfl
theorem vsz_mem {d : PyData} : ∀ {ds : List PyData}, d ∈ ds → vsz d ≤ vszs ds
  | e :: ds, h => by
    rw [vszs]
    rcases List.mem_cons.mp h with rfl | h
    · omega
    · have := vsz_mem h; omega
theorem all_getP {p : PyData → Bool} (ds : List PyData) : ((List.range ds.length).map fun i => p (ds.getD i .none)).all id = ds.all p := by
  have e : (List.range ds.length).map (fun i => p (ds.getD i .none)) = ds.map p := by
    refine List.ext_getElem (by simp) fun i h1 h2 => ?_
    have h : i < ds.length := by simpa using h1
    simp [List.getD_eq_getElem?_getD, h]
  rw [e, List.all_map]
  rfl
theorem at0 {x : V} {xs : List V} : atI (x :: xs) (0 : Int) = some x := atI_nat (j := 0) rfl
theorem at1 {x y : V} {xs : List V} : atI (x :: y :: xs) (1 : Int) = some y := atI_nat (j := 1) rfl
theorem vint_ne {a b : Int} : (!decide (V.int a = V.int b)) = !decide (a = b) := by
  congr 1
  exact decide_eq_decide.mpr ⟨fun h => by injection h, fun h => by rw [h]⟩
theorem vstr_eq {a b : Str} : decide (V.str a = V.str b) = decide (a = b) := decide_eq_decide.mpr ⟨fun h => by injection h, fun h => by rw [h]⟩
theorem non_of {H : Hp} {v : V} {d : PyData} (h : DA H v d) : decide (v = .non) = isNon d := by cases h <;> rfl
section
variable {P : Program} {w : World} {K : PySem.W.Frag} {mg : Str → Option Value} {base : Heap} {f : Addr} {fd : FuncData} {C : Addr}
abbrev s_is_box_word : Stmt := top 19
theorem sc_is_box_word : FnScope ["matter"] ["matter"] (defScope s_is_box_word) := ⟨rfl, rfl, rfl, by decide +kernel, rfl, by decide +kernel, by decide +kernel⟩
theorem ok_is_box_word (F : Fun K "is_box_word" "is_box_word" s_is_box_word f fd) (T : RTx mg) (G_is_below : Fd P w K mg base CX0 "is_below" 2 ["value", "many"] spBelA) (G_is_word : Fd P w K mg base CX0 "is_word" 2 ["value"] spWordA) : FnOk P w K mg base CX0 3 f fd ["matter"] spBoxA := by
  refine F.ok sc_is_box_word (fun vs H Q E h => ?_) (fun cdv A outer s H vs Q E hr h => ?_)
  · obtain ⟨v, d, rfl, _⟩ := h
    rfl
  obtain ⟨v, d, rfl, hd, q⟩ := h
  refine ⟨_, (pss_cons (ps_if (PW.pt (pw_or (pt_not (pt_val (pe_callB call_isi rfl T.isinstance (by decide +kernel) (pa_cons (pv 0) (pa_cons (pe_bltn (v := .ty "tuple") rfl T.tuple boot_tuple rfl) pa_nil))))) (pw_or1 (pt_cmpR op_ne (pe_callB call_len rfl T.len (by decide +kernel) (pa_cons (pv 0) pa_nil)) pe_int (nomark _))))) (pss_one (ps_ret pe_bl)) pss_nil)
  (pss_one (ps_ret (pe_and (pe_fd G_is_below (hr.mono (by first | decide | omega)) rfl (pa_cons (pe_ix ix_tup (pv 0) pe_int (fun _ _ => rfl)) (pa_cons (pe_cI T.c_MOST_HANDS) pa_nil))) (pe_one (pe_fd G_is_word (hr.mono (by first | decide | omega)) rfl (pa_cons (pe_ix ix_tup (pv 0) pe_int (fun _ _ => rfl)) pa_nil))))))), ?_⟩
  refine seq_in ?_
  refine iforN ?_
  refine ⟨_, rfl, _, _, _, _, _, rfl, .ty "tuple", hd.ty (K := K), kit_tupT d, _, rfl, ?_⟩
  have h0 : Same H H := Same.refl H
  cases hd with
  | @tup a xs ds ha hds =>
    refine iteF ?_
    refine ⟨_, rfl, _, xs.length, rfl, .inr ⟨xs, .of ha, rfl⟩, rfl, _, rfl, ?_⟩
    rw [vint_ne]
    have hl := hds.len
    refine ite2 (fun c => ?_) (fun c => ?_)
    · refine ret_in ?_
      rw [boxB_len (fun z => by rw [hl, z] at c; simp at c)] at q
      exact q _ h0
    · refine next_in ?_
      refine nx_in ?_
      refine ret_in ?_
      have c : xs.length = 2 := by
        have c : (!decide ((xs.length : Int) = 2)) = false := by simpa using c
        have := of_decide_eq_true (by simpa using c : decide ((xs.length : Int) = 2) = true)
        omega
      match xs, ds, hds, c with
      | [x, y], [dx, dy], .cons hx (.cons hy .nil), _ =>
        refine ⟨_, rfl, a, _, _, x, rfl, rfl, .of ha, at0, x, dx, 6, rfl, hx, _, rfl, ?_⟩
        have q : ∀ H', Same H H' → Q (.bl (belB 6 dx && wordB dy)) H' := q
        refine ite2 (fun c => ?_) (fun c => ?_)
        · rw [c, Bool.true_and] at q
          exact ⟨_, rfl, a, _, _, y, rfl, rfl, .of ha, at1, y, dy, rfl, hy, q _ h0⟩
        · have c : belB 6 dx = false := by simpa using c
          rw [c, Bool.false_and] at q
          exact q _ h0
  | _ => exact iteT (iteT (ret_in (q _ h0)))
abbrev s_is_matter : Stmt := top 18
theorem sc_is_matter : FnScope ["kind", "matter"] ["kind", "matter"] (defScope s_is_matter) := ⟨rfl, rfl, rfl, by decide +kernel, rfl, by decide +kernel, by decide +kernel⟩
theorem ok_is_matter (F : Fun K "is_matter" "is_matter" s_is_matter f fd) (T : RTx mg) (G_is_value : Fd P w K mg base CX0 "is_value" 2 ["value"] spValA) (G_is_word : Fd P w K mg base CX0 "is_word" 2 ["value"] spWordA) (G_is_box_word : Fd P w K mg base CX0 "is_box_word" 3 ["matter"] spBoxA) : FnOk P w K mg base CX0 4 f fd ["kind", "matter"] spMatA := by
  refine F.ok sc_is_matter (fun vs H Q E h => ?_) (fun cdv A outer s H vs Q E hr h => ?_)
  · obtain ⟨u, v, k, d, rfl, _⟩ := h
    rfl
  obtain ⟨u, v, k, d, rfl, hu, hk, hd, hz, q⟩ := h
  refine ⟨_, (pss_cons (ps_if (pt_cmpR op_eq (pv 0) pe_str (nomark _)) (pss_one (ps_ret (pe_fd G_is_value (hr.mono (by first | decide | omega)) rfl (pa_cons (pv 1) pa_nil)))) pss_nil)
  (pss_cons (ps_if (pt_cmpR op_eq (pv 0) pe_str (nomark _)) (pss_one (ps_ret (pe_and (pe_callB call_isi rfl T.isinstance (by decide +kernel) (pa_cons (pv 1) (pa_cons (pe_bltn (v := .ty "tuple") rfl T.tuple boot_tuple rfl) pa_nil))) (pe_and (pe_chain op_le op_le pe_int (pe_callB call_len rfl T.len (by decide +kernel) (pa_cons (pv 1) pa_nil)) (pe_cI T.c_MOST_HANDS)) (pe_one (pe_fd G_is_value (hr.mono (by first | decide | omega)) rfl (pa_cons (pv 1) pa_nil))))))) pss_nil)
  (pss_cons (ps_if (pt_cmpR op_eq (pv 0) pe_str (nomark _)) (pss_one (ps_ret (pe_fd G_is_word (hr.mono (by first | decide | omega)) rfl (pa_cons (pv 1) pa_nil)))) pss_nil)
  (pss_cons (ps_if (pt_cmpR op_in_seq (pv 0) (pe_tup (pa_cons pe_str (pa_cons pe_str pa_nil))) rfl) (pss_one (ps_ret (pe_fd G_is_box_word (hr.mono (by first | decide | omega)) rfl (pa_cons (pv 1) pa_nil)))) pss_nil)
  (pss_one (ps_ret (pe_and (pe_cmpR op_eq (pv 0) pe_str (nomark _)) (pe_one (pe_cmpR op_isN (pv 1) pe_non (nomark _)))))))))), ?_⟩
  have h0 : Same H H := Same.refl H
  rcases hk with ⟨z, rfl⟩ | rfl
  · cases hu
    have q : ∀ H', Same H H' → Q (.bl (matS z d)) H' := q
    unfold matS at q
    refine seq_in ?_
    refine ⟨_, rfl, rfl, _, rfl, ?_⟩
    rw [vstr_eq]
    refine ite2 (fun c => ?_) (fun c => ?_)
    · have c := of_decide_eq_true c
      refine ret_in ?_
      rw [if_pos c] at q
      exact ⟨_, rfl, v, d, rfl, hd, hz, q⟩
    have c1 : z ≠ "write" := of_decide_eq_false (by simpa using c)
    rw [if_neg c1] at q
    refine next_in ?_
    refine nx_in ?_
    refine seq_in ?_
    refine ⟨_, rfl, rfl, _, rfl, ?_⟩
    rw [vstr_eq]
    refine ite2 (fun c => ?_) (fun c => ?_)
    · have c := of_decide_eq_true c
      refine ret_in ?_
      rw [if_pos c] at q
      refine ⟨_, rfl, _, _, _, _, _, rfl, .ty "tuple", hd.ty (K := K), kit_tupT d, _, rfl, ?_⟩
      cases hd with
      | @tup a xs ds ha hds =>
        refine iteT ?_
        have hl := hds.len
        have q : ∀ H', Same H H' → Q (.bl (decide (1 ≤ ds.length) && decide (ds.length ≤ 6) && valBs ds)) H' := q
        rw [← hl] at q
        refine ⟨_, rfl, _, xs.length, rfl, .inr ⟨xs, .of ha, rfl⟩, _, _, rfl, rfl, _, rfl, ?_⟩
        by_cases c1 : 1 ≤ xs.length
        · rw [decide_eq_true c1, Bool.true_and] at q
          refine ite_yes (decide_eq_true (by omega)) ⟨_, _, rfl, rfl, _, rfl, ?_⟩
          by_cases c2 : xs.length ≤ 6
          · rw [decide_eq_true c2, Bool.true_and] at q
            refine ite_yes (decide_eq_true (by omega)) ?_
            refine ⟨_, rfl, _, .tuple ds, rfl, .tup ha hds, hz, ?_⟩
            rw [valB]
            exact q
          · rw [decide_eq_false c2, Bool.false_and] at q
            exact ite_no (decide_eq_false (by omega)) (q _ h0)
        · rw [decide_eq_false c1, Bool.false_and, Bool.false_and] at q
          refine ite_no (decide_eq_false (by omega)) ⟨_, rfl, ?_⟩
          exact iteF (q _ h0)
      | _ => exact iteF (q _ h0)
    have c2 : z ≠ "look" := of_decide_eq_false (by simpa using c)
    rw [if_neg c2] at q
    refine next_in ?_
    refine nx_in ?_
    refine seq_in ?_
    refine ⟨_, rfl, rfl, _, rfl, ?_⟩
    rw [vstr_eq]
    refine ite2 (fun c => ?_) (fun c => ?_)
    · have c := of_decide_eq_true c
      refine ret_in ?_
      rw [if_pos c] at q
      exact ⟨_, rfl, v, d, rfl, hd, q _ h0⟩
    have c3 : z ≠ "say" := of_decide_eq_false (by simpa using c)
    rw [if_neg c3] at q
    refine next_in ?_
    refine nx_in ?_
    refine seq_in ?_
    refine ⟨_, rfl, szl (by show 2 ≤ _; decide), fun t nt => ?_⟩
    have g1 := same_new nt (.tup [.str "ask", .str "answer"])
    refine ⟨t, _, rfl, .inr (.of upd_same), rfl, rfl, _, rfl, ?_⟩
    have ei : (if false = true then !inV (.str z) [V.str "ask", V.str "answer"] else inV (.str z) [V.str "ask", V.str "answer"]) = decide (z = "ask" ∨ z = "answer") := by
      show inV (.str z) [V.str "ask", V.str "answer"] = _
      unfold inV
      rw [Bool.eq_iff_iff, List.any_eq_true, decide_eq_true_iff]
      simp only [List.mem_cons, List.not_mem_nil, or_false]
      constructor
      · rintro ⟨x, rfl | rfl, h⟩
        · exact .inl ((beq_iff_eq.mp h).symm)
        · exact .inr ((beq_iff_eq.mp h).symm)
      · rintro (rfl | rfl)
        · exact ⟨_, .inl rfl, beq_self_eq_true _⟩
        · exact ⟨_, .inr rfl, beq_self_eq_true _⟩
    rw [ei]
    refine ite2 (fun c => ?_) (fun c => ?_)
    · have c := of_decide_eq_true c
      refine ret_in ?_
      rw [if_pos c] at q
      exact ⟨_, rfl, v, d, rfl, hd.same g1, fun H' g => q _ (g1.trans g)⟩
    have c4 : ¬ (z = "ask" ∨ z = "answer") := of_decide_eq_false (by simpa using c)
    rw [if_neg c4] at q
    refine next_in ?_
    refine nx_in ?_
    refine ret_in ?_
    refine ⟨_, rfl, rfl, _, rfl, ?_⟩
    rw [vstr_eq]
    refine ite2 (fun c => ?_) (fun c => ?_)
    · have c := of_decide_eq_true c
      rw [if_pos c] at q
      refine ⟨_, rfl, rfl, ?_⟩
      rw [non_of hd]
      exact q _ g1
    · have c : z ≠ "forget" := of_decide_eq_false (by simpa using c)
      rw [if_neg c] at q
      exact q _ g1
  · cases hu
    refine seq_in ?_
    refine ⟨_, rfl, rfl, _, rfl, iteF ?_⟩
    refine next_in ?_
    refine nx_in ?_
    refine seq_in ?_
    refine ⟨_, rfl, rfl, _, rfl, iteF ?_⟩
    refine next_in ?_
    refine nx_in ?_
    refine seq_in ?_
    refine ⟨_, rfl, rfl, _, rfl, iteF ?_⟩
    refine next_in ?_
    refine nx_in ?_
    refine seq_in ?_
    refine ⟨_, rfl, szl (by show 2 ≤ _; decide), fun t nt => ?_⟩
    have g1 := same_new nt (.tup [.str "ask", .str "answer"])
    refine ⟨t, _, rfl, .inr (.of upd_same), rfl, rfl, _, rfl, iteF ?_⟩
    refine next_in ?_
    refine nx_in ?_
    refine ret_in ?_
    refine ⟨_, rfl, rfl, _, rfl, iteF ?_⟩
    exact q _ g1
abbrev s_is_step : Stmt := top 17
theorem sc_is_step : FnScope ["value", "hand", "kind", "matter"] ["value"] (defScope s_is_step) := ⟨rfl, rfl, rfl, by decide +kernel, rfl, by decide +kernel, by decide +kernel⟩
theorem ok_is_step (F : Fun K "is_step" "is_step" s_is_step f fd) (T : RTx mg) (G_is_below : Fd P w K mg base CX0 "is_below" 2 ["value", "many"] spBelA) (G_is_matter : Fd P w K mg base CX0 "is_matter" 4 ["kind", "matter"] spMatA) : FnOk P w K mg base CX0 5 f fd ["value"] spStepA := by
  refine F.ok sc_is_step (fun vs H Q E h => ?_) (fun cdv A outer s H vs Q E hr h => ?_)
  · obtain ⟨v, d, rfl, _⟩ := h
    rfl
  obtain ⟨v, d, rfl, hd, hk, hz, q⟩ := h
  refine ⟨_, (pss_cons (ps_if (PW.pt (pw_or (pt_not (pt_val (pe_callB call_isi rfl T.isinstance (by decide +kernel) (pa_cons (pv 0) (pa_cons (pe_bltn (v := .ty "tuple") rfl T.tuple boot_tuple rfl) pa_nil))))) (pw_or1 (pt_cmpR op_ne (pe_callB call_len rfl T.len (by decide +kernel) (pa_cons (pv 0) pa_nil)) pe_int (nomark _))))) (pss_one (ps_ret pe_bl)) pss_nil)
  (pss_cons (ps_asg (pv 0) (pg_tup rfl (pgs_cons (pg_name (i := 1) sc_is_step.nd rfl (Or.inl rfl)) (pgs_cons (pg_name (i := 2) sc_is_step.nd rfl (Or.inl rfl)) (pgs_cons (pg_name (i := 3) sc_is_step.nd rfl (Or.inl rfl)) pgs_nil)))))
  (pss_one (ps_ret (pe_and (pe_fd G_is_below (hr.mono (by first | decide | omega)) rfl (pa_cons (pv 1) (pa_cons (pe_cI T.c_MOST_HANDS) pa_nil))) (pe_one (pe_fd G_is_matter (hr.mono (by first | decide | omega)) rfl (pa_cons (pv 2) (pa_cons (pv 3) pa_nil))))))))), ?_⟩
  have h0 : Same H H := Same.refl H
  refine seq_in ?_
  refine iforN ?_
  refine ⟨_, rfl, _, _, _, _, _, rfl, .ty "tuple", hd.ty (K := K), kit_tupT d, _, rfl, ?_⟩
  cases hd with
  | @tup a xs ds ha hds =>
    refine iteF ?_
    refine ⟨_, rfl, _, xs.length, rfl, .inr ⟨xs, .of ha, rfl⟩, rfl, _, rfl, ?_⟩
    rw [vint_ne]
    have hl := hds.len
    refine ite2 (fun c => ?_) (fun c => ?_)
    · refine ret_in ?_
      rw [stepB_len (fun z => by rw [hl, z] at c; simp at c)] at q
      exact q _ h0
    · refine next_in ?_
      refine nx_in ?_
      refine seq_in ?_
      have c : xs.length = 3 := by
        have c : (!decide ((xs.length : Int) = 3)) = false := by simpa using c
        have := of_decide_eq_true (by simpa using c : decide ((xs.length : Int) = 3) = true)
        omega
      match xs, ds, hds, c with
      | [x, y, z], [dx, dy, dz], .cons hx (.cons hy (.cons hz' .nil)), _ =>
        refine ⟨_, rfl, a, _, rfl, .of ha, rfl, _, _, rfl, _, _, rfl, _, _, rfl, rfl, ?_⟩
        refine nx_in ?_
        refine ret_in ?_
        refine ⟨_, rfl, x, dx, 6, rfl, hx, _, rfl, ?_⟩
        have q : ∀ H', Same H H' → Q (.bl (belB 6 dx && matB dy dz)) H' := q
        have e : vsz (.tuple [dx, dy, dz]) = 1 + (vsz dx + (vsz dy + (vsz dz + 0))) := by simp [vsz, vszs]
        rw [e] at hz
        refine ite2 (fun c => ?_) (fun c => ?_)
        · rw [c, Bool.true_and] at q
          exact ⟨_, rfl, _, rfl, y, z, dy, dz, rfl, hy, hk, hz', by omega, q⟩
        · have c : belB 6 dx = false := by simpa using c
          rw [c, Bool.false_and] at q
          exact q _ h0
  | _ => exact iteT (iteT (ret_in (q _ h0)))
abbrev s_are_steps : Stmt := top 20
theorem sc_are_steps : FnScope ["value", "thing"] ["value"] (defScope s_are_steps) := ⟨rfl, rfl, rfl, by decide +kernel, rfl, by decide +kernel, by decide +kernel⟩
theorem ok_are_steps (F : Fun K "are_steps" "are_steps" s_are_steps f fd) (T : RTx mg) (G_is_step : Fd P w K mg base CX0 "is_step" 5 ["value"] spStepA) : FnOk P w K mg base CX0 6 f fd ["value"] spStepsA := by
  refine F.ok sc_are_steps (fun vs H Q E h => ?_) (fun cdv A outer s H vs Q E hr h => ?_)
  · obtain ⟨v, d, rfl, _⟩ := h
    rfl
  obtain ⟨v, d, rfl, hd, hk, hz, q⟩ := h
  refine ⟨_, (pss_one (ps_ret (pe_and (pe_callB call_isi rfl T.isinstance (by decide +kernel) (pa_cons (pv 0) (pa_cons (pe_bltn (v := .ty "tuple") rfl T.tuple boot_tuple rfl) pa_nil))) (pe_one (pe_callB (cr_all rfl) rfl T.all (by decide +kernel) (pa_cons (pe_lc (own := [("thing", 1)]) (g := (gName 1)) (tt := tYes) rfl sc_are_steps.nd (pi_tup (pv 0)) (blkOk_by (own := [("thing", 1)]) (N := ["value", "thing"]) (sc := defScope s_are_steps) (by decide +kernel)) (fun _ _ _ _ _ => (pg_name (i := 1) sc_are_steps.nd rfl (Or.inl rfl))) (fun _ _ _ _ _ => pts_nil) (fun _ _ _ _ _ => (pe_fd G_is_step (hr.mono (by first | decide | omega)) rfl (pa_cons (pv 1) pa_nil)))) pa_nil)))))), ?_⟩
  have h0 : Same H H := Same.refl H
  refine ret_in ?_
  refine ⟨_, rfl, _, _, _, _, _, rfl, .ty "tuple", hd.ty (K := K), kit_tupT d, _, rfl, ?_⟩
  cases hd with
  | @tup a xs ds ha hds =>
    refine iteT ?_
    have hl := hds.len
    have e : vsz (.tuple ds) = 1 + vszs ds := by simp [vsz]
    rw [e] at hz
    have hln := vszs_len ds
    refine ⟨_, rfl, a, rfl, ⟨_, .of ha⟩, fun D hD => ?_⟩
    refine lc_bools walk_tup (fun i => stepB (ds.getD i .none)) hD (by omega) (fun H' g => .of (g _ _ ha)) (fun i x H1 H2 hi g y Q4 N kk => ?_) fun H1 g1 h1 => ?_
    · obtain ⟨rfl, hx⟩ := y
      obtain ⟨dx, hdx, vx⟩ := DAs.at_ hds hx
      have eg : ds.getD i .none = dx := by rw [List.getD_eq_getElem?_getD, hdx] <;> rfl
      rw [eg] at kk
      have hm : dx ∈ ds := List.mem_of_getElem? hdx
      have hv : vsz dx ≤ vszs ds := vsz_mem hm
      exact ⟨rfl, _, rfl, x, dx, rfl, vx.same g, hk ds rfl dx hm, by omega, fun H' g' => kk _ g'⟩
    · refine ⟨D, _, rfl, .of h1, ?_⟩
      rw [hl, all_getP]
      exact q _ g1
  | _ => exact iteF (q _ h0)
end
end Fp
/-! texts of values and steps -/
namespace Fp
open PySem PySem.Spec PyProof.Rows L2
mutual
def tokV : PyData → List Str
  | .none => ["-"]
  | .int i => [(toString i : Str)]
  | .str z => [z]
  | .tuple ds => ("(" : Str) :: (toksV ds ++ [(")" : Str)])
  | _ => []
def toksV : List PyData → List Str
  | [] => []
  | d :: ds => tokV d ++ toksV ds
end
mutual
/-- a value whose integers have short texts -/
def bndB : PyData → Bool
  | .none => true
  | .int i => decide (i.natAbs.log2 < 1920) && decide ((toString i : Str).length ≤ 20)
  | .tuple ds => bndBs ds
  | _ => false
def bndBs : List PyData → Bool
  | [] => true
  | d :: ds => bndB d && bndBs ds
end
theorem toksV_app : ∀ ds es : List PyData, toksV (ds ++ es) = toksV ds ++ toksV es
  | [], _ => by simp [toksV]
  | d :: ds, es => by rw [List.cons_append, toksV, toksV, toksV_app ds es, List.append_assoc]
theorem bndBs_all : ∀ ds : List PyData, bndBs ds = ds.all bndB
  | [] => by simp [bndBs]
  | d :: ds => by rw [bndBs, List.all_cons, bndBs_all ds]
mutual
theorem bnd_val : ∀ d : PyData, bndB d = true → valB d = true
  | .none, _ => by simp [valB]
  | .int _, _ => by simp [valB]
  | .tuple ds, h => by rw [valB]; rw [bndB] at h; exact bnds_val ds h
  | .bool _, h => by simp [bndB] at h
  | .str _, h => by simp [bndB] at h
  | .list _, h => by simp [bndB] at h
  | .dict _, h => by simp [bndB] at h
theorem bnds_val : ∀ ds : List PyData, bndBs ds = true → valBs ds = true
  | [], _ => by simp [valBs]
  | d :: ds, h => by
    rw [bndBs, Bool.and_eq_true] at h
    rw [valBs, bnd_val d h.1, bnds_val ds h.2]; rfl
end
mutual
theorem tok_len : ∀ d : PyData, bndB d = true → ∀ t ∈ tokV d, t.length ≤ 20
  | .none, _, t, ht => by rw [tokV, List.mem_singleton] at ht; subst ht; decide +kernel
  | .int i, h, t, ht => by
    rw [tokV, List.mem_singleton] at ht; subst ht
    rw [bndB, Bool.and_eq_true] at h
    exact of_decide_eq_true h.2
  | .tuple ds, h, t, ht => by
    rw [tokV] at ht
    rw [bndB] at h
    rcases List.mem_cons.mp ht with rfl | ht
    · decide +kernel
    · rcases List.mem_append.mp ht with ht | ht
      · exact toks_len ds h t ht
      · rw [List.mem_singleton] at ht; subst ht; decide +kernel
  | .bool _, h, _, _ => by simp [bndB] at h
  | .str _, h, _, _ => by simp [bndB] at h
  | .list _, h, _, _ => by simp [bndB] at h
  | .dict _, h, _, _ => by simp [bndB] at h
theorem toks_len : ∀ ds : List PyData, bndBs ds = true → ∀ t ∈ toksV ds, t.length ≤ 20
  | [], _, t, ht => by rw [toksV] at ht; cases ht
  | d :: ds, h, t, ht => by
    rw [bndBs, Bool.and_eq_true] at h
    rw [toksV] at ht
    rcases List.mem_append.mp ht with ht | ht
    · exact tok_len d h.1 t ht
    · exact toks_len ds h.2 t ht
end
def txtV (d : PyData) : Str := Txt.join " " (tokV d)
def stkB : PyData → Bool
  | .str z => decide (z = ")")
  | d => bndB d
theorem stk_pos {d : PyData} (h : stkB d = true) : 1 ≤ (tokV d).length := by
  cases d <;> first | (rw [tokV]; simp; done) | (simp [stkB, bndB] at h)
theorem stk_of {d : PyData} (h : bndB d = true) : stkB d = true := by
  cases d <;> first | exact h | simp [bndB] at h
theorem stks_pos : ∀ {es : List PyData}, es.all stkB = true → es.length ≤ (toksV es).length
  | [], _ => Nat.zero_le _
  | e :: es, h => by
    rw [List.all_cons, Bool.and_eq_true] at h
    have h1 := stk_pos h.1
    have h2 := stks_pos h.2
    rw [toksV, List.length_append, List.length_cons]
    omega
theorem DAs.rev {H : Hp} : ∀ {vs : List V} {ds : List PyData}, DAs H vs ds → DAs H vs.reverse ds.reverse
  | _, _, .nil => .nil
  | _, _, .cons h t => by rw [List.reverse_cons, List.reverse_cons]; exact t.rev.app (.cons h .nil)
theorem sum_len {N : Nat} : ∀ {ys : List Str}, (∀ y ∈ ys, y.length ≤ N) → (ys.map (·.length)).sum ≤ N * ys.length
  | [], _ => by simp
  | y :: ys, h => by
    have h1 := h y List.mem_cons_self
    have h2 := sum_len (ys := ys) fun z hz => h z (List.mem_cons_of_mem _ hz)
    rw [List.map_cons, List.sum_cons, List.length_cons, Nat.mul_succ]
    omega
theorem call_strA {X : Cx} : CallR X (.type "str") (fun xs H Q => (∃ i, xs = [.int i] ∧ i.natAbs.log2 < 1920 ∧ Q (.str (toString i)) H) ∨ ∃ a, xs = [.str a] ∧ Q (.str a) H) := by
  intro pins s σ H xs us Q I r h
  rcases h with h | h
  · exact call_str_int pins s σ H xs us Q I r h
  · exact SkE.call_str_str pins s σ H xs us Q I r h
def spValTxt : Sp := fun vs H Q _ => ∃ v d, vs = [v] ∧ DA H v d ∧ bndB d = true ∧ (tokV d).length ≤ 10000 ∧ ∀ H', Same H H' → Q (.str (txtV d)) H'
def TW (v : V) (wl ll : Addr) (d : PyData) (H : Hp) (m : Nat) (σ : L2.St) (G : Hp) : Prop := ∃ (ws : List Str) (xs : List V) (es : List PyData) (u : Option V), σ = [some v, some (.ref wl), some (.ref ll), u] ∧ Same H G ∧ G wl = some (.lst (ws.map V.str)) ∧ G ll = some (.lst xs) ∧ DAs H xs es ∧ es.all stkB = true ∧ ws ++ toksV es.reverse = tokV d ∧ (toksV es.reverse).length = m
section
variable {P : Program} {w : World} {K : PySem.W.Frag} {mg : Str → Option Value} {base : Heap} {f : Addr} {fd : FuncData} {C : Addr}
abbrev s_value_text : Stmt := top 13
theorem sc_value_text : FnScope ["value", "words", "left", "thing"] ["value"] (defScope s_value_text) := ⟨rfl, rfl, rfl, by decide +kernel, rfl, by decide +kernel, by decide +kernel⟩
theorem ok_value_text (F : Fun K "value_text" "value_text" s_value_text f fd) (T : RTx mg) : FnOk P w K mg base CX0 1 f fd ["value"] spValTxt := by
  refine F.ok sc_value_text (fun vs H Q E h => ?_) (fun cdv A outer s H vs Q E hr h => ?_)
  · obtain ⟨v, d, rfl, _⟩ := h
    rfl
  obtain ⟨v, d, rfl, hd, hb, hz, q⟩ := h
  refine ⟨_, (pss_cons (ps_set (i := 1) sc_value_text.nd rfl (Or.inl rfl) (pe_lst pa_nil))
  (pss_cons (ps_set (i := 2) sc_value_text.nd rfl (Or.inl rfl) (pe_lst (pa_cons (pv 0) pa_nil)))
  (pss_cons (ps_while PassesOwn.never (pt_truth (pv 2) (by intro _; rfl)) (pss_cons (ps_set (i := 3) sc_value_text.nd rfl (Or.inl rfl) (pe_bm0 PySem.F.plainAttrs_list PySem.F.slot_list_pop PySem.F.type_list_pop mt_pop (pv 2)))
  (pss_one (ps_if (pt_val (pe_callB call_isi rfl T.isinstance (by decide +kernel) (pa_cons (pv 3) (pa_cons (pe_bltn (v := .ty "tuple") rfl T.tuple boot_tuple rfl) pa_nil)))) (pss_cons (ps_expr (pe_bm PySem.F.plainAttrs_list PySem.F.slot_list_append PySem.F.type_list_append mt_append (pv 1) (pa_cons pe_str pa_nil)))
  (pss_cons (ps_expr (pe_bm PySem.F.plainAttrs_list PySem.F.slot_list_append PySem.F.type_list_append mt_append (pv 2) (pa_cons pe_str pa_nil)))
  (pss_one (ps_expr (pe_bm PySem.F.plainAttrs_list PySem.F.slot_list_extend PySem.F.type_list_extend mt_extendT (pv 2) (pa_cons (pe_revT (pv 3)) pa_nil)))))) (pss_one (ps_if (pt_cmpR op_isN (pv 3) pe_non (nomark _)) (pss_one (ps_expr (pe_bm PySem.F.plainAttrs_list PySem.F.slot_list_append PySem.F.type_list_append mt_append (pv 1) (pa_cons pe_str pa_nil)))) (pss_one (ps_expr (pe_bm PySem.F.plainAttrs_list PySem.F.slot_list_append PySem.F.type_list_append mt_append (pv 1) (pa_cons (pe_callTy call_strA rfl T.str (by decide +kernel) (pa_cons (pv 3) pa_nil)) pa_nil))))))))))
  (pss_one (ps_ret (pe_join pe_str (pv 1))))))), ?_⟩
  refine seq_in ?_
  refine asg_in ?_
  refine ⟨szl (by show 0 ≤ _; decide), fun wl nwl => ?_⟩
  have g1 := same_new nwl (.lst [])
  have hw1 : upd H wl (.lst []) wl = some (.lst []) := upd_same
  generalize upd H wl (.lst []) = H1 at g1 hw1 ⊢
  refine g_set ?_
  refine nx_in ?_
  refine seq_in ?_
  refine asg_in ?_
  refine ⟨_, rfl, szl (by show 1 ≤ _; decide), fun ll nll => ?_⟩
  have nll0 : H ll = none := g1.free nll
  have wll : wl ≠ ll := ne_of_none hw1 nll
  have g2 := same_new nll (.lst [v])
  refine g_set ?_
  refine nx_in ?_
  refine seq_in ?_
  refine ⟨TW v wl ll d H, ⟨(tokV d).length, [], [v], [d], _, rfl, g1.trans g2, g2 _ _ hw1, upd_same, .cons hd .nil, by rw [List.all_cons, stk_of hb]; rfl, by simp [toksV], by simp [toksV]⟩, ?_⟩
  rintro m σ G ⟨ws, xs, es, u, rfl, g, hw, hl, hds, hst, htk, hm⟩
  refine ⟨_, rfl, _, .inl ⟨xs, .of hl, rfl⟩, ?_⟩
  have hwl : ws.length ≤ 10000 := by
    have := congrArg List.length htk
    rw [List.length_append] at this
    omega
  rcases List.eq_nil_or_concat xs with rfl | ⟨ys, y, rfl⟩
  · refine ite_no rfl ?_
    refine nx_in ?_
    refine ret_in ?_
    cases hds
    have e : ws = tokV d := by simpa [toksV] using htk
    subst e
    have h1 := sum_len (tok_len d hb)
    have e1 : (" " : Str).length = 1 := by decide +kernel
    refine ⟨⟨_, rfl⟩, _, rfl, " ", wl, tokV d, rfl, rfl, .inl (.of hw), by rw [e1]; omega, q _ g⟩
  rw [List.concat_eq_append] at hl hds ⊢
  obtain ⟨es, e, rfl, hes, hye⟩ := hds.snoc_inv
  rw [List.all_append, Bool.and_eq_true] at hst
  obtain ⟨hst, hse⟩ := hst
  have hse : stkB e = true := by simpa using hse
  have hrev : toksV (es ++ [e]).reverse = tokV e ++ toksV es.reverse := by rw [List.reverse_append]; simp [toksV]
  rw [hrev] at htk hm
  rw [List.length_append] at hm
  have hpos := stk_pos hse
  have hall : ws.length + (tokV e).length + (toksV es.reverse).length ≤ 10000 := by
    have := congrArg List.length htk
    rw [List.length_append, List.length_append] at this
    omega
  have hesl : es.length ≤ (toksV es.reverse).length := by
    have := stks_pos (es := es.reverse) (by rw [List.all_reverse]; exact hst)
    rwa [List.length_reverse] at this
  have hyl := hes.len
  refine ite_yes (by simp) ⟨fun σ' G' => ∃ m', m' < m ∧ TW v wl ll d H m' σ' G', fun _ _ z => z, ?_⟩
  refine seq_in ?_
  refine asg_in ?_
  refine ⟨_, rfl, .inl ⟨rfl, _, .of hl⟩, ll, _, y, rfl, rfl, hl, by simp, ?_⟩
  rw [List.dropLast_concat]
  refine g_set ?_
  refine nx_in ?_
  have g3 : Same H (upd G ll (.lst ys)) := same_put g nll0
  have hl1 : upd G ll (.lst ys) ll = some (.lst ys) := upd_same
  have hw3 : upd G ll (.lst ys) wl = some (.lst (ws.map V.str)) := by rw [upd_ne wll]; exact hw
  generalize upd G ll (.lst ys) = G1 at g3 hl1 hw3 ⊢
  refine ⟨_, rfl, _, _, _, _, _, rfl, .ty "tuple", (hye.same g3).ty (K := K), kit_tupT e, _, rfl, ?_⟩
  have hws : (ws.map V.str).length = ws.length := List.length_map ..
  have leaf : ∀ t : Str, tokV e = [t] → ∃ m', m' < m ∧ TW v wl ll d H m' [some v, some (.ref wl), some (.ref ll), some y] (upd G1 wl (.lst (ws.map V.str ++ [.str t]))) := fun t ht => by
    rw [ht] at htk hm
    refine ⟨(toksV es.reverse).length, by simp at hm; omega, ws ++ [t], ys, es, _, rfl, same_put g3 nwl, by rw [upd_same, List.map_append]; rfl, by rw [upd_ne (Ne.symm wll)]; exact hl1, hes, hst, ?_, rfl⟩
    rw [List.append_assoc]
    exact htk
  cases hye with
  | @tup a zs ds2 ha hds2 =>
    refine iteT ?_
    have et : tokV (.tuple ds2) = ("(" : Str) :: (toksV ds2 ++ [(")" : Str)]) := by rw [tokV]
    have hb2 : bndBs ds2 = true := by
      have : bndB (.tuple ds2) = true := hse
      rwa [bndB] at this
    have hst2 : ds2.all stkB = true := List.all_eq_true.mpr fun x hx => stk_of (by rw [bndBs_all] at hb2; exact List.all_eq_true.mp hb2 x hx)
    have hz2 := hds2.len
    have hz3 := stks_pos hst2
    rw [et] at htk hm hall
    simp only [List.length_cons, List.length_append, List.length_nil] at hm hall
    refine seq_in ?_
    refine ⟨_, rfl, .inl ⟨rfl, _, .of hw3⟩, wl, _, _, rfl, rfl, hw3, szt (by rw [hws]; omega), ?_⟩
    refine nx_in ?_
    have g4 := same_put (o := .lst (ws.map V.str ++ [V.str "("])) g3 nwl
    have hl4 : upd G1 wl (.lst (ws.map V.str ++ [V.str "("])) ll = some (.lst ys) := by rw [upd_ne (Ne.symm wll)]; exact hl1
    have hw4 : upd G1 wl (.lst (ws.map V.str ++ [V.str "("])) wl = some (.lst ((ws ++ [("(" : Str)]).map V.str)) := by rw [upd_same, List.map_append]; rfl
    generalize upd G1 wl (.lst (ws.map V.str ++ [V.str "("])) = G4 at g4 hl4 hw4 ⊢
    refine seq_in ?_
    refine ⟨_, rfl, .inl ⟨rfl, _, .of hl4⟩, ll, _, _, rfl, rfl, hl4, szt (by omega), ?_⟩
    refine nx_in ?_
    have g5 := same_put (o := .lst (ys ++ [V.str ")"])) g4 nll0
    have hl5 : upd G4 ll (.lst (ys ++ [V.str ")"])) ll = some (.lst (ys ++ [V.str ")"])) := upd_same
    have hw5 : upd G4 ll (.lst (ys ++ [V.str ")"])) wl = some (.lst ((ws ++ [("(" : Str)]).map V.str)) := by rw [upd_ne wll]; exact hw4
    generalize upd G4 ll (.lst (ys ++ [V.str ")"])) = G5 at g5 hl5 hw5 ⊢
    refine ⟨_, rfl, .inl ⟨rfl, _, .of hl5⟩, _, rfl, a, zs, rfl, .of (g5 _ _ ha), fun r nr => ?_⟩
    have s6 := same_new nr (.tup zs.reverse)
    have g6 := g5.trans s6
    refine ⟨ll, r, _, zs.reverse, rfl, rfl, s6 _ _ hl5, .of upd_same, szl (by simp; omega), ?_⟩
    refine ⟨(toksV (es ++ [PyData.str ")"] ++ ds2.reverse).reverse).length, ?_, ws ++ [("(" : Str)], ys ++ [V.str ")"] ++ zs.reverse, es ++ [PyData.str ")"] ++ ds2.reverse, _, rfl, same_put g6 nll0, by rw [upd_ne wll]; exact s6 _ _ hw5, upd_same, (hes.app (.cons (.str _) .nil)).app hds2.rev, ?_, ?_, rfl⟩
    · simp only [List.reverse_append, List.reverse_reverse, toksV_app, List.length_append]
      simp [toksV, tokV]
      omega
    · rw [List.all_append, List.all_append, List.all_reverse, hst, hst2]
      simp [stkB]
    · rw [← htk]
      simp only [List.reverse_append, List.reverse_reverse, toksV_app]
      simp [toksV, tokV]
  | non =>
    refine iteF ⟨_, rfl, rfl, _, rfl, iteT ?_⟩
    refine ⟨_, rfl, .inl ⟨rfl, _, .of hw3⟩, wl, _, _, rfl, rfl, hw3, szt (by rw [hws]; omega), ?_⟩
    exact leaf "-" (by rw [tokV])
  | int i =>
    have hi : i.natAbs.log2 < 1920 := by
      have : bndB (.int i) = true := hse
      rw [bndB, Bool.and_eq_true] at this
      exact of_decide_eq_true this.1
    refine iteF ⟨_, rfl, rfl, _, rfl, iteF ?_⟩
    refine ⟨_, rfl, .inl ⟨rfl, _, .of hw3⟩, _, rfl, .inl ⟨i, rfl, hi, ?_⟩⟩
    refine ⟨wl, _, _, rfl, rfl, hw3, szt (by rw [hws]; omega), ?_⟩
    exact leaf (toString i) (by rw [tokV])
  | str z =>
    refine iteF ⟨_, rfl, rfl, _, rfl, iteF ?_⟩
    refine ⟨_, rfl, .inl ⟨rfl, _, .of hw3⟩, _, rfl, .inr ⟨z, rfl, ?_⟩⟩
    refine ⟨wl, _, _, rfl, rfl, hw3, szt (by rw [hws]; omega), ?_⟩
    exact leaf z (by rw [tokV])
  | bl b => simp [stkB, bndB] at hse
  | lst h t => simp [stkB, bndB] at hse
  | dct h => simp [stkB, bndB] at hse
end
end Fp
/-! texts of steps -/
namespace TL
open PySem
theorem joinL_app {S : List Nat} : ∀ {a b : List (List Nat)}, a ≠ [] → b ≠ [] → joinL S (a ++ b) = joinL S a ++ (S ++ joinL S b)
  | [], _, h, _ => absurd rfl h
  | [p], [], _, h => absurd rfl h
  | [p], q :: r, _, _ => rfl
  | p :: q :: r, b, _, hb => by
    show p ++ (S ++ joinL S ((q :: r) ++ b)) = (p ++ (S ++ joinL S (q :: r))) ++ (S ++ joinL S b)
    rw [joinL_app (by simp) hb]
    simp
theorem joinL_flat {S : List Nat} : ∀ {L : List (List (List Nat))}, (∀ l ∈ L, l ≠ []) → joinL S (L.map (joinL S)) = joinL S L.flatten
  | [], _ => rfl
  | [l], _ => by simp [joinL]
  | l :: m :: r, h => by
    have ih := joinL_flat (S := S) (L := m :: r) fun x hx => h x (List.mem_cons_of_mem _ hx)
    have h1 := h l List.mem_cons_self
    have h2 : (m :: r).flatten ≠ [] := by
      rw [List.flatten_cons]
      exact fun z => h m (by simp) (List.append_eq_nil_iff.mp z).1
    show joinL S l ++ (S ++ joinL S ((m :: r).map (joinL S))) = joinL S (l ++ (m :: r).flatten)
    rw [ih, joinL_app h1 h2]
theorem join_flat (y : Str) {L : List (List Str)} (h : ∀ l ∈ L, l ≠ []) : Txt.join y (L.map (Txt.join y)) = Txt.join y L.flatten := by
  refine ext_tl ?_
  rw [join_eq, join_eq, tl_join, tl_join, List.map_map]
  have e : (L.map (tl ∘ Txt.join y)) = (L.map (·.map tl)).map (joinL (tl y)) := by
    rw [List.map_map]
    refine List.map_congr_left fun l _ => ?_
    show tl (Txt.join y l) = joinL (tl y) (l.map tl)
    rw [join_eq, tl_join]
  rw [e, joinL_flat, List.map_flatten]
  intro l hl
  obtain ⟨m, hm, rfl⟩ := List.mem_map.mp hl
  exact fun z => h m hm (List.map_eq_nil_iff.mp z)
theorem join_two (y a b : Str) {l : List Str} (h : l ≠ []) : ((((Str.empty ++ a) ++ y) ++ b) ++ y) ++ Txt.join y l = Txt.join y (a :: b :: l) := by
  refine ext_tl ?_
  obtain ⟨c, r, rfl⟩ := List.exists_cons_of_ne_nil h
  rw [join_eq, join_eq, tl_join]
  simp only [tl_append, tl_join]
  show ((((tl Str.empty ++ tl a) ++ tl y) ++ tl b) ++ tl y) ++ _ = tl a ++ (tl y ++ (tl b ++ (tl y ++ joinL (tl y) ((c :: r).map tl))))
  have e0 : tl Str.empty = [] := rfl
  rw [e0]
  simp
end TL
namespace Fp
open PySem PySem.Spec PyProof.Rows L2
theorem tok_ne : ∀ {d : PyData}, bndB d = true → tokV d ≠ [] := fun {d} h => by
  have := stk_pos (stk_of h)
  intro z
  rw [z] at this
  simp at this
theorem toksV_flat : ∀ ds : List PyData, toksV ds = (ds.map tokV).flatten
  | [] => by simp [toksV]
  | d :: ds => by rw [toksV, toksV_flat ds, List.map_cons, List.flatten_cons]
theorem join_txt {ds : List PyData} (h : ds.all bndB = true) : Txt.join " " (ds.map txtV) = Txt.join " " (toksV ds) := by
  rw [toksV_flat]
  have e : ds.map txtV = (ds.map tokV).map (Txt.join " ") := by rw [List.map_map]; rfl
  rw [e, TL.join_flat]
  intro l hl
  obtain ⟨d, hd, rfl⟩ := List.mem_map.mp hl
  exact tok_ne (List.all_eq_true.mp h d hd)
/-- what stands behind a step's kind -/
def thingsOf (k : Str) (m : PyData) : List PyData := if k = "look" ∨ k = "ask" ∨ k = "answer" then (match m with | .tuple ds => ds | _ => []) else [m]
def stepToks : PyData → List Str
  | .tuple [.int h, .str k, m] => if k = "forget" then [(toString h : Str), k] else (toString h : Str) :: k :: toksV (thingsOf k m)
  | _ => []
def stepT (d : PyData) : Str := Txt.join " " (stepToks d)
/-- a step with a short text -/
structure StOk (d : PyData) : Prop where
  st : stepB d = true
  bnd : ∀ h k m, d = .tuple [h, k, m] → bndB m = true ∧ (tokV m).length ≤ 10000
theorem StOk.of {d : PyData} (h : StOk d) : ∃ (i : Int) (k : Str) (m : PyData), d = .tuple [.int i, .str k, m] ∧ 0 ≤ i ∧ i < 6 ∧ matS k m = true ∧ bndB m = true ∧ (tokV m).length ≤ 10000 := by
  have s := h.st
  unfold stepB at s
  split at s
  · rename_i hh kk m
    rw [Bool.and_eq_true] at s
    have b := h.bnd hh kk m rfl
    cases hh with
    | int i =>
      cases kk with
      | str k => exact ⟨i, k, m, rfl, (of_decide_eq_true s.1).1, (of_decide_eq_true s.1).2, s.2, b.1, b.2⟩
      | _ => cases s.2
    | _ => cases s.1
  · cases s
theorem kind_of {k : Str} {m : PyData} (h : matS k m = true) : (k = "write" ∧ valB m = true) ∨ (k = "look" ∧ lookB m = true) ∨ (k = "say" ∧ wordB m = true) ∨ ((k = "ask" ∨ k = "answer") ∧ boxB m = true) ∨ (k = "forget" ∧ isNon m = true) := by
  unfold matS at h
  split at h
  · exact .inl ⟨‹_›, h⟩
  split at h
  · exact .inr (.inl ⟨‹_›, h⟩)
  split at h
  · exact .inr (.inr (.inl ⟨‹_›, h⟩))
  split at h
  · exact .inr (.inr (.inr (.inl ⟨‹_›, h⟩)))
  split at h
  · exact .inr (.inr (.inr (.inr ⟨‹_›, h⟩)))
  · cases h
/-- the things of a step are short values, one at least -/
theorem things_ok {k : Str} {m : PyData} (h : matS k m = true) (hb : bndB m = true) (hk : k ≠ "forget") : (thingsOf k m).all bndB = true ∧ thingsOf k m ≠ [] ∧ (toksV (thingsOf k m)).length ≤ (tokV m).length ∧ ((k = "look" ∨ k = "ask" ∨ k = "answer") → ∃ ds, m = .tuple ds ∧ thingsOf k m = ds) ∧ (¬ (k = "look" ∨ k = "ask" ∨ k = "answer") → thingsOf k m = [m]) := by
  by_cases c : k = "look" ∨ k = "ask" ∨ k = "answer"
  · have hm : ∃ ds, m = .tuple ds ∧ ds ≠ [] := by
      rcases kind_of h with ⟨rfl, _⟩ | ⟨rfl, e⟩ | ⟨rfl, _⟩ | ⟨_, e⟩ | ⟨rfl, _⟩
      · exact absurd c (by decide +kernel)
      · cases m with
        | tuple ds =>
          refine ⟨ds, rfl, fun z => ?_⟩
          subst z
          cases e
        | _ => cases e
      · exact absurd c (by decide +kernel)
      · cases m with
        | tuple ds =>
          refine ⟨ds, rfl, fun z => ?_⟩
          subst z
          cases e
        | _ => cases e
      · exact absurd rfl hk
    obtain ⟨ds, rfl, hne⟩ := hm
    have e : thingsOf k (.tuple ds) = ds := by unfold thingsOf; rw [if_pos c]
    rw [e]
    refine ⟨by rw [bndB, bndBs_all] at hb; exact hb, hne, ?_, fun _ => ⟨ds, rfl, rfl⟩, fun z => absurd c z⟩
    rw [tokV]
    simp
    omega
  · have e : thingsOf k m = [m] := by unfold thingsOf; rw [if_neg c]
    rw [e]
    refine ⟨by rw [List.all_cons, hb]; rfl, by simp, by simp [toksV], fun z => absurd z c, fun _ => rfl⟩
theorem figs6 {i : Int} (h0 : 0 ≤ i) (h6 : i < 6) : i.natAbs.log2 < 1920 ∧ (toString i : Str).length ≤ 20 := by
  rcases (show i = 0 ∨ i = 1 ∨ i = 2 ∨ i = 3 ∨ i = 4 ∨ i = 5 by omega) with rfl | rfl | rfl | rfl | rfl | rfl <;> decide +kernel
theorem toks_mem {d : PyData} : ∀ {ds : List PyData}, d ∈ ds → (tokV d).length ≤ (toksV ds).length
  | e :: ds, h => by
    rw [toksV, List.length_append]
    rcases List.mem_cons.mp h with rfl | h
    · omega
    · have := toks_mem h; omega
theorem toks_nil {ds : List PyData} (hb : ds.all bndB = true) (h : ds ≠ []) : toksV ds ≠ [] := by
  obtain ⟨d, r, rfl⟩ := List.exists_cons_of_ne_nil h
  rw [toksV]
  rw [List.all_cons, Bool.and_eq_true] at hb
  exact fun z => tok_ne hb.1 (List.append_eq_nil_iff.mp z).1
theorem str_alen (a b : Str) : (a ++ b).length = a.length + b.length := by
  rw [len_sg, len_sg, len_sg, str_app, List.length_append]
theorem txt_len {d : PyData} (h : bndB d = true) : (txtV d).length ≤ 21 * (tokV d).length := by
  unfold txtV
  rw [TL.join_eq]
  have h1 := StrLaws.join_length_le (" " : Str) (tokV d)
  have h2 := sum_len (tok_len d h)
  have e1 : (" " : Str).length = 1 := by decide +kernel
  rw [e1] at h1
  omega
theorem txts_len : ∀ {ds : List PyData}, ds.all bndB = true → ((ds.map txtV).map (·.length)).sum ≤ 21 * (toksV ds).length
  | [], _ => by simp
  | d :: ds, h => by
    rw [List.all_cons, Bool.and_eq_true] at h
    have h1 := txt_len h.1
    have h2 := txts_len h.2
    rw [toksV, List.length_append, List.map_cons, List.map_cons, List.sum_cons]
    omega
theorem kind_len {k : Str} {m : PyData} (h : matS k m = true) : k.length ≤ 10 := by
  rcases kind_of h with ⟨rfl, _⟩ | ⟨rfl, _⟩ | ⟨rfl, _⟩ | ⟨rfl | rfl, _⟩ | ⟨rfl, _⟩ <;> decide +kernel
theorem forget_join (a : Str) : (Str.empty ++ a) ++ (" forget" : Str) = Txt.join " " [a, "forget"] := by
  refine TL.ext_tl ?_
  have e : TL.tl (" forget" : Str) = TL.tl (" " : Str) ++ TL.tl ("forget" : Str) := by decide +kernel
  have e0 : TL.tl Str.empty = [] := rfl
  rw [TL.tl_append, TL.tl_append, e, e0, TL.join_eq, TL.tl_join]
  rfl
theorem inV3 (z a b c : Str) : (if false = true then !inV (.str z) [V.str a, V.str b, V.str c] else inV (.str z) [V.str a, V.str b, V.str c]) = decide (z = a ∨ z = b ∨ z = c) := by
  show inV (.str z) [V.str a, V.str b, V.str c] = _
  unfold inV
  rw [Bool.eq_iff_iff, List.any_eq_true, decide_eq_true_iff]
  simp only [List.mem_cons, List.not_mem_nil, or_false]
  constructor
  · rintro ⟨x, rfl | rfl | rfl, h⟩
    · exact .inl ((beq_iff_eq.mp h).symm)
    · exact .inr (.inl ((beq_iff_eq.mp h).symm))
    · exact .inr (.inr ((beq_iff_eq.mp h).symm))
  · rintro (rfl | rfl | rfl)
    · exact ⟨_, .inl rfl, beq_self_eq_true _⟩
    · exact ⟨_, .inr (.inl rfl), beq_self_eq_true _⟩
    · exact ⟨_, .inr (.inr rfl), beq_self_eq_true _⟩
def spStepTxt : Sp := fun vs H Q _ => ∃ v d, vs = [v] ∧ DA H v d ∧ StOk d ∧ ∀ H', Same H H' → Q (.str (stepT d)) H'
abbrev RS : Hp → V → Str → Prop := fun _ v z => v = .str z
theorem stab_str : Stab RS := ⟨fun _ h => h, fun _ h => h⟩
theorem coll_strs {H1 H : Hp} {D : Addr} {l : List Str} (h : Coll H1 D RS H l) : Same H1 H ∧ H D = some (.lst (l.map V.str)) := by
  obtain ⟨g, acc, e, p⟩ := h
  refine ⟨g, ?_⟩
  have : acc = l.map V.str := by
    clear e
    induction p with
    | nil => rfl
    | cons h _ ih => rw [h, ih]; rfl
  rw [← this]; exact e
section
variable {P : Program} {w : World} {K : PySem.W.Frag} {mg : Str → Option Value} {base : Heap} {f : Addr} {fd : FuncData} {C : Addr}
abbrev s_step_text : Stmt := top 21
theorem sc_step_text : FnScope ["step", "hand", "kind", "matter", "things", "thing"] ["step"] (defScope s_step_text) := ⟨rfl, rfl, rfl, by decide +kernel, rfl, by decide +kernel, by decide +kernel⟩
theorem ok_step_text (F : Fun K "step_text" "step_text" s_step_text f fd) (T : RTx mg) (G_value_text : Fd P w K mg base CX0 "value_text" 1 ["value"] spValTxt) : FnOk P w K mg base CX0 2 f fd ["step"] spStepTxt := by
  refine F.ok sc_step_text (fun vs H Q E h => ?_) (fun cdv A outer s H vs Q E hr h => ?_)
  · obtain ⟨v, d, rfl, _⟩ := h
    rfl
  obtain ⟨v, d, rfl, hd, ho, q⟩ := h
  refine ⟨_, (pss_cons (ps_asg (pv 0) (pg_tup rfl (pgs_cons (pg_name (i := 1) sc_step_text.nd rfl (Or.inl rfl)) (pgs_cons (pg_name (i := 2) sc_step_text.nd rfl (Or.inl rfl)) (pgs_cons (pg_name (i := 3) sc_step_text.nd rfl (Or.inl rfl)) pgs_nil)))))
  (pss_cons (ps_if (pt_cmpR op_eq (pv 2) pe_str (nomark _)) (pss_one (ps_ret (pe_joined (PJ.cons (pe_fmt (pv 1)) (PJ.cons pe_str PJ.nil))))) pss_nil)
  (pss_cons (ps_set (i := 4) sc_step_text.nd rfl (Or.inl rfl) (pe_mid (pe_ifExp (pt_cmpR op_in_seq (pv 2) (pe_tup (pa_cons pe_str (pa_cons pe_str (pa_cons pe_str pa_nil)))) rfl) (pv 3) (pe_tup (pa_cons (pv 3) pa_nil)))))
  (pss_one (ps_ret (pe_op op_add_str (pe_joined (PJ.cons (pe_fmt (pv 1)) (PJ.cons pe_str (PJ.cons (pe_fmt (pv 2)) (PJ.cons pe_str PJ.nil))))) (pe_join pe_str (pe_lc (own := [("thing", 5)]) (g := (gName 5)) (tt := tYes) rfl sc_step_text.nd (pi_tup (pv 4)) (blkOk_by (own := [("thing", 5)]) (N := ["step", "hand", "kind", "matter", "things", "thing"]) (sc := defScope s_step_text) (by decide +kernel)) (fun _ _ _ _ _ => (pg_name (i := 5) sc_step_text.nd rfl (Or.inl rfl))) (fun _ _ _ _ _ => pts_nil) (fun _ _ _ _ _ => (pe_fd G_value_text (hr.mono (by first | decide | omega)) rfl (pa_cons (pv 5) pa_nil))))))))))), ?_⟩
  obtain ⟨i, k, m, rfl, h0, h6, hm, hb, hz⟩ := ho.of
  cases hd with
  | @tup a xs ds ha hds =>
    match xs, hds with
    | [x, y, z], .cons hx (.cons hy (.cons hz' .nil)) =>
      cases hx
      cases hy
      obtain ⟨hil, hin⟩ := figs6 h0 h6
      have hkl := kind_len hm
      have h0' : Same H H := Same.refl H
      have e0 : (Str.empty : Str).length = 0 := rfl
      have e1 : (" " : Str).length = 1 := by decide +kernel
      have e7 : (" forget" : Str).length = 7 := by decide +kernel
      refine seq_in ?_
      refine asg_in ?_
      refine ⟨_, rfl, a, _, rfl, .of ha, rfl, _, _, rfl, _, _, rfl, _, _, rfl, rfl, ?_⟩
      refine nx_in ?_
      refine seq_in ?_
      refine ⟨_, rfl, rfl, _, rfl, ?_⟩
      rw [vstr_eq]
      refine ite2 (fun c => ?_) (fun c => ?_)
      · have c := of_decide_eq_true c
        refine ret_in ?_
        refine ⟨_, rfl, .inr ⟨i, rfl, hil, _, rfl, szl (by rw [str_alen]; omega), _, rfl, szl (by rw [str_alen, str_alen]; omega), ?_⟩⟩
        rw [forget_join]
        unfold stepT stepToks at q
        simp only [if_pos c] at q
        rw [c] at q
        exact q _ h0'
      have c0 : k ≠ "forget" := of_decide_eq_false (by simpa using c)
      obtain ⟨tb, tne, tlen, tin, tout⟩ := things_ok hm hb c0
      refine next_in ?_
      refine nx_in ?_
      refine seq_in ?_
      refine asg_in ?_
      refine ⟨fun y G => ∃ t zs, y = .ref t ∧ Same H G ∧ G t = some (.tup zs) ∧ DAs G zs (thingsOf k m), ?_, ?_⟩
      · refine ⟨_, rfl, szl (by show 3 ≤ _; decide), fun t nt => ?_⟩
        have g1 := same_new nt (.tup [.str "look", .str "ask", .str "answer"])
        refine ⟨t, _, rfl, .inr (.of upd_same), rfl, rfl, _, rfl, ?_⟩
        rw [inV3]
        refine ite2 (fun c => ?_) (fun c => ?_)
        · obtain ⟨ds, rfl, e⟩ := tin (of_decide_eq_true c)
          cases hz' with
          | @tup b zs _ hb' hzs => exact ⟨_, rfl, b, zs, rfl, g1, g1 _ _ hb', by rw [e]; exact hzs.same g1⟩
        · have e := tout (of_decide_eq_false (by simpa using c))
          refine ⟨_, rfl, szl (by show 1 ≤ _; decide), fun t2 nt2 => ?_⟩
          have g2 := same_new nt2 (.tup [z])
          exact ⟨t2, _, rfl, g1.trans g2, upd_same, by rw [e]; exact .cons ((hz'.same g1).same g2) .nil⟩
      · rintro y G ⟨t, zs, rfl, g, ht, hzs⟩
        refine g_set ?_
        refine nx_in ?_
        refine ret_in ?_
        refine ⟨_, rfl, .inr ⟨i, rfl, hil, _, rfl, szl (by rw [str_alen]; omega), _, rfl, szl (by rw [str_alen, str_alen]; omega), _, rfl, .inl ⟨k, rfl, szl (by omega), _, rfl, szl (by rw [str_alen, str_alen, str_alen]; omega), _, rfl, szl (by rw [str_alen, str_alen, str_alen, str_alen]; omega), ?_⟩⟩⟩
        have hzl := hzs.len
        have hcount : (thingsOf k m).length ≤ 10000 := by
          have := stks_pos (es := thingsOf k m) (List.all_eq_true.mpr fun x hx => stk_of (List.all_eq_true.mp tb x hx))
          omega
        refine ⟨⟨_, rfl⟩, _, rfl, t, rfl, ⟨_, .of ht⟩, fun D hD => ?_⟩
        refine lc_coll (R := RS) (walk_tup (xs := zs)) (fun i => [txtV ((thingsOf k m).getD i .none)]) hD (fun H' g => .of (g _ _ ht)) ?_ ?_
        · rintro j x H2 H3 hj cc ⟨rfl, hx⟩ M hM
          obtain ⟨dx, hdx, vx⟩ := DAs.at_ hzs hx
          have hmx : dx ∈ thingsOf k m := List.mem_of_getElem? hdx
          have hbx := List.all_eq_true.mp tb dx hmx
          have hlx : (tokV dx).length ≤ (toksV (thingsOf k m)).length := toks_mem hmx
          refine ⟨rfl, yes_in ?_⟩
          refine ⟨_, rfl, x, dx, rfl, vx.same cc.1, hbx, by omega, fun H4 g4 => ?_⟩
          refine coll_app stab_str hD cc g4 (a := txtV dx) rfl ?_ ?_
          · rw [fm_one, List.length_map, List.length_range]; omega
          · intro H5 c5
            refine hM H5 ?_
            rw [show (thingsOf k m).getD j .none = dx by rw [List.getD_eq_getElem?_getD, hdx] <;> rfl]
            exact c5
        · intro H2 cc
          obtain ⟨g2, hacc⟩ := coll_strs cc
          rw [hzl, fm_getD (fun d => [txtV d]) .none, fm_one] at hacc
          have hs := txts_len tb
          refine ⟨" ", D, _, rfl, rfl, .inl (.of hacc), by rw [e1, List.length_map]; omega, ?_⟩
          have hj := StrLaws.join_length_le (" " : Str) ((thingsOf k m).map txtV)
          rw [← TL.join_eq, e1, List.length_map] at hj
          refine ⟨_, _, rfl, rfl, szl (by rw [str_alen, str_alen, str_alen, str_alen]; omega), ?_⟩
          have tne2 : (thingsOf k m).map txtV ≠ [] := fun z => tne (List.map_eq_nil_iff.mp z)
          unfold stepT stepToks at q
          simp only [if_neg c0] at q
          rw [join_txt tb, TL.join_two " " (toString i) k (toks_nil tb tne)]
          exact q _ (g.trans g2)
end
end Fp
/-! values and steps read -/
namespace Fp
open PySem PySem.Spec PyProof.Rows L2
def spIntIn : Sp := fun vs H Q _ => ∃ w : Str, vs = [.str w] ∧ w.length ≤ 640 ∧ ∀ H', Same H H' → Q (optI (intIn w)) H'
/-- one word read: the levels, the innermost first -/
def vstep (st : List (List PyData)) (w : Str) : Option (List (List PyData)) :=
  if w = "(" then some ([] :: st)
  else if w = ")" then match st with
    | top :: nxt :: r => some ((nxt ++ [.tuple top]) :: r)
    | _ => none
  else if w = "-" then match st with
    | top :: r => some ((top ++ [.none]) :: r)
    | [] => none
  else match intIn w, st with
    | some n, top :: r => some ((top ++ [.int n]) :: r)
    | _, _ => none
def vrun : List (List PyData) → List Str → Option (List (List PyData))
  | st, [] => some st
  | st, w :: ws => match vstep st w with
    | some st' => vrun st' ws
    | none => none
def valsIn (ws : List Str) : Option (List PyData) := match vrun [[]] ws with
  | some [l] => some l
  | _ => none
theorem vrun_snoc {ws : List Str} {w : Str} : ∀ {st : List (List PyData)}, vrun st (ws ++ [w]) = (match vrun st ws with | some s => vstep s w | none => none) := by
  induction ws with
  | nil => intro st; simp only [List.nil_append, vrun]; cases vstep st w <;> rfl
  | cons a ws ih =>
    intro st
    rw [List.cons_append, vrun, vrun]
    cases vstep st a with
    | none => rfl
    | some s => exact ih
theorem vrun_none {ws vs : List Str} : ∀ {st : List (List PyData)}, vrun st ws = none → vrun st (ws ++ vs) = none := by
  induction ws with
  | nil => intro st h; cases h
  | cons a ws ih =>
    intro st h
    rw [List.cons_append, vrun]
    rw [vrun] at h
    cases e : vstep st a with
    | none => rfl
    | some s => rw [e] at h; exact ih h
mutual
theorem DA.keep {H H' : Hp} (g : ∀ {a xs}, H a = some (.tup xs) → H' a = some (.tup xs)) : ∀ {v : V} {d : PyData}, DA H v d → valB d = true → DA H' v d
  | _, _, .non, _ => .non
  | _, _, .bl b, _ => .bl b
  | _, _, .int i, _ => .int i
  | _, _, .str z, _ => .str z
  | _, _, .tup h t, e => .tup (g h) (DAs.keep g t (by rwa [valB] at e))
  | _, _, .lst h t, e => by simp [valB] at e
  | _, _, .dct h, e => by simp [valB] at e
theorem DAs.keep {H H' : Hp} (g : ∀ {a xs}, H a = some (.tup xs) → H' a = some (.tup xs)) : ∀ {vs : List V} {ds : List PyData}, DAs H vs ds → valBs ds = true → DAs H' vs ds
  | _, _, .nil, _ => .nil
  | _, _, .cons h t, e => by
    rw [valBs, Bool.and_eq_true] at e
    exact .cons (DA.keep g h e.1) (DAs.keep g t e.2)
end
/-- the levels in the heap, the innermost first -/
inductive Lvs (H : Hp) : List Addr → List (List PyData) → Prop where
  | nil : Lvs H [] []
  | cons {a as xs ds st} : H a = some (.lst xs) → DAs H xs ds → valBs ds = true → a ∉ as → Lvs H as st → Lvs H (a :: as) (ds :: st)
theorem Lvs.keep {H H' : Hp} (g : ∀ {a xs}, H a = some (.tup xs) → H' a = some (.tup xs)) : ∀ {as : List Addr} {st : List (List PyData)}, Lvs H as st → (∀ a ∈ as, ∀ xs, H a = some (.lst xs) → H' a = some (.lst xs)) → Lvs H' as st
  | _, _, .nil, _ => .nil
  | _, _, .cons h d v n t, k => .cons (k _ List.mem_cons_self _ h) (d.keep g v) v n (t.keep g fun a ha => k a (List.mem_cons_of_mem _ ha))
theorem Lvs.len {H : Hp} : ∀ {as : List Addr} {st : List (List PyData)}, Lvs H as st → as.length = st.length
  | _, _, .nil => rfl
  | _, _, .cons _ _ _ _ t => by rw [List.length_cons, List.length_cons, t.len]
theorem Lvs.at_ {H : Hp} : ∀ {as : List Addr} {st : List (List PyData)}, Lvs H as st → ∀ a ∈ as, ∃ xs, H a = some (.lst xs)
  | _, _, .cons h _ _ _ t, a, ha => by
    rcases List.mem_cons.mp ha with rfl | ha
    · exact ⟨_, h⟩
    · exact t.at_ a ha
structure VS (L : Addr) (H : Hp) (n : Nat) (as : List Addr) (st : List (List PyData)) (G : Hp) : Prop where
  g : Same H G
  hL : G L = some (.lst (as.reverse.map V.ref))
  lv : Lvs G as st
  nL : L ∉ as
  fL : H L = none
  fr : ∀ x ∈ as, H x = none
  few : as.length ≤ n + 1
  top : ∀ ds ∈ st, ds.length ≤ n
section
variable {L b c : Addr} {H G G' : Hp} {n : Nat} {as r : List Addr} {st : List (List PyData)} {ds top nxt : List PyData} {x : V} {d : PyData}
theorem VS.same (S : VS L H n as st G) (g : Same G G') : VS L H n as st G' := ⟨S.g.trans g, g _ _ S.hL, S.lv.keep (fun h => g _ _ h) fun a _ xs h => g _ _ h, S.nL, S.fL, S.fr, S.few, S.top⟩
theorem VS.push (S : VS L H n (b :: r) (ds :: st) G) (hx : DA G x d) (hv : valB d = true) : ∃ xs, G b = some (.lst xs) ∧ xs.length ≤ n ∧ VS L H (n + 1) (b :: r) ((ds ++ [d]) :: st) (upd G b (.lst (xs ++ [x]))) := by
  have lv := S.lv
  have hbL : L ≠ b := fun z => S.nL (by rw [z]; exact List.mem_cons_self)
  cases lv with
  | @cons _ _ xs _ _ h hd hvs hn t =>
    have kt : ∀ {a : Addr} {ys : List V}, G a = some (.tup ys) → upd G b (.lst (xs ++ [x])) a = some (.tup ys) := fun {a ys} e => by
      rw [upd_ne (fun z => by rw [z, h] at e; cases e)]; exact e
    have hl := hd.len
    have htop := S.top ds List.mem_cons_self
    refine ⟨xs, h, by omega, same_put S.g (S.fr b List.mem_cons_self), by rw [upd_ne hbL]; exact S.hL, .cons upd_same ((hd.keep kt hvs).app (.cons (hx.keep kt hv) .nil)) (by rw [valBs_app, hvs]; simp [valBs, hv]) hn (t.keep kt fun a ha ys e => by rw [upd_ne (fun z => hn (by rw [← z]; exact ha))]; exact e), S.nL, S.fL, S.fr, Nat.le_succ_of_le S.few, fun es he => ?_⟩
    rcases List.mem_cons.mp he with rfl | he
    · rw [List.length_append]; simp; omega
    · exact Nat.le_succ_of_le (S.top es (List.mem_cons_of_mem _ he))
theorem VS.open_ (S : VS L H n as st G) (nb : G b = none) : VS L H (n + 1) (b :: as) ([] :: st) (upd (upd G b (.lst [])) L (.lst (as.reverse.map V.ref ++ [.ref b]))) := by
  have hbL : b ≠ L := fun z => by rw [z, S.hL] at nb; cases nb
  have g1 := same_new nb (.lst [])
  have S1 := S.same g1
  have kt : ∀ {a : Addr} {ys : List V}, upd G b (.lst []) a = some (.tup ys) → upd (upd G b (.lst [])) L (.lst (as.reverse.map V.ref ++ [.ref b])) a = some (.tup ys) := fun {a ys} e => by
    rw [upd_ne (fun z => by rw [z, S1.hL] at e; cases e)]; exact e
  have kl : ∀ a ∈ as, ∀ xs, upd G b (.lst []) a = some (.lst xs) → upd (upd G b (.lst [])) L (.lst (as.reverse.map V.ref ++ [.ref b])) a = some (.lst xs) := fun a ha xs e => by
    rw [upd_ne (fun z => S.nL (by rw [← z]; exact ha))]; exact e
  have nb' : b ∉ as := fun m => by
    obtain ⟨xs, e⟩ := S.lv.at_ b m
    rw [nb] at e; cases e
  refine ⟨same_put S1.g S.fL, by rw [upd_same, List.reverse_cons, List.map_append]; rfl, .cons (by rw [upd_ne hbL]; exact upd_same) .nil (by simp [valBs]) nb' (S1.lv.keep kt kl), ?_, S.fL, fun y hy => ?_, by rw [List.length_cons]; have := S.few; omega, fun es he => ?_⟩
  · exact fun m => (List.mem_cons.mp m).elim (fun e => hbL e.symm) S.nL
  · rcases List.mem_cons.mp hy with rfl | hy
    · exact S.g.free nb
    · exact S.fr y hy
  · rcases List.mem_cons.mp he with rfl | he
    · simp
    · exact Nat.le_succ_of_le (S.top es he)
theorem VS.close (S : VS L H n (b :: c :: r) (top :: nxt :: st) G) : ∃ xs, G b = some (.lst xs) ∧ L ≠ b ∧ ∀ t, upd G L (.lst ((c :: r).reverse.map V.ref)) t = none → VS L H n (c :: r) (nxt :: st) (upd (upd G L (.lst ((c :: r).reverse.map V.ref))) t (.tup xs)) ∧ DA (upd (upd G L (.lst ((c :: r).reverse.map V.ref))) t (.tup xs)) (.ref t) (.tuple top) ∧ valBs top = true := by
  have lv := S.lv
  have hbL : L ≠ b := fun z => S.nL (by rw [z]; exact List.mem_cons_self)
  cases lv with
  | @cons _ _ xs _ _ h hd hvs hn t =>
    refine ⟨xs, h, hbL, fun a na => ?_⟩
    have kt : ∀ {a : Addr} {ys : List V}, G a = some (.tup ys) → upd G L (.lst ((c :: r).reverse.map V.ref)) a = some (.tup ys) := fun {a ys} e => by
      rw [upd_ne (fun z => by rw [z, S.hL] at e; cases e)]; exact e
    have S1 : VS L H n (c :: r) (nxt :: st) (upd G L (.lst ((c :: r).reverse.map V.ref))) := ⟨same_put S.g S.fL, upd_same, t.keep kt fun a ha ys e => by rw [upd_ne (fun z => S.nL (by rw [← z]; exact List.mem_cons_of_mem _ ha))]; exact e, fun m => S.nL (List.mem_cons_of_mem _ m), S.fL, fun y hy => S.fr y (List.mem_cons_of_mem _ hy), by have := S.few; rw [List.length_cons] at this; omega, fun es he => S.top es (List.mem_cons_of_mem _ he)⟩
    have g2 := same_new na (.tup xs)
    exact ⟨S1.same g2, .tup upd_same ((hd.keep kt hvs).same g2), hvs⟩
end
def ValsRes (H : Hp) (v : V) : Option (List PyData) → Prop
  | none => v = .non
  | some ds => ∃ t xs, v = .ref t ∧ H t = some (.tup xs) ∧ DAs H xs ds ∧ valBs ds = true
def spValsIn : Sp := fun vs H Q _ => ∃ (a : Addr) (ws : List Str), vs = [.ref a] ∧ H a = some (.lst (ws.map V.str)) ∧ (∀ w ∈ ws, w.length ≤ 640) ∧ ws.length ≤ 10000 ∧ ∀ v H', Same H H' → ValsRes H' v (valsIn ws) → Q v H'
section
variable {P : Program} {w : World} {K : PySem.W.Frag} {mg : Str → Option Value} {base : Heap} {f : Addr} {fd : FuncData} {C : Addr}
abbrev s_integer_in : Stmt := top 10
theorem sc_integer_in : FnScope ["word", "figures", "sign"] ["word"] (defScope s_integer_in) := ⟨rfl, rfl, rfl, by decide +kernel, rfl, by decide +kernel, by decide +kernel⟩
theorem ok_integer_in (F : Fun K "integer_in" "integer_in" s_integer_in f fd) (T : RTx mg) : FnOk P w K mg base CX0 1 f fd ["word"] spIntIn := by
  refine F.ok sc_integer_in (fun vs H Q E h => ?_) (fun cdv A outer s H vs Q E hr h => ?_)
  · obtain ⟨z, rfl, _⟩ := h
    rfl
  obtain ⟨z, rfl, hz, k⟩ := h
  have hzl : z.length ≤ sizeLine := Nat.le_trans hz (by decide)
  refine ⟨_, (pss_cons (ps_set (i := 1) sc_integer_in.nd rfl (Or.inl rfl) (pe_mid (pe_ifExp (pt_val (pe_m1 PySem.F.slot_str_startswith PySem.F.type_str_startswith mt_startswith (pv 0) pe_str)) (pe_slice sl_str (pv 0) (po_some pe_int) po_none) (pv 0))))
  (pss_cons (ps_if (pt_mid (PW.pt (pw_or (pt_not (pt_truth (pv 1) (by intro _; rfl))) (pw_or1 (pt_cmpR op_gt (pe_callB call_len rfl T.len (by decide +kernel) (pa_cons (pv 1) pa_nil)) (pe_cI T.c_MOST_FIGURES) (nomark _)))))) (pss_one (ps_ret pe_non)) pss_nil)
  (pss_cons (ps_if (pt_not (pt_val (pe_callB (cr_all rfl) rfl T.all (by decide +kernel) (pa_cons (pe_lc (own := [("sign", 2)]) (g := (gName 2)) (tt := tYes) rfl sc_integer_in.nd (pi_str (pv 1)) (blkOk_by (own := [("sign", 2)]) (N := ["word", "figures", "sign"]) (sc := defScope s_integer_in) (by decide +kernel)) (fun _ _ _ _ _ => (pg_name (i := 2) sc_integer_in.nd rfl (Or.inl rfl))) (fun _ _ _ _ _ => pts_nil) (fun _ _ _ _ _ => (pe_cmpR op_in_sign (pv 2) (pe_cS T.c_FIGURES) rfl))) pa_nil)))) (pss_one (ps_ret pe_non)) pss_nil)
  (pss_cons (ps_if (PW.pt (pw_and (pt_cmpR op_eq (pe_ix ix_str (pv 1) pe_int (fun _ _ => rfl)) pe_str (nomark _)) (pw_and1 (pt_cmpR op_ne (pv 0) pe_str (nomark _))))) (pss_one (ps_ret pe_non)) pss_nil)
  (pss_one (ps_ret (pe_callTy call_int_str rfl T.int (by decide +kernel) (pa_cons (pv 0) pa_nil)))))))), ?_⟩
  refine ⟨fun v H' => H' = H ∧ ∃ y : Str, v = .str y ∧ sg y = figsL z, ?_, ?_⟩
  · refine ⟨_, rfl, ⟨_, rfl⟩, z, "-", rfl, rfl, _, rfl, ?_⟩
    rw [starts_neg]
    refine ite2 (fun c => ⟨_, rfl, 1, rfl, z, rfl, hzl, rfl, _, rfl, ?_⟩) (fun c => ⟨_, rfl, rfl, z, rfl, ?_⟩)
    · rw [cut_tail]; unfold figsL; rw [if_pos c]
    · unfold figsL; rw [if_neg c]
  · rintro v H1 ⟨rfl, y, rfl, hy⟩
    have hyl : y.length ≤ 640 := by
      have e1 : y.length = (figsL z).length := by rw [← hy]; simp [Str.length, sg]
      have e2 : (figsL z).length ≤ z.length := by unfold figsL; split <;> simp [Str.length, sg]
      omega
    have hyl' : y.length ≤ sizeLine := Nat.le_trans hyl (by decide)
    have ey : y.length = (figsL z).length := by rw [← hy]; simp [Str.length, sg]
    have k1 := k
    unfold intIn at k1
    refine ⟨fun b H' => H' = H1 ∧ b = decide (figsL z = [] ∨ 4000 < (figsL z).length), ?_, ?_⟩
    · refine ⟨_, rfl, _, ⟨hyl', rfl⟩, ?_⟩
      refine ite2 (fun c => ⟨rfl, ?_⟩) (fun c => ?_)
      · refine (decide_eq_true (Or.inl ?_)).symm
        have : y.length = 0 := by
          have c' : ((y.length : Int) != 0) = false := by simpa using c
          have := bne_eq_false_iff_eq.mp c'
          omega
        exact List.length_eq_zero_iff.mp (by omega)
      · refine ⟨_, rfl, _, _, rfl, ⟨hyl', rfl⟩, _, _, rfl, rfl, _, rfl, rfl, ?_⟩
        have hne : figsL z ≠ [] := fun e => by
          rw [e] at ey
          simp at ey
          exact c (by rw [ey]; rfl)
        exact decide_eq_decide.mpr ⟨fun q => .inr (by omega), fun q => q.elim (fun e => absurd e hne) (fun q => by omega)⟩
    · rintro b H2 ⟨rfl, rfl⟩
      by_cases h1 : figsL z = [] ∨ 4000 < (figsL z).length
      · rw [decide_eq_true h1]
        refine iteT ?_
        have k2 := k1 H2 (Same.refl _)
        rw [if_pos h1] at k2
        exact k2
      · rw [decide_eq_false h1]
        refine iteF ?_
        refine ⟨_, rfl, y, rfl, fun D hD => lc_txt (f := fun c => V.bl (isFig c)) hD (by omega) (fun c H' R hc g hR => ⟨rfl, _, rfl, c, FIG, rfl, rfl, hR⟩) (fun H' g hL => ⟨D, (sg y).map isFig, rfl, .of ?_, _, rfl, ?_⟩)⟩
        · rw [hL, List.map_map]
          rfl
        · have ea : ((sg y).map isFig).all id = (figsL z).all isFig := by rw [List.all_map, hy]; rfl
          rw [ea]
          cases h2 : (figsL z).all isFig with
          | false =>
            refine iteT ?_
            have k2 := k1 H' g
            rw [if_neg h1, if_pos h2] at k2
            exact k2
          | true =>
            refine iteF ?_
            have k2 := k1 H' g
            rw [if_neg h1, if_neg (by rw [h2]; decide)] at k2
            obtain ⟨c0, r, hc0⟩ : ∃ c0 r, figsL z = c0 :: r := by
              cases e : figsL z with
              | nil => exact absurd (.inl e) h1
              | cons a b => exact ⟨a, b, rfl⟩
            refine ⟨_, rfl, y, 0, c0, rfl, rfl, hyl', atI0t (by show (sg y)[0]? = _; rw [hy, hc0]; rfl), rfl, _, rfl, ?_⟩
            have e0 : ∀ c : Nat, (V.str ⟨#[c]⟩ = V.str "0") ↔ c = 48 := fun c => by
              have hl : ("0" : Str) = ⟨#[48]⟩ := by decide +kernel
              rw [hl]
              simp
            have e1 : (V.str z = V.str "0") ↔ sg z = [48] := by
              have hl : ("0" : Str) = ⟨#[48]⟩ := by decide +kernel
              rw [hl]
              constructor
              · intro q; injection q with q; rw [q]
              · intro q; rw [str_ext (b := ⟨#[48]⟩) q]
            have fin : (¬ ((figsL z).head? = some 48 ∧ sg z ≠ [48])) → ∃ n, PySem.intText? z = some n ∧ Q (.int n) H' := fun hn => by
              rw [if_neg hn] at k2
              refine ⟨_, intIn_text (w := z) ?_ hz, k2⟩
              unfold intIn
              rw [if_neg h1, if_neg (by rw [h2]; decide), if_neg hn]
            refine ite2 (fun c => ?_) (fun c => ?_)
            · have c' := (e0 c0).mp (of_decide_eq_true c)
              refine ⟨_, rfl, rfl, _, rfl, ?_⟩
              refine ite2 (fun d => ?_) (fun d => ?_)
              · have d' : ¬ V.str z = V.str "0" := by simpa using d
                rw [if_pos ⟨by rw [hc0, c']; rfl, fun q => d' (e1.mpr q)⟩] at k2
                exact k2
              · have d' : V.str z = V.str "0" := by simpa using d
                obtain ⟨n, hn, hQ⟩ := fin fun q => q.2 (e1.mp d')
                exact ⟨_, rfl, z, n, rfl, hn, hz, hQ⟩
            · have c' : ¬ c0 = 48 := fun q => c (decide_eq_true ((e0 c0).mpr q))
              refine iteF ?_
              obtain ⟨n, hn, hQ⟩ := fin fun q => by
                have := q.1
                rw [hc0] at this
                exact c' (by simpa using this)
              exact ⟨_, rfl, z, n, rfl, hn, hz, hQ⟩
abbrev s_values_in : Stmt := top 14
theorem sc_values_in : FnScope ["words", "levels", "word", "done", "number"] ["words"] (defScope s_values_in) := ⟨rfl, rfl, rfl, by decide +kernel, rfl, by decide +kernel, by decide +kernel⟩
theorem ok_values_in (F : Fun K "values_in" "values_in" s_values_in f fd) (T : RTx mg) (G_integer_in : Fd P w K mg base CX0 "integer_in" 1 ["word"] spIntIn) : FnOk P w K mg base CX0 2 f fd ["words"] spValsIn := by
  refine F.ok sc_values_in (fun vs H Q E h => ?_) (fun cdv A outer s H vs Q E hr h => ?_)
  · obtain ⟨a, ws, rfl, _⟩ := h
    rfl
  obtain ⟨a, ws, rfl, ha, hw, hl, q⟩ := h
  refine ⟨_, (pss_cons (ps_set (i := 1) sc_values_in.nd rfl (Or.inl rfl) (pe_lst (pa_cons (pe_lst pa_nil) pa_nil)))
  (pss_cons (ps_for PassesOwn.never rfl (pi_list (pv 0)) (pg_name (i := 2) sc_values_in.nd rfl (Or.inl rfl)) (pss_one (ps_if (pt_cmpR op_eq (pv 2) pe_str (nomark _)) (pss_one (ps_expr (pe_bm PySem.F.plainAttrs_list PySem.F.slot_list_append PySem.F.type_list_append mt_append (pv 1) (pa_cons (pe_lst pa_nil) pa_nil)))) (pss_one (ps_if (pt_cmpR op_eq (pv 2) pe_str (nomark _)) (pss_cons (ps_if (pt_cmpR op_eq (pe_callB call_len rfl T.len (by decide +kernel) (pa_cons (pv 1) pa_nil)) pe_int (nomark _)) (pss_one (ps_ret pe_non)) pss_nil)
  (pss_cons (ps_set (i := 3) sc_values_in.nd rfl (Or.inl rfl) (pe_callTy call_tuple_of rfl T.tuple (by decide +kernel) (pa_cons (pe_bm0 PySem.F.plainAttrs_list PySem.F.slot_list_pop PySem.F.type_list_pop mt_pop (pv 1)) pa_nil)))
  (pss_one (ps_expr (pe_bm PySem.F.plainAttrs_list PySem.F.slot_list_append PySem.F.type_list_append mt_append (pe_ix ix_list (pv 1) (pe_un un_neg pe_int) (fun _ _ => rfl)) (pa_cons (pv 3) pa_nil)))))) (pss_one (ps_if (pt_cmpR op_eq (pv 2) pe_str (nomark _)) (pss_one (ps_expr (pe_bm PySem.F.plainAttrs_list PySem.F.slot_list_append PySem.F.type_list_append mt_append (pe_ix ix_list (pv 1) (pe_un un_neg pe_int) (fun _ _ => rfl)) (pa_cons pe_non pa_nil)))) (pss_cons (ps_set (i := 4) sc_values_in.nd rfl (Or.inl rfl) (pe_fd G_integer_in (hr.mono (by first | decide | omega)) rfl (pa_cons (pv 2) pa_nil)))
  (pss_cons (ps_if (pt_cmpR op_isN (pv 4) pe_non (nomark _)) (pss_one (ps_ret pe_non)) pss_nil)
  (pss_one (ps_expr (pe_bm PySem.F.plainAttrs_list PySem.F.slot_list_append PySem.F.type_list_append mt_append (pe_ix ix_list (pv 1) (pe_un un_neg pe_int) (fun _ _ => rfl)) (pa_cons (pv 4) pa_nil)))))))))))))
  (pss_one (ps_ret (pe_ifExp (pt_cmpR op_eq (pe_callB call_len rfl T.len (by decide +kernel) (pa_cons (pv 1) pa_nil)) pe_int (nomark _)) (pe_callTy call_tuple_of rfl T.tuple (by decide +kernel) (pa_cons (pe_ix ix_list (pv 1) pe_int (fun _ _ => rfl)) pa_nil)) pe_non))))), ?_⟩
  refine seq_in ?_
  refine asg_in ?_
  refine ⟨szl (by show 0 ≤ _; decide), fun b nb => ⟨szl (by show 1 ≤ _; decide), fun L nL => ?_⟩⟩
  refine g_set ?_
  refine nx_in ?_
  refine seq_in ?_
  have g1 := same_new nb (.lst [])
  have hbL : L ≠ b := fun z => by rw [z, upd_same] at nL; cases nL
  have S0 : VS L H 0 [b] [[]] (upd (upd H b (.lst [])) L (.lst [.ref b])) := ⟨g1.trans (same_new nL _), upd_same, .cons (by rw [upd_ne (Ne.symm hbL)]; exact upd_same) .nil (by simp [valBs]) (by simp) .nil, by simpa using hbL, g1.free nL, fun x hx => by rw [List.mem_singleton.mp hx]; exact nb, by simp, fun ds hd => by rw [List.mem_singleton.mp hd]; simp⟩
  refine ⟨_, rfl, a, rfl, ⟨_, .of (S0.g _ _ ha)⟩, for_list (K := K) (a := a) (xs := ws.map V.str) (fun j σ G => ∃ as st u2 u3 u4, σ = [some (.ref a), some (.ref L), u2, u3, u4] ∧ VS L H j as st G ∧ st ≠ [] ∧ vrun [[]] (ws.take j) = some st) ⟨_, _, _, _, _, rfl, S0, by simp, rfl⟩ (fun j σ G _ z => ?_) ?_ ?_⟩
  · obtain ⟨_, _, _, _, _, _, S, _⟩ := z
    exact .of (S.g _ _ ha)
  · rintro j x σ G hx ⟨as, st, u2, u3, u4, rfl, S, hne, hrun⟩
    have hj : j < ws.length := by have := get_lt hx; rwa [List.length_map] at this
    rw [List.getElem?_map, List.getElem?_eq_getElem hj] at hx
    cases hx
    have hwj : ws[j].length ≤ 640 := hw _ (List.getElem_mem hj)
    generalize hww : ws[j] = z at hwj
    have htk : ws.take (j + 1) = ws.take j ++ [z] := by rw [List.take_succ_eq_append_getElem hj, hww]
    have hstep : vrun [[]] (ws.take (j + 1)) = vstep st z := by rw [htk, vrun_snoc, hrun]
    have bad : vstep st z = none → valsIn ws = none := fun e => by
      rw [e] at hstep
      have : vrun [[]] ws = none := by
        rw [← List.take_append_drop (j + 1) ws]
        exact vrun_none hstep
      unfold valsIn
      rw [this]
    obtain ⟨top, st', rfl⟩ := List.exists_cons_of_ne_nil hne
    have hlen := S.lv.len
    obtain ⟨b', r, rfl⟩ : ∃ b' r, as = b' :: r := by
      cases as with
      | nil => simp at hlen
      | cons b' r => exact ⟨b', r, rfl⟩
    have hfew := S.few
    refine g_set ?_
    unfold vstep at hstep bad
    refine ⟨_, rfl, rfl, _, rfl, ?_⟩
    rw [vstr_eq]
    refine ite2 (fun c => ?_) (fun c => ?_)
    · have c := of_decide_eq_true c
      rw [if_pos c] at hstep
      refine ⟨_, rfl, .inl ⟨rfl, _, .of S.hL⟩, szl (by show 0 ≤ _; decide), fun nw nnw => ?_⟩
      have hL1 := same_new nnw (.lst []) _ _ S.hL
      exact ⟨L, _, _, rfl, rfl, hL1, szt (by rw [List.length_map, List.length_reverse]; omega), _, _, _, _, _, rfl, S.open_ nnw, by simp, hstep⟩
    have c1 : z ≠ "(" := of_decide_eq_false (by simpa using c)
    rw [if_neg c1] at hstep bad
    refine ⟨_, rfl, rfl, _, rfl, ?_⟩
    rw [vstr_eq]
    refine ite2 (fun c => ?_) (fun c => ?_)
    · have c := of_decide_eq_true c
      rw [if_pos c] at hstep bad
      refine seq_in ?_
      refine ⟨_, rfl, _, (b' :: r).reverse.length, rfl, .inl ⟨_, .of S.hL, by simp⟩, rfl, _, rfl, ?_⟩
      cases r with
      | nil =>
        refine iteT (ret_in ?_)
        have : st' = [] := by simpa using hlen.symm
        subst this
        refine q _ _ S.g ?_
        rw [bad rfl]
        rfl
      | cons c' r' =>
        obtain ⟨nxt, st2, rfl⟩ : ∃ nxt st2, st' = nxt :: st2 := by
          cases st' with
          | nil => simp at hlen
          | cons n s => exact ⟨n, s, rfl⟩
        refine ite_no (decide_eq_false fun e => by injection e with e; simp at e; omega) ?_
        refine next_in ?_
        refine nx_in ?_
        refine seq_in ?_
        refine asg_in ?_
        obtain ⟨xs, hb', hLb, cl⟩ := S.close
        refine ⟨_, rfl, .inl ⟨rfl, _, .of S.hL⟩, L, _, .ref b', rfl, rfl, S.hL, by simp, ?_⟩
        have hdl : ((b' :: c' :: r').reverse.map V.ref).dropLast = (c' :: r').reverse.map V.ref := by
          rw [List.reverse_cons, List.map_append]
          exact List.dropLast_concat
        rw [hdl]
        refine ⟨b', xs, rfl, .inl ⟨.of (by rw [upd_ne (Ne.symm hLb)]; exact hb'), fun t nt => ?_⟩⟩
        obtain ⟨S2, hd2, hv2⟩ := cl t nt
        generalize upd (upd G L (.lst ((c' :: r').reverse.map V.ref))) t (.tup xs) = G2 at S2 hd2 ⊢
        refine g_set ?_
        refine nx_in ?_
        obtain ⟨ys, hc', hys, S3⟩ := S2.push hd2 (by rw [valB]; exact hv2)
        refine ⟨_, rfl, 1, rfl, L, _, -1, .ref c', rfl, rfl, .of S2.hL, by rw [List.reverse_cons, List.map_append]; exact atI_last _ _, .inl ⟨rfl, _, .of hc'⟩, _, rfl, c', ys, _, rfl, rfl, hc', szt (by omega), _, _, _, _, _, rfl, S3, by simp, hstep⟩
    have c2 : z ≠ ")" := of_decide_eq_false (by simpa using c)
    rw [if_neg c2] at hstep bad
    have hlast : atI ((b' :: r).reverse.map V.ref) (-1) = some (.ref b') := by rw [List.reverse_cons, List.map_append]; exact atI_last _ _
    refine ⟨_, rfl, rfl, _, rfl, ?_⟩
    rw [vstr_eq]
    refine ite2 (fun c => ?_) (fun c => ?_)
    · have c := of_decide_eq_true c
      rw [if_pos c] at hstep
      obtain ⟨ys, hc', hys, S3⟩ := S.push (x := .non) .non (by simp [valB])
      exact ⟨_, rfl, 1, rfl, L, _, -1, .ref b', rfl, rfl, .of S.hL, hlast, .inl ⟨rfl, _, .of hc'⟩, b', ys, _, rfl, rfl, hc', szt (by omega), _, _, _, _, _, rfl, S3, by simp, hstep⟩
    have c3 : z ≠ "-" := of_decide_eq_false (by simpa using c)
    rw [if_neg c3] at hstep bad
    refine seq_in ?_
    refine asg_in ?_
    refine ⟨_, rfl, z, rfl, hwj, fun G1 g1 => ?_⟩
    have S1 := S.same g1
    refine g_set ?_
    refine nx_in ?_
    refine seq_in ?_
    refine ⟨_, rfl, rfl, _, rfl, ?_⟩
    cases hi : intIn z with
    | none =>
      refine iteT (ret_in ?_)
      refine q _ _ S1.g ?_
      rw [bad (by rw [hi])]
      rfl
    | some i =>
      rw [hi] at hstep
      refine iteF ?_
      refine next_in ?_
      refine nx_in ?_
      obtain ⟨ys, hc', hys, S3⟩ := S1.push (x := .int i) (.int i) (by simp [valB])
      exact ⟨_, rfl, 1, rfl, L, _, -1, .ref b', rfl, rfl, .of S1.hL, hlast, .inl ⟨rfl, _, .of hc'⟩, _, rfl, b', ys, _, rfl, rfl, hc', szt (by omega), _, _, _, _, _, rfl, S3, by simp, hstep⟩
  · rintro σ G ⟨as, st, u2, u3, u4, rfl, S, hne, hrun⟩
    rw [List.length_map, List.take_length] at hrun
    refine nx_in ?_
    refine ret_in ?_
    have hlen := S.lv.len
    refine ⟨_, rfl, _, as.reverse.length, rfl, .inl ⟨_, .of S.hL, by simp⟩, rfl, _, rfl, ?_⟩
    cases st with
    | nil => exact absurd rfl hne
    | cons top st' =>
      cases st' with
      | nil =>
        obtain ⟨b', rfl⟩ : ∃ b', as = [b'] := by
          match as, hlen with
          | [b'], _ => exact ⟨b', rfl⟩
        have lv := S.lv
        cases lv with
        | @cons _ _ xs _ _ h hd hvs hn t =>
          refine iteT ?_
          refine ⟨_, rfl, L, _, _, .ref b', rfl, rfl, .of S.hL, atI_nat (j := 0) rfl, b', xs, rfl, .inl ⟨.of h, fun t nt => ?_⟩⟩
          have g2 := same_new nt (.tup xs)
          refine q _ _ (S.g.trans g2) ?_
          unfold valsIn
          rw [hrun]
          exact ⟨t, xs, rfl, upd_same, hd.same g2, hvs⟩
      | cons s2 st'' =>
        refine ite_no (decide_eq_false fun e => by injection e with e; simp at e; simp at hlen; omega) ?_
        refine q _ _ S.g ?_
        unfold valsIn
        rw [hrun]
        rfl
end
end Fp
/-! steps read -/
namespace Fp
open PySem PySem.Spec PyProof.Rows L2
def optP : Option Int → PyData
  | none => .none
  | some i => .int i
def hd0 : List PyData → PyData
  | d :: _ => d
  | [] => .none
def matOf (k : Str) (ds : List PyData) : PyData := if k = "look" ∨ k = "ask" ∨ k = "answer" then .tuple ds else hd0 ds
def preW (ws : List Str) : Option PyData := match valsIn (ws.drop 2), ws with
  | some ds, w0 :: w1 :: _ => some (.tuple [optP (intIn w0), .str w1, matOf w1 ds])
  | _, _ => none
def preIn (z : Str) : Option PyData := preW (Txt.split z " ")
def stepIn (z : Str) : Option PyData := match preIn z with
  | some d => if (stepB d && decide (stepT d = z)) = true then some d else none
  | none => none
structure LnW (z : Str) : Prop where
  len : z.length ≤ 100000
  few : (Txt.split z " ").length ≤ 10000
  short : ∀ w ∈ Txt.split z " ", w.length ≤ 640
  pre : ∀ d, preIn z = some d → vsz d ≤ 1000000 ∧ (stepB d = true → StOk d)
def StRes (H : Hp) (v : V) : Option PyData → Prop
  | none => v = .non
  | some d => DA H v d
def spMatOf : Sp := fun vs H Q _ => ∃ (k : Str) (t : Addr) (xs : List V) (ds : List PyData), vs = [.str k, .ref t] ∧ H t = some (.tup xs) ∧ DAs H xs ds ∧ ∀ v H', Same H H' → DA H' v (matOf k ds) → Q v H'
def spStepIn : Sp := fun vs H Q _ => ∃ z : Str, vs = [.str z] ∧ LnW z ∧ ∀ v H', Same H H' → StRes H' v (stepIn z) → Q v H'
theorem cut_drop2 (xs : List V) : cutV xs (some 2) none = xs.drop 2 := by
  have e1 : HT.sIx xs.length xs.length none = xs.length := rfl
  have e2 := HT.sIx_nat xs.length 0 2
  unfold cutV
  rw [e1, show ((2 : Int)) = ((2 : Nat) : Int) from rfl, e2]
  match xs with
  | [] => rfl
  | [_] => rfl
  | a :: b :: r => simp
theorem optI_da {H : Hp} (o : Option Int) : DA H (optI o) (optP o) := by
  cases o with
  | none => exact .non
  | some i => exact .int i
section
variable {P : Program} {w : World} {K : PySem.W.Frag} {mg : Str → Option Value} {base : Heap} {f : Addr} {fd : FuncData} {C : Addr}
abbrev s_matter_of : Stmt := top 23
theorem sc_matter_of : FnScope ["kind", "things"] ["kind", "things"] (defScope s_matter_of) := ⟨rfl, rfl, rfl, by decide +kernel, rfl, by decide +kernel, by decide +kernel⟩
theorem ok_matter_of (F : Fun K "matter_of" "matter_of" s_matter_of f fd) (T : RTx mg) : FnOk P w K mg base CX0 1 f fd ["kind", "things"] spMatOf := by
  refine F.ok sc_matter_of (fun vs H Q E h => ?_) (fun cdv A outer s H vs Q E hr h => ?_)
  · obtain ⟨k, t, xs, ds, rfl, _⟩ := h
    rfl
  obtain ⟨k, t, xs, ds, rfl, ht, hds, q⟩ := h
  refine ⟨_, (pss_cons (ps_if (pt_cmpR op_in_seq (pv 0) (pe_tup (pa_cons pe_str (pa_cons pe_str (pa_cons pe_str pa_nil)))) rfl) (pss_one (ps_ret (pv 1))) pss_nil)
  (pss_one (ps_ret (pe_ifExp (pt_truth (pv 1) (by intro _; rfl)) (pe_ix ix_tup (pv 1) pe_int (fun _ _ => rfl)) pe_non)))), ?_⟩
  refine seq_in ?_
  refine ⟨_, rfl, szl (by show 3 ≤ _; decide), fun t2 nt2 => ?_⟩
  have g1 := same_new nt2 (.tup [.str "look", .str "ask", .str "answer"])
  refine ⟨t2, _, rfl, .inr (.of upd_same), rfl, rfl, _, rfl, ?_⟩
  rw [inV3]
  refine ite2 (fun c => ?_) (fun c => ?_)
  · refine ret_in ?_
    refine ⟨_, rfl, q _ _ g1 ?_⟩
    unfold matOf
    rw [if_pos (of_decide_eq_true c)]
    exact .tup (g1 _ _ ht) (hds.same g1)
  · have c := of_decide_eq_false (by simpa using c : decide (k = "look" ∨ k = "ask" ∨ k = "answer") = false)
    refine next_in ?_
    refine nx_in ?_
    refine ret_in ?_
    have ht1 := g1 _ _ ht
    refine ⟨_, rfl, _, .inr (.inl ⟨xs, .of ht1, rfl⟩), ?_⟩
    have em : matOf k ds = hd0 ds := by unfold matOf; rw [if_neg c]
    cases hds with
    | nil => exact iteF (q _ _ g1 (by rw [em]; exact .non))
    | cons hx hr => exact iteT ⟨_, rfl, t, _, _, _, rfl, rfl, .of ht1, at0, q _ _ g1 (by rw [em]; exact hx.same g1)⟩
abbrev s_step_in : Stmt := top 22
theorem sc_step_in : FnScope ["line", "words", "things", "step"] ["line"] (defScope s_step_in) := ⟨rfl, rfl, rfl, by decide +kernel, rfl, by decide +kernel, by decide +kernel⟩
theorem ok_step_in (F : Fun K "step_in" "step_in" s_step_in f fd) (T : RTx mg) (G_values_in : Fd P w K mg base CX0 "values_in" 2 ["words"] spValsIn) (G_integer_in : Fd P w K mg base CX0 "integer_in" 1 ["word"] spIntIn) (G_matter_of : Fd P w K mg base CX0 "matter_of" 1 ["kind", "things"] spMatOf) (G_is_step : Fd P w K mg base CX0 "is_step" 5 ["value"] spStepA) (G_step_text : Fd P w K mg base CX0 "step_text" 2 ["step"] spStepTxt) : FnOk P w K mg base CX0 6 f fd ["line"] spStepIn := by
  refine F.ok sc_step_in (fun vs H Q E h => ?_) (fun cdv A outer s H vs Q E hr h => ?_)
  · obtain ⟨z, rfl, _⟩ := h
    rfl
  obtain ⟨z, rfl, hz, q⟩ := h
  refine ⟨_, (pss_cons (ps_set (i := 1) sc_step_in.nd rfl (Or.inl rfl) (pe_split (pv 0) pe_str))
  (pss_cons (ps_set (i := 2) sc_step_in.nd rfl (Or.inl rfl) (pe_fd G_values_in (hr.mono (by first | decide | omega)) rfl (pa_cons (pe_slice sl_list (pv 1) (po_some pe_int) po_none) pa_nil)))
  (pss_cons (ps_if (PW.pt (pw_or (pt_cmpR op_lt (pe_callB call_len rfl T.len (by decide +kernel) (pa_cons (pv 1) pa_nil)) pe_int (nomark _)) (pw_or1 (pt_cmpR op_isN (pv 2) pe_non (nomark _))))) (pss_one (ps_ret pe_non)) pss_nil)
  (pss_cons (ps_set (i := 3) sc_step_in.nd rfl (Or.inl rfl) (pe_tup (pa_cons (pe_fd G_integer_in (hr.mono (by first | decide | omega)) rfl (pa_cons (pe_ix ix_list (pv 1) pe_int (fun _ _ => rfl)) pa_nil)) (pa_cons (pe_ix ix_list (pv 1) pe_int (fun _ _ => rfl)) (pa_cons (pe_fd G_matter_of (hr.mono (by first | decide | omega)) rfl (pa_cons (pe_ix ix_list (pv 1) pe_int (fun _ _ => rfl)) (pa_cons (pv 2) pa_nil))) pa_nil)))))
  (pss_one (ps_ret (pe_ifExp (PW.pt (pw_and (pt_val (pe_fd G_is_step (hr.mono (by first | decide | omega)) rfl (pa_cons (pv 3) pa_nil))) (pw_and1 (pt_cmpR op_eq (pe_fd G_step_text (hr.mono (by first | decide | omega)) rfl (pa_cons (pv 3) pa_nil)) (pv 0) (nomark _))))) (pv 3) pe_non))))))), ?_⟩
  have pre := hz.pre
  have few := hz.few
  have short := hz.short
  have hlen := hz.len
  have es : ∀ v H', Same H H' → StRes H' v (match preIn z with
    | some d => if (stepB d && decide (stepT d = z)) = true then some d else none
    | none => none) → Q v H' := q
  unfold preIn at es pre
  refine seq_in ?_
  refine asg_in ?_
  refine ⟨_, rfl, ⟨_, rfl⟩, z, " ", rfl, rfl, by decide +kernel, szl (by omega), fun l nl => ?_⟩
  generalize Txt.split z " " = ws at *
  have g1 := same_new nl (.lst (ws.map V.str))
  have hl1 : upd H l (.lst (ws.map V.str)) l = some (.lst (ws.map V.str)) := upd_same
  generalize upd H l (.lst (ws.map V.str)) = H1 at g1 hl1 ⊢
  refine g_set ?_
  refine nx_in ?_
  refine seq_in ?_
  refine asg_in ?_
  refine ⟨_, rfl, 2, rfl, l, _, rfl, .of hl1, fun l2 nl2 => ?_⟩
  rw [cut_drop2, ← List.map_drop]
  have g2 := same_new nl2 (.lst ((ws.drop 2).map V.str))
  refine ⟨l2, ws.drop 2, rfl, upd_same, fun w hw => short w (List.mem_of_mem_drop hw), by rw [List.length_drop]; omega, fun v G g3 hres => ?_⟩
  have g4 := (g1.trans g2).trans g3
  have hl4 := g3 _ _ (g2 _ _ hl1)
  generalize upd H1 l2 (.lst ((ws.drop 2).map V.str)) = H2 at g2 g3
  refine g_set ?_
  refine nx_in ?_
  refine seq_in ?_
  refine ⟨_, rfl, _, ws.length, rfl, .inl ⟨_, .of hl4, by simp⟩, _, _, rfl, rfl, _, rfl, ?_⟩
  refine ite2 (fun c => ?_) (fun c => ?_)
  · refine iteT (ret_in (es _ _ g4 ?_))
    have c := of_decide_eq_true c
    have : preW ws = none := by
      unfold preW
      match ws, c with
      | [], _ => cases valsIn (([] : List Str).drop 2) <;> rfl
      | [w], _ => cases valsIn (([w] : List Str).drop 2) <;> rfl
      | _ :: _ :: _, c => simp at c; omega
    rw [this]
    rfl
  have c := of_decide_eq_false (by simpa using c : decide ((ws.length : Int) < 2) = false)
  obtain ⟨w0, w1, wr, rfl⟩ : ∃ w0 w1 wr, ws = w0 :: w1 :: wr := by
    match ws, c with
    | [], c => simp at c
    | [w], c => simp at c
    | w0 :: w1 :: wr, _ => exact ⟨w0, w1, wr, rfl⟩
  have hs0 := short w0 (by simp)
  have hs1 := short w1 (by simp)
  refine ⟨_, rfl, rfl, _, rfl, ?_⟩
  have ep : preW (w0 :: w1 :: wr) = (valsIn wr).map fun ds => .tuple [optP (intIn w0), .str w1, matOf w1 ds] := by
    unfold preW
    show (match valsIn wr, w0 :: w1 :: wr with | some ds, w0 :: w1 :: _ => some (PyData.tuple [optP (intIn w0), .str w1, matOf w1 ds]) | _, _ => none) = _
    cases valsIn wr <;> rfl
  rw [ep] at es pre
  have hres : ValsRes G v (valsIn wr) := hres
  cases hv : valsIn wr with
  | none =>
    rw [hv] at hres es
    rw [show v = .non from hres]
    exact iteT (ret_in (es _ _ g4 rfl))
  | some ds =>
    rw [hv] at hres es pre
    obtain ⟨t, xs, rfl, ht, hds, hvb⟩ := hres
    refine iteF ?_
    refine next_in ?_
    refine nx_in ?_
    refine seq_in ?_
    refine asg_in ?_
    refine ⟨_, rfl, l, _, _, .str w0, rfl, rfl, .of hl4, at0, w0, rfl, hs0, fun G1 k1 => ⟨_, rfl, l, _, _, .str w1, rfl, rfl, .of (k1 _ _ hl4), at1, _, rfl, l, _, _, .str w1, rfl, rfl, .of (k1 _ _ hl4), at1, _, rfl, w1, t, xs, ds, rfl, k1 _ _ ht, hds.same k1, fun v2 G2 k2 hv2 => ⟨szl (by show 3 ≤ _; decide), fun st nst => ?_⟩⟩⟩
    have k3 := same_new nst (.tup [optI (intIn w0), .str w1, v2])
    have hd : DA (upd G2 st (.tup [optI (intIn w0), .str w1, v2])) (.ref st) (.tuple [optP (intIn w0), .str w1, matOf w1 ds]) := .tup upd_same (.cons (optI_da _) (.cons (.str _) (.cons (hv2.same k3) .nil)))
    have g5 := ((g4.trans k1).trans k2).trans k3
    generalize upd G2 st (.tup [optI (intIn w0), .str w1, v2]) = G3 at hd g5 ⊢
    obtain ⟨hsz, hok⟩ := pre _ rfl
    dsimp only at hsz hok
    have es : ∀ v H', Same H H' → StRes H' v (if (stepB (.tuple [optP (intIn w0), .str w1, matOf w1 ds]) && decide (stepT (.tuple [optP (intIn w0), .str w1, matOf w1 ds]) = z)) = true then some (.tuple [optP (intIn w0), .str w1, matOf w1 ds]) else none) → Q v H' := es
    have hk : KdOk (.tuple [optP (intIn w0), .str w1, matOf w1 ds]) := .inl ⟨w1, rfl⟩
    generalize PyData.tuple [optP (intIn w0), .str w1, matOf w1 ds] = d0 at hd hsz hok es hk
    refine g_set ?_
    refine nx_in ?_
    refine ret_in ?_
    refine ⟨_, rfl, .ref st, d0, rfl, hd, hk, hsz, fun G4 k4 => ⟨_, rfl, ?_⟩⟩
    refine ite2 (fun c => ?_) (fun c => ?_)
    · rw [c, Bool.true_and] at es
      refine ⟨_, rfl, .ref st, d0, rfl, hd.same k4, hok c, fun G5 k5 => ⟨_, rfl, rfl, _, rfl, ?_⟩⟩
      rw [vstr_eq]
      refine ite2 (fun c2 => ?_) (fun c2 => ?_)
      · rw [c2] at es
        exact ⟨_, rfl, es _ _ ((g5.trans k4).trans k5) ((hd.same k4).same k5)⟩
      · rw [if_neg c2] at es
        exact es _ _ ((g5.trans k4).trans k5) rfl
    · have c : stepB d0 = false := by simpa using c
      rw [c, Bool.false_and] at es
      exact iteF (es _ _ (g5.trans k4) rfl)
end
end Fp
namespace Fp
open PySem PySem.Spec PyProof.Rows L2
section
variable {P : Program} {w : World} {K : PySem.W.Frag} {mg : Str → Option Value} {base : Heap} {f : Addr} {fd : FuncData} {C : Addr}
abbrev s_HandError_init : Stmt := inClass (top 1) 0
theorem sc_HandError_init : FnScope ["self", "value"] ["self", "value"] (defScope s_HandError_init) := ⟨rfl, rfl, rfl, by decide +kernel, rfl, by decide +kernel, by decide +kernel⟩
theorem ok_HandError_init (F : Fun K "__init__" "HandError.__init__" s_HandError_init f fd) : FnOk P w K mg base CX0 1 f fd ["self", "value"] (spHInit K) := by
  refine F.ok sc_HandError_init (fun vs H Q E h => ?_) (fun cdv A outer s H vs Q E hr h => ?_)
  · obtain ⟨a, C, v, rfl, _⟩ := h
    rfl
  obtain ⟨a, C, v, rfl, hO, hn, ha, k⟩ := h
  refine ⟨_, (pss_one (ps_ost (pv 0) (pv 1))), ?_⟩
  exact ⟨_, rfl, _, rfl, a, C, rfl, hO, hn, .inl ⟨ha, fun dx hx ne => k dx hx ne⟩⟩
end
end Fp
/-! runs told and read -/
namespace Fp
open PySem PySem.Spec PyProof.Rows L2
def runT (ds : List PyData) : Str := Txt.join "\n" (ds.map stepT)
def spRunTxt : Sp := fun vs H Q _ => ∃ (t : Addr) (xs : List V) (ds : List PyData), vs = [.ref t] ∧ H t = some (.tup xs) ∧ DAs H xs ds ∧ (∀ d ∈ ds, StOk d) ∧ ds.length ≤ 20 ∧ vszs ds ≤ 900000 ∧ ∀ H', Same H H' → Q (.str (runT ds)) H'
def spRunTxtX (CE : Addr) : Sp := fun vs H Q E => ∃ (v : V) (d : PyData), vs = [v] ∧ DA H v d ∧ (∀ ds, d = .tuple ds → ∀ x ∈ ds, KdOk x) ∧ vsz d ≤ 1000000 ∧ stepsB d = false ∧ ∀ H' e, Same H H' → H' e = none → E (.ref CE) (some e) (upd H' e (.xd [("value", v)]))
def spRunIn : Sp := fun vs H Q _ => ∃ (z : Str) (ds : List PyData), vs = [.str z] ∧ ((z = "" ∧ ds = []) ∨ (z ≠ "" ∧ z.length ≤ 5000000 ∧ (Txt.split z "\n").length ≤ 1000 ∧ (∀ l ∈ Txt.split z "\n", LnW l) ∧ (Txt.split z "\n").map stepIn = ds.map some)) ∧ ∀ t xs H', Same H H' → H' t = some (.tup xs) → DAs H' xs ds → Q (.ref t) H'
def spRunInX (CE : Addr) : Sp := fun vs H Q E => ∃ (v : V) (n : Int), vs = [v] ∧ ((n = 0 ∧ ∃ d, DA H v d ∧ isStr d = false) ∨ ∃ (z : Str) (k : Nat) (l : Str), v = .str z ∧ z ≠ "" ∧ z.length ≤ 5000000 ∧ (Txt.split z "\n").length ≤ 1000 ∧ (∀ l ∈ (Txt.split z "\n").take (k + 1), LnW l) ∧ (∀ l ∈ (Txt.split z "\n").take k, stepIn l ≠ none) ∧ (Txt.split z "\n")[k]? = some l ∧ stepIn l = none ∧ n = k + 1) ∧
  ∀ H' e, Same H H' → H' e = none → E (.ref CE) (some e) (upd H' e (.xd [("value", .int n)]))
mutual
/-- nothing in it that may change -/
def plB : PyData → Bool
  | .tuple ds => plBs ds
  | .list _ => false
  | .dict _ => false
  | _ => true
def plBs : List PyData → Bool
  | [] => true
  | d :: ds => plB d && plBs ds
end
mutual
theorem val_pl : ∀ d : PyData, valB d = true → plB d = true
  | .none, _ => by simp [plB]
  | .int _, _ => by simp [plB]
  | .bool _, _ => by simp [plB]
  | .str _, _ => by simp [plB]
  | .tuple ds, h => by rw [plB]; rw [valB] at h; exact vals_pl ds h
  | .list _, h => by simp [valB] at h
  | .dict _, h => by simp [valB] at h
theorem vals_pl : ∀ ds : List PyData, valBs ds = true → plBs ds = true
  | [], _ => by simp [plBs]
  | d :: ds, h => by
    rw [valBs, Bool.and_eq_true] at h
    rw [plBs, val_pl d h.1, vals_pl ds h.2]; rfl
end
mutual
theorem DA.keepP {H H' : Hp} (g : ∀ {a xs}, H a = some (.tup xs) → H' a = some (.tup xs)) : ∀ {v : V} {d : PyData}, DA H v d → plB d = true → DA H' v d
  | _, _, .non, _ => .non
  | _, _, .bl b, _ => .bl b
  | _, _, .int i, _ => .int i
  | _, _, .str z, _ => .str z
  | _, _, .tup h t, e => .tup (g h) (DAs.keepP g t (by rwa [plB] at e))
  | _, _, .lst h t, e => by simp [plB] at e
  | _, _, .dct h, e => by simp [plB] at e
theorem DAs.keepP {H H' : Hp} (g : ∀ {a xs}, H a = some (.tup xs) → H' a = some (.tup xs)) : ∀ {vs : List V} {ds : List PyData}, DAs H vs ds → plBs ds = true → DAs H' vs ds
  | _, _, .nil, _ => .nil
  | _, _, .cons h t, e => by
    rw [plBs, Bool.and_eq_true] at e
    exact .cons (DA.keepP g h e.1) (DAs.keepP g t e.2)
end
theorem plBs_all : ∀ ds : List PyData, plBs ds = ds.all plB
  | [] => by simp [plBs]
  | d :: ds => by rw [plBs, List.all_cons, plBs_all ds]
theorem step_of {d : PyData} (s : stepB d = true) : ∃ (i : Int) (k : Str) (m : PyData), d = .tuple [.int i, .str k, m] ∧ 0 ≤ i ∧ i < 6 ∧ matS k m = true := by
  unfold stepB at s
  split at s
  · rename_i hh kk m
    rw [Bool.and_eq_true] at s
    cases hh with
    | int i =>
      cases kk with
      | str k => exact ⟨i, k, m, rfl, (of_decide_eq_true s.1).1, (of_decide_eq_true s.1).2, s.2⟩
      | _ => cases s.2
    | _ => cases s.1
  · cases s
theorem mat_pl {k : Str} {m : PyData} (h : matS k m = true) : plB m = true := by
  rcases kind_of h with ⟨_, e⟩ | ⟨_, e⟩ | ⟨_, e⟩ | ⟨_, e⟩ | ⟨_, e⟩
  · exact val_pl m e
  · cases m with
    | tuple ds =>
      rw [plB]
      have e : (decide (1 ≤ ds.length) && decide (ds.length ≤ 6) && valBs ds) = true := e
      rw [Bool.and_eq_true] at e
      exact vals_pl ds e.2
    | _ => cases e
  · cases m <;> first | (simp [plB]; done) | cases e
  · unfold boxB at e
    split at e
    · rename_i a b
      rw [Bool.and_eq_true] at e
      rw [plB, plBs, plBs, plBs]
      have h1 : plB a = true := by cases a <;> first | (simp [plB]; done) | cases e.1
      have h2 : plB b = true := by cases b <;> first | (simp [plB]; done) | cases e.2
      rw [h1, h2]; rfl
    · cases e
  · cases m <;> first | (simp [plB]; done) | cases e
theorem step_pl {d : PyData} (s : stepB d = true) : plB d = true := by
  obtain ⟨i, k, m, rfl, _, _, h⟩ := step_of s
  rw [plB, plBs, plBs, plBs, plBs, mat_pl h]
  simp [plB]
theorem stepIn_st {z : Str} {d : PyData} (h : stepIn z = some d) : stepB d = true := by
  unfold stepIn at h
  split at h
  · split at h
    · rename_i c
      cases h
      rw [Bool.and_eq_true] at c
      exact c.1
    · cases h
  · cases h
theorem kd_of {d : PyData} (s : stepB d = true) : KdOk d := by
  obtain ⟨i, k, m, rfl, _, _, _⟩ := step_of s
  exact .inl ⟨k, rfl⟩
theorem stepT_len {d : PyData} (h : StOk d) : (stepT d).length ≤ 220000 := by
  obtain ⟨i, k, m, rfl, h0, h6, hm, hb, hz⟩ := h.of
  obtain ⟨_, hin⟩ := figs6 h0 h6
  have hkl := kind_len hm
  have e1 : (" " : Str).length = 1 := by decide +kernel
  unfold stepT stepToks
  rw [TL.join_eq]
  dsimp only
  split
  · have hj := StrLaws.join_length_le (" " : Str) [(toString i : Str), k]
    rw [e1] at hj
    simp only [List.map_cons, List.map_nil, List.sum_cons, List.sum_nil, List.length_cons, List.length_nil] at hj
    omega
  · rename_i c0
    obtain ⟨tb, tne, tlen, _, _⟩ := things_ok hm hb c0
    have hj := StrLaws.join_length_le (" " : Str) ((toString i : Str) :: k :: toksV (thingsOf k m))
    have hs := sum_len (toks_len (thingsOf k m) (by rw [bndBs_all]; exact tb))
    rw [e1] at hj
    simp only [List.map_cons, List.sum_cons, List.length_cons] at hj
    omega
section
variable {P : Program} {w : World} {K : PySem.W.Frag} {mg : Str → Option Value} {base : Heap} {f : Addr} {fd : FuncData} {C CE : Addr}
abbrev s_run_text : Stmt := top 25
theorem sc_run_text : FnScope ["run", "step"] ["run"] (defScope s_run_text) := ⟨rfl, rfl, rfl, by decide +kernel, rfl, by decide +kernel, by decide +kernel⟩
theorem ok_run_text (F : Fun K "run_text" "run_text" s_run_text f fd) (T : RTx mg) (G_are_steps : Fd P w K mg base CX0 "are_steps" 6 ["value"] spStepsA) (G_step_text : Fd P w K mg base CX0 "step_text" 2 ["step"] spStepTxt) : FnOk P w K mg base CX0 7 f fd ["run"] spRunTxt := by
  refine F.ok sc_run_text (fun vs H Q E h => ?_) (fun cdv A outer s0 H vs Q E hr h => ?_)
  · obtain ⟨t, xs, ds, rfl, _⟩ := h
    rfl
  obtain ⟨t, xs, ds, rfl, ht, hds, hok, hl, hz, q⟩ := h
  refine ⟨_, (pss_cons (ps_if (pt_not (pt_val (pe_fd G_are_steps (hr.mono (by first | decide | omega)) rfl (pa_cons (pv 0) pa_nil)))) (pss_one (ps_no)) pss_nil)
  (pss_one (ps_ret (pe_join pe_str (pe_lc (own := [("step", 1)]) (g := (gName 1)) (tt := tYes) rfl sc_run_text.nd (pi_tup (pv 0)) (blkOk_by (own := [("step", 1)]) (N := ["run", "step"]) (sc := defScope s_run_text) (by decide +kernel)) (fun _ _ _ _ _ => (pg_name (i := 1) sc_run_text.nd rfl (Or.inl rfl))) (fun _ _ _ _ _ => pts_nil) (fun _ _ _ _ _ => (pe_fd G_step_text (hr.mono (by first | decide | omega)) rfl (pa_cons (pv 1) pa_nil)))))))), ?_⟩
  have hdt : DA H (.ref t) (.tuple ds) := .tup ht hds
  refine seq_in ?_
  refine notb_in ?_
  refine ⟨_, rfl, _, _, rfl, hdt, fun es e d hd => kd_of (hok d (by cases e; exact hd)).st, by rw [vsz]; omega, fun H1 g1 => ⟨_, rfl, ?_⟩⟩
  have hst : stepsB (.tuple ds) = true := List.all_eq_true.mpr fun d hd => (hok d hd).st
  rw [hst]
  refine iteF ?_
  refine next_in ?_
  refine nx_in ?_
  refine ret_in ?_
  have ht1 := g1 _ _ ht
  have hds1 := hds.same g1
  have hxl := hds.len
  refine ⟨⟨_, rfl⟩, _, rfl, t, rfl, ⟨_, .of ht1⟩, fun D hD => ?_⟩
  refine lc_coll (R := RS) (walk_tup (xs := xs)) (fun i => [stepT (ds.getD i .none)]) hD (fun H' g => .of (g _ _ ht1)) ?_ ?_
  · rintro j x H2 H3 hj cc ⟨rfl, hx⟩ M hM
    obtain ⟨dx, hdx, vx⟩ := DAs.at_ hds1 hx
    have hmx : dx ∈ ds := List.mem_of_getElem? hdx
    refine ⟨rfl, yes_in ?_⟩
    refine ⟨_, rfl, x, dx, rfl, vx.same cc.1, hok dx hmx, fun H4 g4 => ?_⟩
    refine coll_app stab_str hD cc g4 (a := stepT dx) rfl ?_ ?_
    · rw [fm_one, List.length_map, List.length_range]; omega
    · intro H5 c5
      refine hM H5 ?_
      rw [show ds.getD j .none = dx by rw [List.getD_eq_getElem?_getD, hdx] <;> rfl]
      exact c5
  · intro H2 cc
    obtain ⟨g2, hacc⟩ := coll_strs cc
    rw [hxl, fm_getD (fun d => [stepT d]) .none, fm_one] at hacc
    have e1 : ("\n" : Str).length = 1 := by decide +kernel
    have hs : ((ds.map stepT).map (·.length)).sum ≤ 220000 * (ds.map stepT).length := sum_len fun y hy => by
      obtain ⟨d, hd, rfl⟩ := List.mem_map.mp hy
      exact stepT_len (hok d hd)
    rw [List.length_map] at hs
    exact ⟨"\n", D, _, rfl, rfl, .inl (.of hacc), by rw [e1, List.length_map]; omega, q _ (g1.trans g2)⟩
theorem ok_run_textX (F : Fun K "run_text" "run_text" s_run_text f fd) (T : RTx mg) (hE : ErrC P w K mg base "BadRun" CE) (G_are_steps : Fd P w K mg base CX0 "are_steps" 6 ["value"] spStepsA) : FnOk P w K mg base (L2.CX P w) 7 f fd ["run"] (spRunTxtX CE) := by
  refine F.okX sc_run_text (fun vs H Q E h => ?_) (fun cdv A outer s0 H vs Q E hr h => ?_)
  · obtain ⟨v, d, rfl, _⟩ := h
    rfl
  obtain ⟨v, d, rfl, hd, hk, hz, hb, q⟩ := h
  refine ⟨_, (pss_cons (ps_if (pt_not (pt_val (pe_fd G_are_steps (hr.mono (by first | decide | omega)) rfl (pa_cons (pv 0) pa_nil)))) (pss_one (ps_raiseE rfl (takes_of rfl rfl rfl rfl) hE (hr.mono (by decide)) rfl (pv 0))) pss_nil)
  (pss_one ps_no)), ?_⟩
  refine seq_in ?_
  refine notb_in ?_
  refine ⟨_, rfl, v, d, rfl, hd, hk, hz, fun H' g => ⟨_, rfl, ?_⟩⟩
  rw [hb]
  exact iteT ⟨_, rfl, fun e he => q _ _ g he⟩
abbrev s_run_in : Stmt := top 26
theorem sc_run_in : FnScope ["text", "run", "number", "line", "step"] ["text"] (defScope s_run_in) := ⟨rfl, rfl, rfl, by decide +kernel, rfl, by decide +kernel, by decide +kernel⟩
theorem ok_run_in (F : Fun K "run_in" "run_in" s_run_in f fd) (T : RTx mg) (G_step_in : Fd P w K mg base CX0 "step_in" 6 ["line"] spStepIn) : FnOk P w K mg base CX0 7 f fd ["text"] spRunIn := by
  refine F.ok sc_run_in (fun vs H Q E h => ?_) (fun cdv A outer s0 H vs Q E hr h => ?_)
  · obtain ⟨z, ds, rfl, _⟩ := h
    rfl
  obtain ⟨z, ds, rfl, hc, q⟩ := h
  refine ⟨_, (pss_cons (ps_if (pt_not (pt_val (pe_callB call_isi rfl T.isinstance (by decide +kernel) (pa_cons (pv 0) (pa_cons (pe_bltn (v := .ty "str") rfl T.str boot_str rfl) pa_nil))))) (pss_one (ps_no)) pss_nil)
  (pss_cons (ps_if (pt_cmpR op_eq (pv 0) pe_str (nomark _)) (pss_one (ps_ret (pe_tup pa_nil))) pss_nil)
  (pss_cons (ps_set (i := 1) sc_run_in.nd rfl (Or.inl rfl) (pe_lst pa_nil))
  (pss_cons (ps_for PassesOwn.never rfl (pi_enumS rfl T.enumerate (pa_cons (pe_split (pv 0) pe_str) (pa_cons pe_int pa_nil))) (pg_tup rfl (pgs_cons (pg_name (i := 2) sc_run_in.nd rfl (Or.inl rfl)) (pgs_cons (pg_name (i := 3) sc_run_in.nd rfl (Or.inl rfl)) pgs_nil))) (pss_cons (ps_set (i := 4) sc_run_in.nd rfl (Or.inl rfl) (pe_fd G_step_in (hr.mono (by first | decide | omega)) rfl (pa_cons (pv 3) pa_nil)))
  (pss_cons (ps_if (pt_cmpR op_isN (pv 4) pe_non (nomark _)) (pss_one (ps_no)) pss_nil)
  (pss_one (ps_expr (pe_bm PySem.F.plainAttrs_list PySem.F.slot_list_append PySem.F.type_list_append mt_append (pv 1) (pa_cons (pv 4) pa_nil)))))))
  (pss_one (ps_ret (pe_callTy call_tuple_of rfl T.tuple (by decide +kernel) (pa_cons (pv 1) pa_nil)))))))), ?_⟩
  refine seq_in ?_
  refine notb_in ?_
  refine ⟨_, rfl, _, _, _, _, _, rfl, .ty "str", (DA.str z : DA H _ _).ty (K := K), kit_str _, _, rfl, iteF ?_⟩
  refine next_in ?_
  refine nx_in ?_
  refine seq_in ?_
  refine ⟨_, rfl, rfl, _, rfl, ?_⟩
  rw [vstr_eq]
  refine ite2 (fun c => ?_) (fun c => ?_)
  · have c := of_decide_eq_true c
    rcases hc with ⟨_, rfl⟩ | ⟨h, _⟩
    · exact ret_in ⟨szl (by show 0 ≤ _; decide), fun t nt => q t [] _ (same_new nt _) upd_same .nil⟩
    · exact absurd c h
  have c : z ≠ "" := of_decide_eq_false (by simpa using c)
  rcases hc with ⟨h, _⟩ | ⟨_, hz, hfew, hok, hmap⟩
  · exact absurd h c
  refine next_in ?_
  refine nx_in ?_
  refine seq_in ?_
  refine asg_in ?_
  refine ⟨szl (by show 0 ≤ _; decide), fun rl nrl => ?_⟩
  have g1 := same_new nrl (.lst [])
  have hr1 : upd H rl (.lst []) rl = some (.lst []) := upd_same
  generalize upd H rl (.lst []) = H1 at g1 hr1 ⊢
  refine g_set ?_
  refine nx_in ?_
  refine seq_in ?_
  refine ⟨_, rfl, ⟨_, rfl⟩, z, "\n", rfl, rfl, by decide +kernel, szl (by omega), fun p np => ?_⟩
  generalize Txt.split z "\n" = ls at *
  have g2 := same_new np (.lst (ls.map V.str))
  have hp2 : upd H1 p (.lst (ls.map V.str)) p = some (.lst (ls.map V.str)) := upd_same
  have hr2 := g2 _ _ hr1
  have gp := g1.trans g2
  generalize upd H1 p (.lst (ls.map V.str)) = H2 at g2 hp2 hr2 gp ⊢
  have hpr : p ≠ rl := fun z => by rw [z, hr1] at np; cases np
  have hll : ls.length = ds.length := by simpa using congrArg List.length hmap
  have hst : ∀ i (h : i < ds.length), ∃ h' : i < ls.length, stepIn ls[i] = some ds[i] := fun i h => ⟨by omega, by
    have := congrArg (·[i]?) hmap
    simpa [h, show i < ls.length by omega] using this⟩
  have hpl : ∀ i, plBs (ds.take i) = true := fun i => by
    rw [plBs_all, List.all_eq_true]
    intro d hd
    obtain ⟨j, hj, e⟩ := List.getElem_of_mem (List.mem_of_mem_take hd)
    obtain ⟨_, e2⟩ := hst j hj
    rw [e] at e2
    exact step_pl (stepIn_st e2)
  refine ⟨p, ls.map V.str, 1, rfl, .of hp2, by decide, by decide, for_it (walk_enumS (xs := ls.map V.str)) (fun i σ G => ∃ u2 u3 u4 acc, σ = [some (.str z), some (.ref rl), u2, u3, u4] ∧ Same H G ∧ G p = some (.lst (ls.map V.str)) ∧ G rl = some (.lst acc) ∧ DAs G acc (ds.take i)) ⟨_, _, _, [], rfl, gp, hp2, hr2, .nil⟩ ?_ ?_ ?_⟩
  · rintro i σ G hi ⟨_, _, _, _, rfl, _, hp, _⟩
    exact .of hp
  · rintro i x σ G G1 hi ⟨u2, u3, u4, acc, rfl, g, hp, hr, hacc⟩ ⟨T', y, rfl, hT, rfl, hy⟩
    have hi' : i < ls.length := by rw [List.length_map] at hi; exact hi
    rw [List.getElem?_map, List.getElem?_eq_getElem hi'] at hy
    cases hy
    have k1 := same_new hT (.tup [.int (1 + (i : Nat)), .str ls[i]])
    have hT1 : upd G T' (.tup [.int (1 + (i : Nat)), .str ls[i]]) T' = some (.tup [.int (1 + (i : Nat)), .str ls[i]]) := upd_same
    generalize upd G T' (.tup [.int (1 + (i : Nat)), .str ls[i]]) = G1 at k1 hT1 ⊢
    refine ⟨T', _, rfl, .of hT1, rfl, _, _, rfl, _, _, rfl, rfl, ?_⟩
    refine seq_in ?_
    refine asg_in ?_
    refine ⟨_, rfl, ls[i], rfl, hok _ (List.getElem_mem hi'), fun v G2 k2 hv => ?_⟩
    obtain ⟨_, es⟩ := hst i (by omega)
    rw [es] at hv
    have hv : DA G2 v ds[i] := hv
    have k3 := k1.trans k2
    have hr3 := k3 _ _ hr
    refine g_set ?_
    refine nx_in ?_
    refine seq_in ?_
    refine ⟨_, rfl, rfl, _, rfl, ?_⟩
    have hnn : decide (v = .non) = false := by
      rw [non_of hv]
      obtain ⟨_, _, _, e, _⟩ := step_of (stepIn_st es)
      rw [e]; rfl
    rw [hnn]
    refine iteF ?_
    refine next_in ?_
    refine nx_in ?_
    have hal := hacc.len
    have kt : ∀ {a : Addr} {xs : List V}, G2 a = some (.tup xs) → upd G2 rl (.lst (acc ++ [v])) a = some (.tup xs) := fun {a xs} e => by
      rw [upd_ne (fun z => by rw [z, hr3] at e; cases e)]; exact e
    refine ⟨_, rfl, .inl ⟨rfl, _, .of hr3⟩, _, rfl, rl, acc, v, rfl, rfl, hr3, szt (by rw [hal, List.length_take]; omega), ?_⟩
    refine ⟨_, _, _, acc ++ [v], rfl, same_put (g.trans k3) nrl, by rw [upd_ne hpr]; exact k3 _ _ hp, upd_same, ?_⟩
    rw [List.take_succ_eq_append_getElem (by omega)]
    exact ((hacc.same k3).keepP kt (hpl i)).app (.cons (hv.keepP kt (step_pl (stepIn_st es))) .nil)
  · rintro σ G ⟨u2, u3, u4, acc, rfl, g, hp, hr, hacc⟩
    rw [List.length_map, hll, List.take_length] at hacc
    refine nx_in ?_
    refine ret_in ?_
    refine ⟨_, rfl, rl, acc, rfl, .inl ⟨.of hr, fun t nt => ?_⟩⟩
    have k := same_new nt (.tup acc)
    exact q t acc _ (g.trans k) upd_same (hacc.same k)
theorem ok_run_inX (F : Fun K "run_in" "run_in" s_run_in f fd) (T : RTx mg) (hE : ErrC P w K mg base "BadText" CE) (G_step_in : Fd P w K mg base CX0 "step_in" 6 ["line"] spStepIn) : FnOk P w K mg base (L2.CX P w) 7 f fd ["text"] (spRunInX CE) := by
  refine F.okX sc_run_in (fun vs H Q E h => ?_) (fun cdv A outer s0 H vs Q E hr h => ?_)
  · obtain ⟨v, n, rfl, _⟩ := h
    rfl
  obtain ⟨v, n, rfl, hc, q⟩ := h
  refine ⟨_, (pss_cons (ps_if (pt_not (pt_val (pe_callB call_isi rfl T.isinstance (by decide +kernel) (pa_cons (pv 0) (pa_cons (pe_bltn (v := .ty "str") rfl T.str boot_str rfl) pa_nil))))) (pss_one (ps_raiseE rfl (takes_of rfl rfl rfl rfl) hE (hr.mono (by decide)) rfl pe_int)) pss_nil)
  (pss_cons (ps_if (pt_cmpR op_eq (pv 0) pe_str (nomark _)) (pss_one (ps_ret (pe_tup pa_nil))) pss_nil)
  (pss_cons (ps_set (i := 1) sc_run_in.nd rfl (Or.inl rfl) (pe_lst pa_nil))
  (pss_cons (ps_for (passes_of rfl) rfl (pi_enumS rfl T.enumerate (pa_cons (pe_split (pv 0) pe_str) (pa_cons pe_int pa_nil))) (pg_tup rfl (pgs_cons (pg_name (i := 2) sc_run_in.nd rfl (Or.inl rfl)) (pgs_cons (pg_name (i := 3) sc_run_in.nd rfl (Or.inl rfl)) pgs_nil))) (pss_cons (ps_set (i := 4) sc_run_in.nd rfl (Or.inl rfl) (pe_fd G_step_in (hr.mono (by first | decide | omega)) rfl (pa_cons (pv 3) pa_nil)))
  (pss_cons (ps_if (pt_cmpR op_isN (pv 4) pe_non (nomark _)) (pss_one (ps_raiseE rfl (takes_of rfl rfl rfl rfl) hE (hr.mono (by decide)) rfl (pv 2))) pss_nil)
  (pss_one (ps_expr (pe_bm PySem.F.plainAttrs_list PySem.F.slot_list_append PySem.F.type_list_append mt_append (pv 1) (pa_cons (pv 4) pa_nil)))))))
  (pss_one (ps_ret (pe_callTy call_tuple_of rfl T.tuple (by decide +kernel) (pa_cons (pv 1) pa_nil)))))))), ?_⟩
  rcases hc with ⟨rfl, d, hd, hs⟩ | ⟨z, k, l0, rfl, c, hz, hfew, hok, hpre, hk, hbad, rfl⟩
  · refine seq_in ?_
    refine notb_in ?_
    refine ⟨_, rfl, _, _, _, _, _, rfl, .ty "str", hd.ty (K := K), kit_str d, _, rfl, ?_⟩
    rw [hs]
    exact iteT fun e he => q _ _ (Same.refl _) he
  refine seq_in ?_
  refine notb_in ?_
  refine ⟨_, rfl, _, _, _, _, _, rfl, .ty "str", (DA.str z : DA H _ _).ty (K := K), kit_str _, _, rfl, iteF ?_⟩
  refine next_in ?_
  refine nx_in ?_
  refine seq_in ?_
  refine ⟨_, rfl, rfl, _, rfl, ?_⟩
  rw [vstr_eq, decide_eq_false c]
  refine iteF ?_
  refine next_in ?_
  refine nx_in ?_
  refine seq_in ?_
  refine asg_in ?_
  refine ⟨szl (by show 0 ≤ _; decide), fun rl nrl => ?_⟩
  have g1 := same_new nrl (.lst [])
  have hr1 : upd H rl (.lst []) rl = some (.lst []) := upd_same
  generalize upd H rl (.lst []) = H1 at g1 hr1 ⊢
  refine g_set ?_
  refine nx_in ?_
  refine seq_in ?_
  refine ⟨_, rfl, ⟨_, rfl⟩, z, "\n", rfl, rfl, by decide +kernel, szl (by omega), fun p np => ?_⟩
  generalize Txt.split z "\n" = ls at *
  have g2 := same_new np (.lst (ls.map V.str))
  have hp2 : upd H1 p (.lst (ls.map V.str)) p = some (.lst (ls.map V.str)) := upd_same
  have hr2 := g2 _ _ hr1
  have gp := g1.trans g2
  generalize upd H1 p (.lst (ls.map V.str)) = H2 at g2 hp2 hr2 gp ⊢
  have hpr : p ≠ rl := fun z => by rw [z, hr1] at np; cases np
  have hkl := get_lt hk
  refine ⟨p, ls.map V.str, 1, rfl, .of hp2, by decide, by decide, for_it (walk_enumS (xs := ls.map V.str)) (fun i σ G => ∃ u2 u3 u4 acc, σ = [some (.str z), some (.ref rl), u2, u3, u4] ∧ Same H G ∧ G p = some (.lst (ls.map V.str)) ∧ G rl = some (.lst acc) ∧ acc.length = i ∧ i ≤ k) ⟨_, _, _, [], rfl, gp, hp2, hr2, rfl, Nat.zero_le _⟩ ?_ ?_ ?_⟩
  · rintro i σ G hi ⟨_, _, _, _, rfl, _, hp, _⟩
    exact .of hp
  · rintro i x σ G G1 hi ⟨u2, u3, u4, acc, rfl, g, hp, hr, hal, hik⟩ ⟨T', y, rfl, hT, rfl, hy⟩
    have hi' : i < ls.length := by rw [List.length_map] at hi; exact hi
    rw [List.getElem?_map, List.getElem?_eq_getElem hi'] at hy
    cases hy
    have k1 := same_new hT (.tup [.int (1 + (i : Nat)), .str ls[i]])
    have hT1 : upd G T' (.tup [.int (1 + (i : Nat)), .str ls[i]]) T' = some (.tup [.int (1 + (i : Nat)), .str ls[i]]) := upd_same
    generalize upd G T' (.tup [.int (1 + (i : Nat)), .str ls[i]]) = G1 at k1 hT1 ⊢
    refine ⟨T', _, rfl, .of hT1, rfl, _, _, rfl, _, _, rfl, rfl, ?_⟩
    refine seq_in ?_
    refine asg_in ?_
    have hmem : ls[i] ∈ ls.take (k + 1) := by
      rw [List.mem_take_iff_getElem]
      exact ⟨i, by omega, rfl⟩
    refine ⟨_, rfl, ls[i], rfl, hok _ hmem, fun v G2 k2 hv => ?_⟩
    have k3 := k1.trans k2
    have hr3 := k3 _ _ hr
    refine g_set ?_
    refine nx_in ?_
    refine seq_in ?_
    refine ⟨_, rfl, rfl, _, rfl, ?_⟩
    by_cases hie : i = k
    · subst hie
      have e0 : l0 = ls[i] := by rw [List.getElem?_eq_getElem hi'] at hk; exact (Option.some.inj hk).symm
      rw [← e0, hbad] at hv
      rw [show v = .non from hv]
      refine iteT ?_
      refine ⟨_, rfl, fun e he => ?_⟩
      have en : (1 + ((i : Nat) : Int)) = (i : Int) + 1 := by omega
      rw [en]
      exact q _ _ (g.trans k3) he
    · cases es : stepIn ls[i] with
      | none => exact absurd es (hpre _ (by rw [List.mem_take_iff_getElem]; exact ⟨i, by omega, rfl⟩))
      | some d =>
        rw [es] at hv
        have hv : DA G2 v d := hv
        have hnn : decide (v = .non) = false := by
          rw [non_of hv]
          obtain ⟨_, _, _, e, _⟩ := step_of (stepIn_st es)
          rw [e]; rfl
        rw [hnn]
        refine iteF ?_
        refine next_in ?_
        refine nx_in ?_
        refine ⟨_, rfl, .inl ⟨rfl, _, .of hr3⟩, _, rfl, rl, acc, v, rfl, rfl, hr3, szt (by omega), ?_⟩
        exact ⟨_, _, _, acc ++ [v], rfl, same_put (g.trans k3) nrl, by rw [upd_ne hpr]; exact k3 _ _ hp, upd_same, by simp [hal], by omega⟩
  · rintro σ G ⟨u2, u3, u4, acc, rfl, g, hp, hr, hal, hik⟩
    rw [List.length_map] at hik
    omega
end
end Fp
namespace Fp
open PySem PySem.Spec PyProof.Rows L2
structure LTx (mg : Str → Option Value) : Prop where
  len : mg "len" = none
  int : mg "int" = none
  sum : mg "sum" = none
  abs : mg "abs" = none
  list : mg "list" = none
  tuple : mg "tuple" = none
  range : mg "range" = none
  max : mg "max" = none
  min : mg "min" = none
  repr : mg "repr" = none
  all : mg "all" = none
  enumerate : mg "enumerate" = none
theorem modNat'' : True := trivial
theorem atI0 {α : Type} {l : List α} {v : α} (h : l[0]? = some v) : atI l 0 = some v := atI_nat (j := 0) h
section
variable {P : Program} {w : World} {K : PySem.W.Frag} {mg : Str → Option Value} {base : Heap} {f : Addr} {fd : FuncData} {C : Addr}
abbrev s_law_take : Stmt := top 29
theorem sc_law_take : FnScope ["pot", "upto", "digit", "prime", "blend"] ["pot", "upto"] (defScope s_law_take) := ⟨rfl, rfl, rfl, by decide +kernel, rfl, by decide +kernel, by decide +kernel⟩
theorem ok_law_take (F : Fun K "_law_take" "_law_take" s_law_take f fd) (T : LTx mg) : FnOk P w K mg base CX0 1 f fd ["pot", "upto"] spTake := by
  refine F.ok sc_law_take (fun vs H Q E h => ?_) (fun cdv A outer s H vs Q E hr h => ?_)
  · obtain ⟨p, u, n, rfl, _⟩ := h
    rfl
  obtain ⟨p, u, n, rfl, h0, h1, hn, hP, q⟩ := h
  obtain ⟨a, b, c, hp, hb0, hb1, hc0, hc1⟩ := hP
  refine ⟨_, (pss_cons (ps_if (pt_cmpR op_gt (pe_ix ix_list (pv 0) pe_int (fun _ _ => rfl)) pe_int (nomark _)) (pss_cons (ps_set (i := 2) sc_law_take.nd rfl (Or.inl rfl) (pe_op op_mod (pe_callTy call_int1 rfl T.int (by decide +kernel) (pa_cons (pe_ix ix_list (pv 0) pe_int (fun _ _ => rfl)) pa_nil)) (pv 1)))
  (pss_cons (ps_asg (pe_op op_fdiv (pe_ix ix_list (pv 0) pe_int (fun _ _ => rfl)) (pv 1)) (pg_sub (pv 0) pe_int set_list))
  (pss_one (ps_ret (pv 2))))) pss_nil)
  (pss_cons (ps_asg (pe_op op_add (pe_ix ix_list (pv 0) pe_int (fun _ _ => rfl)) pe_int) (pg_sub (pv 0) pe_int set_list))
  (pss_cons (ps_set (i := 3) sc_law_take.nd rfl (Or.inl rfl) (pe_ix ix_list (pe_lst (pa_cons pe_int (pa_cons pe_int (pa_cons pe_int (pa_cons pe_int (pa_cons pe_int pa_nil)))))) (pe_op op_mod (pe_callTy call_int1 rfl T.int (by decide +kernel) (pa_cons (pe_ix ix_list (pv 0) pe_int (fun _ _ => rfl)) pa_nil)) pe_int) (fun _ _ => rfl)))
  (pss_cons (ps_set (i := 4) sc_law_take.nd rfl (Or.inl rfl) (pe_op op_mod (pe_callTy call_int1 rfl T.int (by decide +kernel) (pa_cons (pe_op op_pow (pe_callTy call_int1 rfl T.int (by decide +kernel) (pa_cons (pe_op op_add (pe_op op_add (pe_ix ix_list (pv 0) pe_int (fun _ _ => rfl)) (pe_op op_mul (pe_op op_mul pe_int (pe_ix ix_list (pv 0) pe_int (fun _ _ => rfl))) (pe_ix ix_list (pv 0) pe_int (fun _ _ => rfl)))) pe_int) pa_nil)) pe_int) pa_nil)) (pv 3)))
  (pss_one (ps_ret (pe_op op_mod (pe_callTy call_int1 rfl T.int (by decide +kernel) (pa_cons (pe_op op_fdiv (pe_op op_mul (pv 4) (pe_op op_add (pe_op op_mod (pe_callTy call_int1 rfl T.int (by decide +kernel) (pa_cons (pv 4) pa_nil)) pe_int) (pe_op op_mul pe_int (pe_ix ix_list (pv 0) pe_int (fun _ _ => rfl))))) pe_int) pa_nil)) (pv 1)))))))), ?_⟩
  refine ⟨_, rfl, p, _, _, _, rfl, rfl, .of hp, rfl, _, _, rfl, rfl, _, rfl, ?_⟩
  refine ite2 (fun ca => ?_) (fun ca => ?_)
  · refine ⟨_, rfl, p, _, _, _, rfl, rfl, .of hp, rfl, .inl ⟨_, rfl, _, rfl, _, _, rfl, rfl, h0, ?_⟩⟩
    refine ⟨_, rfl, p, _, _, _, rfl, rfl, .of hp, rfl, _, rfl, _, _, rfl, rfl, ⟨h0, by omega⟩, ?_⟩
    refine ⟨_, rfl, p, _, _, _, rfl, rfl, hp, rfl, ?_⟩
    refine ⟨_, rfl, ?_⟩
    obtain ⟨d, hd, hd2⟩ := modNat a h0
    show Q (V.int (a % u)) _
    rw [hd]
    refine q d _ hd2 ((But.refl _ H).put (by simp)) ?_
    exact ⟨a / u, b, c, upd_same, hb0, hb1, hc0, by omega⟩
  · refine ⟨_, rfl, p, _, _, _, rfl, rfl, .of hp, rfl, _, _, rfl, rfl, ?_⟩
    refine ⟨_, rfl, p, _, _, _, rfl, rfl, hp, rfl, ?_⟩
    have hp1 : upd H p (.lst [V.int a, V.int b, V.int (c + 1)]) p = some (.lst [V.int a, V.int b, V.int (c + 1)]) := upd_same
    have g1 : But [p] H (upd H p (.lst [V.int a, V.int b, V.int (c + 1)])) := (But.refl _ H).put (by simp)
    refine ⟨(by show 5 ≤ sizeLine; decide), fun l hl => ?_⟩
    have g2 := g1.new (o := .lst [V.int 2147483647, V.int 2147483629, V.int 2147483587, V.int 2147483579, V.int 2147483563]) hl
    have np : p ≠ l := ne_of_none hp1 hl
    have hp2 : upd (upd H p (.lst [V.int a, V.int b, V.int (c + 1)])) l (.lst [V.int 2147483647, V.int 2147483629, V.int 2147483587, V.int 2147483579, V.int 2147483563]) p = some (.lst [V.int a, V.int b, V.int (c + 1)]) := by
      rw [upd_ne np]; exact hp1
    obtain ⟨i5, hi5, hi5b⟩ := modNat (c + 1) (show (0 : Int) < 5 by decide)
    obtain ⟨pr, hpr, hpr0, hpr1⟩ : ∃ pr : Int, ([V.int 2147483647, V.int 2147483629, V.int 2147483587, V.int 2147483579, V.int 2147483563] : List V)[i5]? = some (.int pr) ∧ 0 < pr ∧ pr < 2147483648 := by
      have : i5 < 5 := by omega
      match i5, this with
      | 0, _ => exact ⟨_, rfl, by decide, by decide⟩
      | 1, _ => exact ⟨_, rfl, by decide, by decide⟩
      | 2, _ => exact ⟨_, rfl, by decide, by decide⟩
      | 3, _ => exact ⟨_, rfl, by decide, by decide⟩
      | 4, _ => exact ⟨_, rfl, by decide, by decide⟩
    refine ⟨_, rfl, p, _, _, _, rfl, rfl, .of hp2, rfl, .inl ⟨_, rfl, _, _, rfl, rfl, (by show (0 : Int) < 5; decide), ?_⟩⟩
    refine ⟨l, _, (c + 1) % 5, _, rfl, rfl, .of upd_same, (by rw [hi5]; exact atI_nat hpr), ?_⟩
    refine ⟨_, rfl, p, _, _, _, rfl, rfl, .of hp2, rfl, _, rfl, p, _, _, _, rfl, rfl, .of hp2, rfl, _, _, rfl, rfl, .inl (by constructor <;> decide), ?_⟩
    refine ⟨_, rfl, p, _, _, _, rfl, rfl, .of hp2, rfl, _, _, rfl, rfl, .inr (by constructor <;> omega), _, _, rfl, rfl, _, _, rfl, rfl, .inl ⟨_, rfl, _, _, rfl, rfl, ⟨by decide, by decide, ?_⟩, .inl ⟨_, rfl, ?_⟩⟩⟩
    · have hq := sq_le 100311 (c := c + 1) (by omega) (by omega)
      generalize 100311 * (c + 1) * (c + 1) = z at hq ⊢
      omega
    refine ⟨_, rfl, _, _, rfl, rfl, hpr0, ?_⟩
    obtain ⟨bl, hbl, hbl2⟩ := modNat ((b + 100311 * (c + 1) * (c + 1) + 1227) ^ 3) hpr0
    refine ⟨_, rfl, _, rfl, .inl ⟨_, rfl, _, _, rfl, rfl, (by show (0 : Int) < 10907; decide), ?_⟩⟩
    refine ⟨_, rfl, p, _, _, _, rfl, rfl, .of hp2, rfl, _, _, rfl, rfl, .inl (by constructor <;> decide), _, _, rfl, rfl, _, _, rfl, rfl, .inl ?_, ?_⟩
    · show -(2 ^ 64) < (b + 100311 * (c + 1) * (c + 1) + 1227) ^ (Int.toNat 3) % pr ∧ (b + 100311 * (c + 1) * (c + 1) + 1227) ^ (Int.toNat 3) % pr < 2 ^ 64
      have e3 : Int.toNat 3 = 3 := rfl
      rw [e3, hbl]; constructor <;> omega
    refine ⟨_, _, rfl, rfl, ⟨by decide, by decide⟩, .inl ⟨_, rfl, _, rfl, _, _, rfl, rfl, h0, ?_⟩⟩
    refine (fun (z : ∀ x : Int, Q (.int (x % u)) (upd (upd H p (.lst [V.int a, V.int b, V.int (c + 1)])) l (.lst [V.int 2147483647, V.int 2147483629, V.int 2147483587, V.int 2147483579, V.int 2147483563]))) => z _) (fun x => ?_)
    obtain ⟨d, hd, hd2⟩ := modNat x h0
    rw [hd]
    exact q d _ hd2 g2 ⟨a, b, c + 1, hp2, hb0, hb1, by omega, by omega⟩
abbrev s_law_of : Stmt := top 30
theorem sc_law_of : FnScope ["pot", "some"] ["pot", "some"] (defScope s_law_of) := ⟨rfl, rfl, rfl, by decide +kernel, rfl, by decide +kernel, by decide +kernel⟩
theorem ok_law_of (F : Fun K "_law_of" "_law_of" s_law_of f fd) (T : LTx mg) (G_law_take : Fd P w K mg base CX0 "_law_take" 1 ["pot", "upto"] spTake) : FnOk P w K mg base CX0 2 f fd ["pot", "some"] (spOf K) := by
  refine F.ok sc_law_of (fun vs H Q E h => ?_) (fun cdv A outer s H vs Q E hr h => ?_)
  · obtain ⟨p, q, xs, n, rfl, _⟩ := h
    rfl
  obtain ⟨p, q, xs, n, rfl, hS, hne, hx, hx1, hn, hP, k⟩ := h
  refine ⟨_, (pss_one (ps_ret (pe_ix ix_list (pv 1) (pe_fd G_law_take (hr.mono (by first | decide | omega)) rfl (pa_cons (pv 0) (pa_cons (pe_callB call_len rfl T.len (by decide +kernel) (pa_cons (pv 1) pa_nil)) pa_nil))) (fun _ _ => rfl)))), ?_⟩
  have hpos : 0 < xs.length := List.length_pos_iff.mpr hx
  refine ⟨_, rfl, _, rfl, _, rfl, _, xs.length, rfl, .inl ⟨xs, hS, rfl⟩, p, _, n, rfl, by omega, by omega, hn, hP, fun d H' hd g hP' => ?_⟩
  have hdl : d < xs.length := by omega
  refine ⟨q, xs, _, xs[d], rfl, rfl, g.seq hS (by simpa using hne), atI_nat (by simp [hdl]), ?_⟩
  exact k d _ H' (by simp [hdl]) g hP'
abbrev s_law_some : Stmt := top 31
theorem sc_law_some : FnScope ["pot", "pool", "many", "left", "found", "lap"] ["pot", "pool", "many"] (defScope s_law_some) := ⟨rfl, rfl, rfl, by decide +kernel, rfl, by decide +kernel, by decide +kernel⟩
theorem ok_law_some (F : Fun K "_law_some" "_law_some" s_law_some f fd) (T : LTx mg) (G_law_take : Fd P w K mg base CX0 "_law_take" 1 ["pot", "upto"] spTake) : FnOk P w K mg base CX0 2 f fd ["pot", "pool", "many"] (spSome K) := by
  refine F.ok sc_law_some (fun vs H Q E h => ?_) (fun cdv A outer s H vs Q E hr h => ?_)
  · obtain ⟨p, q, xs, m, n, rfl, _⟩ := h
    rfl
  obtain ⟨p, q, xs, m, n, rfl, hS, hm, hx1, hn, hP, k⟩ := h
  refine ⟨_, (pss_cons (ps_par (i := 3) (j := 4) (by rfl) sc_law_some.nd rfl rfl (by decide) rfl rfl (pa_cons (pe_callTy call_list_of rfl T.list (by decide +kernel) (pa_cons (pv 1) pa_nil)) (pa_cons (pe_lst pa_nil) pa_nil)) (by rfl))
  (pss_cons (ps_for PassesOwn.never rfl (pi_range1 rfl T.range (pa_cons (pv 2) pa_nil)) (pg_name (i := 5) sc_law_some.nd rfl (Or.inl rfl)) (pss_one (ps_expr (pe_bm PySem.F.plainAttrs_list PySem.F.slot_list_append PySem.F.type_list_append mt_append (pv 4) (pa_cons (pe_bm PySem.F.plainAttrs_list PySem.F.slot_list_pop PySem.F.type_list_pop mt_popAt (pv 3) (pa_cons (pe_fd G_law_take (hr.mono (by first | decide | omega)) rfl (pa_cons (pv 0) (pa_cons (pe_callB call_len rfl T.len (by decide +kernel) (pa_cons (pv 3) pa_nil)) pa_nil))) pa_nil)) pa_nil)))))
  (pss_one (ps_ret (pv 4))))), ?_⟩
  have hp0 := hP.there
  refine ⟨_, rfl, q, xs, rfl, hS, fun l1 n1 => ?_⟩
  refine ⟨(by show 0 ≤ sizeLine; decide), fun l2 n2 => ⟨_, _, rfl, ?_⟩⟩
  have n2' : H l2 = none := (same_new n1 _).free n2
  have d1 : l1 ≠ l2 := ne_of_none upd_same n2
  have e1 : p ≠ l1 := ne_of_none hp0.choose_spec n1
  have e2 : p ≠ l2 := ne_of_none hp0.choose_spec n2'
  have g0 : But [p] H (upd (upd H l1 (.lst xs)) l2 (.lst [])) := ((But.refl [p] H).new n1).new n2
  refine ⟨_, rfl, _, rfl, by omega, by omega, for_range (lo := 0) (n := m) (fun i σ H' => ∃ ys zs v, σ = [some (.ref p), some (.ref q), some (.int m), some (.ref l1), some (.ref l2), v] ∧ H' l1 = some (.lst zs) ∧ H' l2 = some (.lst ys) ∧ ys.length = i ∧ (ys ++ zs).Perm xs ∧ But [p] H H' ∧ PotAt H' p (n + i)) ?_ ?_ ?_⟩
  · refine ⟨[], xs, _, rfl, ?_, upd_same, rfl, List.Perm.refl _, g0, ?_⟩
    · rw [upd_ne d1]; exact upd_same
    · obtain ⟨a, b, c, h1, h2⟩ := hP
      exact ⟨a, b, c, by rw [upd_ne e2, upd_ne e1]; exact h1, h2⟩
  · rintro i σ H1 hi ⟨ys, zs, v, rfl, hz, hy, hl, hperm, g, hP1⟩
    have hlen : ys.length + zs.length = xs.length := by have := hperm.length_eq; rw [List.length_append] at this; exact this
    refine ⟨_, rfl, .inl ⟨rfl, _, .of hy⟩, _, rfl, .inl ⟨rfl, _, .of hz⟩, _, rfl, _, rfl, _, zs.length, rfl, .inl ⟨zs, .of hz, rfl⟩, p, _, n + i, rfl, by omega, by omega, by omega, hP1, fun d H2 hd g2 hP2 => ?_⟩
    have hdl : d < zs.length := by omega
    have hz2 := g2.at hz (by simpa using Ne.symm e1)
    have hy2 := g2.at hy (by simpa using Ne.symm e2)
    refine ⟨l1, zs, _, d, zs[d], rfl, rfl, hz2, by omega, by omega, by rw [PySem.seqIndex_of (by omega) (by omega)]; simp, by simp [hdl], ?_⟩
    refine ⟨l2, ys, _, rfl, rfl, by rw [upd_ne (Ne.symm d1)]; exact hy2, small1000 (by omega), ?_⟩
    refine ⟨ys ++ [zs[d]], zs.eraseIdx d, _, rfl, ?_, upd_same, by rw [List.length_append, List.length_singleton]; omega, ?_, ?_, ?_⟩
    · rw [upd_ne d1]; exact upd_same
    · have e := erase_perm zs d hdl
      rw [List.append_assoc]
      exact (List.Perm.append_left ys e).trans hperm
    · intro b o nb hb
      have b1 : b ≠ l1 := ne_of_none hb n1
      have b2 : b ≠ l2 := ne_of_none hb n2'
      rw [upd_ne b2, upd_ne b1]
      exact g2 b o nb (g b o nb hb)
    · obtain ⟨a, b, c, h1, h2⟩ := hP2
      exact ⟨a, b, c, by rw [upd_ne e2, upd_ne e1]; exact h1, h2⟩
  · rintro σ H1 ⟨ys, zs, v, rfl, hz, hy, hl, hperm, g, hP1⟩
    refine ⟨_, rfl, ?_⟩
    exact k l2 ys zs H1 hl hperm n2' hy g hP1
abbrev s_law_cells : Stmt := top 32
theorem sc_law_cells : FnScope ["script", "limit"] ["script", "limit"] (defScope s_law_cells) := ⟨rfl, rfl, rfl, by decide +kernel, rfl, by decide +kernel, by decide +kernel⟩
theorem ok_law_cells (F : Fun K "_law_cells" "_law_cells" s_law_cells f fd) (T : LTx mg) : FnOk P w K mg base CX0 1 f fd ["script", "limit"] (spCells K) := by
  refine F.ok sc_law_cells (fun vs H Q E h => ?_) (fun cdv A outer s H vs Q E hr h => ?_)
  · obtain ⟨p, xs, m, rfl, _⟩ := h
    rfl
  obtain ⟨p, xs, m, rfl, hS, hl, hm, k⟩ := h
  refine ⟨_, (pss_one (ps_ret (pe_listRg rfl rfl T.list (prg_1 rfl T.range (pe_callB (call_max2 rfl) rfl T.max (by decide +kernel) (pa_cons pe_int (pa_cons (pe_callB (call_min2 rfl) rfl T.min (by decide +kernel) (pa_cons (pv 1) (pa_cons (pe_callB call_len rfl T.len (by decide +kernel) (pa_cons (pv 0) pa_nil)) pa_nil))) pa_nil))))))), ?_⟩
  refine ⟨_, rfl, _, rfl, _, xs.length, rfl, .inl ⟨_, hS, (List.length_map _).symm⟩, _, _, rfl, _, _, rfl, ?_⟩
  generalize hz : (if (if (xs.length : Int) < (m : Int) then (xs.length : Int) else (m : Int)) > 1 then (if (xs.length : Int) < (m : Int) then (xs.length : Int) else (m : Int)) else 1) = z
  have hz1 : 0 ≤ z ∧ z < 1000 := by subst hz; split <;> (try split) <;> omega
  refine ⟨z, rfl, .of_le (by omega) (by omega) (by omega) (by omega), fun l hln => ?_⟩
  refine k l _ z.toNat (by omega) (same_new hln _) hln ?_
  rw [upd_same]
  unfold rgV
  rw [show (z - 0).toNat = z.toNat by omega]
  simp
abbrev s_law_pot : Stmt := top 28
theorem sc_law_pot : FnScope ["script", "place", "cell", "own", "small"] ["script", "place"] (defScope s_law_pot) := ⟨rfl, rfl, rfl, by decide +kernel, rfl, by decide +kernel, by decide +kernel⟩
theorem ok_law_pot (F : Fun K "_law_pot" "_law_pot" s_law_pot f fd) (T : LTx mg) : FnOk P w K mg base CX0 1 f fd ["script", "place"] (spPot K) := by
  refine F.ok sc_law_pot (fun vs H Q E h => ?_) (fun cdv A outer s H vs Q E hr h => ?_)
  · obtain ⟨p, xs, m, rfl, _⟩ := h
    rfl
  obtain ⟨p, xs, m, rfl, hS, hl, hm, k⟩ := h
  refine ⟨_, (C8.pss_cut (ps_set (i := 2) sc_law_pot.nd rfl (Or.inl rfl) (pe_ifExp (pt_cmpR op_lt (pv 1) (pe_callB call_len rfl T.len (by decide +kernel) (pa_cons (pv 0) pa_nil)) (nomark _)) (pe_ix ix_list (pv 0) (pv 1) (fun _ _ => rfl)) (pe_op op_add (pe_op op_add (pe_op op_mod (pe_callTy call_int1 rfl T.int (by decide +kernel) (pa_cons (pe_callB (cr_sum rfl) rfl T.sum (by decide +kernel) (pa_cons (pe_slice sl_list (pv 0) po_none (po_some pe_int)) pa_nil)) pa_nil)) pe_int) (pe_op op_mul pe_int (pv 1))) pe_int)))
  (pss_cons (ps_set (i := 3) sc_law_pot.nd rfl (Or.inl rfl) (pe_op op_mul (pe_op op_mod (pe_callTy call_int1 rfl T.int (by decide +kernel) (pa_cons (pe_callB call_abs rfl T.abs (by decide +kernel) (pa_cons (pv 2) pa_nil)) pa_nil)) (pe_op op_powB (pe_op op_pow pe_int pe_int) pe_int)) (pe_callTy call_int1 rfl T.int (by decide +kernel) (pa_cons (pe_cmpR op_ge (pe_callB call_abs rfl T.abs (by decide +kernel) (pa_cons (pv 2) pa_nil)) (pe_op op_pow pe_int pe_int) (nomark _)) pa_nil))))
  (pss_cons (ps_set (i := 4) sc_law_pot.nd rfl (Or.inl rfl) (pe_op op_mod (pe_callTy call_int1 rfl T.int (by decide +kernel) (pa_cons (pv 2) pa_nil)) pe_int))
  (pss_one (ps_ret (pe_lst (pa_cons (pv 3) (pa_cons (pe_op op_mod (pe_callTy call_int1 rfl T.int (by decide +kernel) (pa_cons (pe_op op_add (pe_op op_add (pe_op op_mul (pv 4) pe_int) (pe_op op_mul (pe_op op_mul pe_int (pv 1)) (pv 1))) pe_int) pa_nil)) pe_int) (pa_cons pe_int pa_nil))))))))), ?_⟩
  refine ⟨fun σ H1 => ∃ c : Int, σ = [some (.ref p), some (.int m), some (.int c), none, none] ∧ Same H H1, ?_, ?_⟩
  · refine ⟨_, rfl, _, rfl, _, xs.length, rfl, .inl ⟨_, hS, (List.length_map _).symm⟩, _, _, rfl, rfl, _, rfl, ?_⟩
    refine ite2 (fun c => ?_) (fun c => ?_)
    · have c' : m < xs.length := by have := of_decide_eq_true c; omega
      refine ⟨_, rfl, _, rfl, p, _, _, _, rfl, rfl, hS, atI_nat (by rw [List.getElem?_map, List.getElem?_eq_getElem c']; rfl), ?_⟩
      exact ⟨_, rfl, Same.refl _⟩
    · refine ⟨_, rfl, 1, rfl, p, _, rfl, hS, fun l hln => ?_⟩
      have hcut : cutV (xs.map V.int) none (some 1) = (xs.take 1).map V.int := by
        have e1 : HT.sIx (xs.map V.int).length 0 none = 0 := rfl
        have e2 := HT.sIx_nat (xs.map V.int).length (xs.map V.int).length 1
        unfold cutV
        rw [e1, show ((1 : Int)) = ((1 : Nat) : Int) from rfl, e2, List.length_map, List.drop_zero, ← List.map_take]
        cases xs <;> simp
      refine ⟨l, xs.take 1, rfl, .of (by rw [hcut]; exact upd_same), .inl ⟨_, rfl, _, _, rfl, rfl, (by show (0 : Int) < 1000003; decide), ?_⟩⟩
      refine ⟨_, rfl, _, _, rfl, rfl, .inl (by constructor <;> decide), _, _, rfl, rfl, _, _, rfl, rfl, ?_⟩
      exact ⟨_, rfl, same_new hln _⟩
  · rintro σ H1 ⟨c, rfl, g⟩
    refine ⟨_, rfl, _, rfl, .inl ⟨_, rfl, _, _, rfl, rfl, ⟨by decide, by decide, by decide⟩, ?_⟩⟩
    refine ⟨_, _, rfl, rfl, ⟨by decide, bits_ok 200 (by decide +kernel) (by decide) (by decide)⟩, ?_⟩
    refine ⟨_, _, rfl, rfl, (by show (0 : Int) < ((10 : Int) ^ Int.toNat 60) ^ Int.toNat 5; decide +kernel), ?_⟩
    refine ⟨_, rfl, _, rfl, _, _, rfl, rfl, ⟨by decide, by decide, by decide⟩, _, _, rfl, rfl, .inr ⟨_, rfl, _, _, rfl, rfl, .inr (b01 _), ?_⟩⟩
    refine ⟨_, rfl, .inl ⟨_, rfl, _, _, rfl, rfl, (by show (0 : Int) < 2305843009213693951; decide), ?_⟩⟩
    obtain ⟨sm, hs1, hs2⟩ := modNat c (u := 2305843009213693951) (by decide)
    refine ⟨_, rfl, _, rfl, _, _, rfl, rfl, .inr (by constructor <;> decide), _, rfl, _, _, rfl, rfl, .inl (by constructor <;> decide), _, rfl, _, _, rfl, rfl, .inr (by constructor <;> omega), ?_⟩
    refine ⟨_, _, rfl, rfl, _, _, rfl, rfl, .inl ⟨_, rfl, _, _, rfl, rfl, (by show (0 : Int) < 2305843009213693921; decide), ?_⟩⟩
    refine ⟨(by show 3 ≤ sizeLine; decide), fun l hln => ?_⟩
    refine k l _ (fun b o q => same_new hln _ b o (g b o q)) (g.free hln) ?_
    refine ⟨_, _, 0, upd_same, ?_, ?_, Int.le_refl 0, Int.le_refl 0⟩
    · exact Int.emod_nonneg _ (by decide)
    · exact Int.lt_trans (Int.emod_lt_of_pos _ (by decide)) (by decide)
end
end Fp
/-! refused: a call handed on raises the error of a word, with the very value. e: the errors' classes, wo: their words, N of them -/
namespace Fp
open PySem PySem.Spec PyProof.Rows L2 LamX
/-- as spCaught, where the pair is told in the except suite -/
def spCaughtK (P : Program) (w : World) (K : PySem.W.Frag) (mg : Str → Option Value) (base : Heap) (k : Nat) (CH : Addr) : Sp := fun vs H Q _ => ∃ (f : Addr) (sp : Hp → VK → XK → Prop) (R : XK), vs = [.ref f] ∧ CloOk P w K mg base k f sp ∧
  Raises sp H R ∧ ∀ cls d G, R cls d G → PySem.W.exmOne K cls (.ref CH) = some true ∧ ∀ a t, a ≠ t → G a = none → G t = none → Q (.ref t) (upd (upd G t (.tup [.ref a, .non])) a (ErrO cls d a))
structure ErrsN (N : Nat) (K : PySem.W.Frag) (e : Nat → Addr) (CH : Addr) : Prop where
  kit : ∀ i j, i < N → j < N → PySem.W.kitOne K (.ref (e i)) (.ref (e j)) = some (decide (i = j))
  exc : ∀ i, i < N → ExcC K (e i)
  xf : ∀ i, i < N → XfC K (e i)
  noV : ∀ i, i < N → PySem.W.findIn K (.ref (e i)) "value" = some none
  hand : ∀ i, i < N → PySem.W.exmOne K (.ref (e i)) (.ref CH) = some true
def spWordN (N : Nat) (e : Nat → Addr) (wo : Nat → Str) : Sp := fun vs H Q _ => ∃ (a dd : Addr) (i : Nat) (fs : List (Str × V)), vs = [.ref a] ∧ i < N ∧ H a = some (ErrO (.ref (e i)) (some dd) a) ∧ H dd = some (.xd fs) ∧ Q (.str (wo i)) H
def spRefN (N : Nat) (wo : Nat → Str) (P : Program) (w : World) (K : PySem.W.Frag) (mg : Str → Option Value) (base : Heap) (e : Nat → Addr) : Sp := fun vs H Q _ => ∃ (f : Addr) (i : Nat) (v : V) (d : PyData) (sp : Hp → VK → XK → Prop) (R : XK), vs = [.ref f, .str (wo i), v] ∧ i < N ∧ DA H v d ∧ ShowOk d ∧ CloOk P w K mg base 17 f sp ∧ Raises sp H R ∧
  ∀ cls dd G, R cls dd G → ∃ e' v', cls = .ref (e i) ∧ dd = some e' ∧ G e' = some (.xd [("value", v')]) ∧ DA G v' d ∧ DA G v d ∧ ∀ H', Same G H' → Q (.bl true) H'
section
variable {X : Cx} {T : List (Addr × Str)} {params : Arguments} {body : Expr} {scope : Scope} {ys : List Str} {e : Nat → Addr} {wo : Nat → Str} {N i : Nat} {v : V} {d : PyData} {tf tv : TE} {t : XK → TE} {σ : L2.St} {H HZ : Hp} {Q : VK} {f : Addr}
theorem refN_at (ok : X.Ok) (hl : σ.length = X.N.length) (L : LamS X.env.scope scope) (hbind : LamB params body scope) (hbody : LamR X scope body t) (hf : LamAt X HZ f params body scope) (cA : CellsAt X.N X.base σ (lamCl X scope) HZ) (h5 : i < N) (hd : DA HZ v d) (hs : ShowOk d)
    (hR : ∀ Q' E', (∀ e' G0, Same (dropC (lamCs X scope) HZ) G0 → G0 e' = some (.xd [("value", v)]) → E' (.ref (e i)) (some e') G0) → t E' σ (dropC (lamCs X scope) HZ) Q')
    (hQ : ∀ H', Same HZ H' → Q (.bl true) H') : spRefN N wo X.prog X.w X.K X.mg X.base e [.ref f, .str (wo i), v] HZ Q E0 := by
  refine ⟨f, i, v, d, _, fun cls dd G => ∃ G0 e', cls = .ref (e i) ∧ dd = some e' ∧ Same (dropC (lamCs X scope) HZ) G0 ∧ G0 e' = some (.xd [("value", v)]) ∧ (∀ c ∈ lamCs X scope, G0 c = none) ∧ G = backC (lamCs X scope) HZ G0, rfl, h5, hd, hs, lam_clo ok hl L hbind hbody, fun Q' E' hE => ⟨hf, cA, hR _ _ fun e' G0 g he n => hE _ _ _ ⟨G0, e', rfl, rfl, g, he, n, rfl⟩⟩, ?_⟩
  rintro cls dd G ⟨G0, e', rfl, rfl, g, he, n, rfl⟩
  have sg : Same HZ (backC (lamCs X scope) HZ G0) := fun b o q => by
    by_cases m : b ∈ lamCs X scope
    · rw [backC_in m]; exact q
    · rw [backC_out m]; exact g b o (by rw [dropC_out m]; exact q)
  have ne : e' ∉ lamCs X scope := fun m => by rw [n e' m] at he; cases he
  exact ⟨e', v, rfl, rfl, by rw [backC_out ne]; exact he, hd.ext (extN_same sg), hd.ext (extN_same sg), fun H' g' => hQ _ (sg.trans g')⟩
/-- a lambda, made and handed on -/
theorem refN_lam (L : LamS X.env.scope scope) (hbind : LamB params body scope) (hbody : LamR X scope body t) (hy : ∀ y ∈ scope.names, y.2 = .free → y.1 ∈ ys) (h5 : i < N) (hd : DA H v d) (hs : ShowOk d) (hT : Tabs T H)
    (hv : ∀ H1 Q1, ExtN H H1 → Q1 v H1 → tv σ H1 Q1)
    (hR : ∀ G Q' E', Kp H G → (∀ e' G0, Same G G0 → G0 e' = some (.xd [("value", v)]) → E' (.ref (e i)) (some e') G0) → t E' σ G Q')
    (hQ : ∀ H', ExtN H H' → Tabs T H' → Q (.bl true) H') : tCallC X ys (spRefN N wo X.prog X.w X.K X.mg X.base e) (tCons (tLamE X T params body scope) (tCons (tC (.str (wo i))) (tCons tv tNil))) σ H Q := by
  refine ⟨hT, fun f H1 g1 T1 nf hf => ?_⟩
  refine hv _ _ g1 ?_
  intro ok hl cs HZ eD pn cA
  have up : ∀ b o, H1 b = some o → HZ b = some o ∧ b ∉ cs := fun b o q => by
    rw [← eD] at q
    exact ⟨(dropC_some q).2, (dropC_some q).1⟩
  have cL := cA.lam ok L hy
  have ps := cL.pins (lamCl_N ok L)
  have s1 : ∀ {H' : Hp}, Same HZ H' → ∀ b o, H1 b = some o → dropC cs H' b = some o := fun {H'} g b o q => by
    obtain ⟨q1, q2⟩ := up b o q
    rw [dropC_out q2]; exact g _ _ q1
  refine refN_at ok hl L hbind hbody (hf.ext fun b φ q => (up b _ q).1) cL h5 ((hd.ext g1).ext fun b o q _ => (up b o q).1) hs (fun Q' E' hE => hR _ Q' E' (fun b o q n1 n2 => ?_) hE) fun H' g => ⟨fun c m => ?_, hQ _ (fun b o q n => s1 g b o (g1 b o q n)) ?_⟩
  · have q' := (up b o (g1 b o q n1)).1
    rw [dropC_out (ps.no q' n2)]; exact q'
  · obtain ⟨o, z⟩ := pn c m
    rw [z]; exact g _ _ z
  · exact fun p hp => (T1 p hp).ext (s1 g)
end
end Fp
/-! the law's refusals -/
namespace Fp
open PySem PySem.Spec PyProof.Rows L2 LamX
def wo12 : Nat → Str
  | 0 => "BadRun"
  | _ => "BadText"
section
variable {P : Program} {w : World} {K : PySem.W.Frag} {mg : Str → Option Value} {base : Heap} {f : Addr} {fd : FuncData} {C CH : Addr} {e : Nat → Addr}
abbrev s_law_caught : Stmt := top 33
theorem sc_law_caught : FnScope ["call", "act", "caught"] ["call"] (defScope s_law_caught) := ⟨rfl, rfl, rfl, by decide +kernel, rfl, by decide +kernel, by decide +kernel⟩
theorem ok_law_caught (F : Fun K "_law_caught" "_law_caught" s_law_caught f fd) (hH : mg "HandError" = some (.ref CH)) : FnOk P w K mg base CX0 18 f fd ["call"] (spCaughtK P w K mg base 17 CH) := by
  refine F.ok sc_law_caught (fun vs H Q E h => ?_) (fun cdv A outer s H vs Q E hr h => ?_)
  · obtain ⟨g, sp, R, rfl, _⟩ := h
    rfl
  obtain ⟨g, sp, R, rfl, hc, hR, k⟩ := h
  refine ⟨_, (pss_cons (ps_try_kept (i := 2) (c := .ref CH) rfl rfl rfl sc_law_caught.nd rfl rfl ⟨rfl, by decide, .inl hH⟩ takes_no (fun W pn xe tk po => pss_one (ps_set (i := 1) sc_law_caught.nd rfl (Or.inl rfl) (show PE _ _ (tCallClo P w K mg base 0 17 (WE W)) from pe_callClo (i := 0) (E := WE W) hr rfl (.inl rfl) (passAt tk))))
    (fun a oe cls d pn z ff => pss_one (ps_ret (pe_tup (pa_cons (pv 2) (pa_cons pe_non pa_nil))))))
    (pss_one (ps_ret (pe_tup (pa_cons pe_non (pa_cons (pv 1) pa_nil)))))), ?_⟩
  refine ⟨g, sp, rfl, hc, hR _ _ fun cls d G r => ?_⟩
  obtain ⟨e, q⟩ := k cls d G r
  refine ⟨true, e, fun _ a ha => ?_, fun z => by cases z⟩
  refine ⟨_, rfl, ?_⟩
  first | exact fun t ht z => q a t (fun e => by rw [e, upd_same] at z; cases z) ha ht | refine ⟨szl (by show 2 ≤ _; decide), fun t ht z => q a t (fun e => by rw [e, upd_same] at z; cases z) ha ht⟩
abbrev s_law_word : Stmt := top 36
theorem sc_law_word : FnScope ["error"] ["error"] (defScope s_law_word) := ⟨rfl, rfl, rfl, by decide +kernel, rfl, by decide +kernel, by decide +kernel⟩
theorem ok_law_word (F : Fun K "_law_word" "_law_word" s_law_word f fd) (hi : mg "isinstance" = none) (a0 : mg "BadRun" = some (.ref (e 0))) (a1 : mg "BadText" = some (.ref (e 1))) (hE : ErrsN 2 K e CH) : FnOk P w K mg base CX0 1 f fd ["error"] (spWordN 2 e wo12) := by
  refine F.ok sc_law_word (fun vs H Q E h => ?_) (fun cdv A outer s H vs Q E hr h => ?_)
  · obtain ⟨a, dd, i, fs, rfl, _⟩ := h
    rfl
  obtain ⟨a, dd, i, fs, rfl, h5, ha, hd, k⟩ := h
  refine ⟨_, (pss_cons (ps_if (pt_val (pe_callB call_isK rfl hi (by decide +kernel) (pa_cons (pv 0) (pa_cons (pe_glob rfl a0 (v := .ref (e 0)) rfl) pa_nil)))) (pss_one (ps_ret pe_str)) pss_nil)
  (pss_cons (ps_if (pt_val (pe_callB call_isK rfl hi (by decide +kernel) (pa_cons (pv 0) (pa_cons (pe_glob rfl a1 (v := .ref (e 1)) rfl) pa_nil)))) (pss_one (ps_ret pe_str)) pss_nil)
  (pss_one (ps_ret pe_str)))), ?_⟩
  have X := hE.exc i h5
  have rr : ∀ (x : Addr) (u : Value), RelV (.ref x) u → u = .ref x := fun x u r => r
  refine ⟨_, rfl, a, _, dd, fs, _, _, _, rfl, ha, hd, X, rr _, hE.kit i 0 h5 (by decide), _, rfl, ite2 (fun c => ?_) (fun c => ?_)⟩
  · obtain rfl : i = 0 := of_decide_eq_true c
    exact k
  refine ⟨_, rfl, a, _, dd, fs, _, _, _, rfl, ha, hd, X, rr _, hE.kit i 1 h5 (by decide), _, rfl, ite2 (fun c => ?_) (fun c => ?_)⟩
  · obtain rfl : i = 1 := of_decide_eq_true c
    exact k
  · simp at *
    omega
abbrev s_law_is_refused : Stmt := top 34
theorem sc_law_is_refused : FnScope ["call", "word", "value", "caught"] ["call", "word", "value"] (defScope s_law_is_refused) := ⟨rfl, rfl, rfl, by decide +kernel, rfl, by decide +kernel, by decide +kernel⟩
theorem ok_law_is_refused (F : Fun K "_law_is_refused" "_law_is_refused" s_law_is_refused f fd) (T : LTx mg) (hE : ErrsN 2 K e CH) (G_law_caught : Fd P w K mg base CX0 "_law_caught" 18 ["call"] (spCaughtK P w K mg base 17 CH)) (G_law_word : Fd P w K mg base CX0 "_law_word" 1 ["error"] (spWordN 2 e wo12)) : FnOkG P w K mg base CX0 19 f fd ["call", "word", "value"] (spRefN 2 wo12 P w K mg base e) := by
  refine fun_okG F sc_law_is_refused (fun vs H Q E h => ?_) (fun cdv A outer s H vs Q E hr hgu h => ?_)
  · obtain ⟨g, i, v, d, sp, R, rfl, _⟩ := h
    rfl
  obtain ⟨g, i, v, d, sp, R, rfl, h5, hv, hs, hc, hR, k⟩ := h
  refine ⟨_, (pss_cons (ps_set (i := 3) sc_law_is_refused.nd rfl (Or.inl rfl) (pe_ix ix_tup (pe_fd G_law_caught (hr.mono (by first | decide | omega)) rfl (pa_cons (pv 0) pa_nil)) pe_int (fun _ _ => rfl)))
  (pss_one (ps_ret (pe_and (pe_cmpR op_eq (pe_fd G_law_word (hr.mono (by first | decide | omega)) rfl (pa_cons (pv 3) pa_nil)) (pv 1) (nomark _)) (pe_one (pe_cmpR op_eq (pe_callB (call_reprX hgu (u66 hr)) rfl T.repr (by decide +kernel) (pa_cons (pe_xk (pv 3)) pa_nil)) (pe_callB (call_reprX hgu (u66 hr)) rfl T.repr (by decide +kernel) (pa_cons (pv 2) pa_nil)) (nomark _))))))), ?_⟩
  refine ⟨_, rfl, g, sp, R, rfl, hc, hR, fun cls dd G r => ?_⟩
  obtain ⟨e', v', rfl, rfl, he, hv', hv2, q⟩ := k cls dd G r
  refine ⟨hE.hand i h5, fun a t nat na nt => ?_⟩
  have na' : upd G t (.tup [.ref a, .non]) a = none := by rw [upd_ne nat]; exact na
  have g1 : Same G (upd (upd G t (.tup [.ref a, .non])) a (ErrO (.ref (e i)) (some e') a)) := (same_new nt _).trans (same_new na' _)
  refine ⟨t, _, _, _, rfl, rfl, .of (by rw [upd_ne (Ne.symm nat)]; exact upd_same), rfl, ?_⟩
  refine ⟨_, rfl, a, e', i, _, rfl, h5, upd_same, g1 _ _ he, ?_⟩
  refine ⟨_, rfl, rfl, _, rfl, ite_yes (decide_eq_true rfl) ?_⟩
  refine ⟨_, rfl, a, _, e', _, v', rfl, upd_same, g1 _ _ he, rfl, hE.xf i h5, hE.noV i h5, v', d, rfl, hv'.ext fun b o q _ => g1 b o q, hs, ?_⟩
  refine ⟨_, rfl, v, d, rfl, hv2.ext fun b o q _ => g1 b o q, hs, ?_⟩
  refine ⟨rfl, ?_⟩
  show Q (.bl (decide (V.str d.shown = V.str d.shown))) _
  rw [decide_eq_true rfl]
  exact q _ g1
end
end Fp
/-! what is drawn, told, read back -/
namespace Fp
open PySem PySem.Spec PyProof.Rows L2
def intsL : List Int := [0, 1, -1, 7, 99, -9999, 123456789]
def wordsL : List Int := [0, 1, 50, 99]
def plainS (t : Str) : Bool := (sg t).all fun c => decide (c ≠ 32) && decide (c ≠ 10) && decide (c < 1000)
def okI (i : Int) : Bool := decide (i.natAbs.log2 < 1920) && decide ((toString i : Str).length ≤ 20) && decide (intIn (toString i) = some i) && decide ((toString i : Str) ≠ "(") && decide ((toString i : Str) ≠ ")") && decide ((toString i : Str) ≠ "-") && plainS (toString i)
theorem ints_ok : (intsL ++ wordsL ++ [2, 3, 4, 5]).all okI = true := by decide +kernel
theorem okI_of {i : Int} (h : i ∈ intsL ++ wordsL ++ [2, 3, 4, 5]) : okI i = true := List.all_eq_true.mp ints_ok i h
theorem ok6 {i : Int} (h0 : 0 ≤ i) (h6 : i < 6) : okI i = true := by
  rcases (show i = 0 ∨ i = 1 ∨ i = 2 ∨ i = 3 ∨ i = 4 ∨ i = 5 by omega) with rfl | rfl | rfl | rfl | rfl | rfl <;> exact okI_of (by decide)
mutual
/-- a value that is read back as it is told -/
def rdB : PyData → Bool
  | .none => true
  | .int i => okI i
  | .tuple ds => rdBs ds
  | _ => false
def rdBs : List PyData → Bool
  | [] => true
  | d :: ds => rdB d && rdBs ds
end
theorem rdBs_all : ∀ ds : List PyData, rdBs ds = ds.all rdB
  | [] => by simp [rdBs]
  | d :: ds => by rw [rdBs, List.all_cons, rdBs_all ds]
structure OkI (i : Int) : Prop where
  log : i.natAbs.log2 < 1920
  len : (toString i : Str).length ≤ 20
  back : intIn (toString i) = some i
  n1 : (toString i : Str) ≠ "("
  n2 : (toString i : Str) ≠ ")"
  n3 : (toString i : Str) ≠ "-"
  pl : plainS (toString i) = true
theorem OkI.of {i : Int} (h : okI i = true) : OkI i := by
  unfold okI at h
  simp only [Bool.and_eq_true, decide_eq_true_eq] at h
  obtain ⟨⟨⟨⟨⟨⟨h1, h2⟩, h3⟩, h4⟩, h5⟩, h6⟩, h7⟩ := h
  exact ⟨h1, h2, h3, h4, h5, h6, h7⟩
mutual
theorem rd_bnd : ∀ d : PyData, rdB d = true → bndB d = true
  | .none, _ => by simp [bndB]
  | .int i, h => by
    rw [rdB] at h
    have o := OkI.of h
    rw [bndB, decide_eq_true o.log, decide_eq_true o.len]; rfl
  | .tuple ds, h => by rw [bndB]; rw [rdB] at h; exact rds_bnd ds h
  | .bool _, h => by simp [rdB] at h
  | .str _, h => by simp [rdB] at h
  | .list _, h => by simp [rdB] at h
  | .dict _, h => by simp [rdB] at h
theorem rds_bnd : ∀ ds : List PyData, rdBs ds = true → bndBs ds = true
  | [], _ => by simp [bndBs]
  | d :: ds, h => by
    rw [rdBs, Bool.and_eq_true] at h
    rw [bndBs, rd_bnd d h.1, rds_bnd ds h.2]; rfl
end
theorem vrun_app {a b : List Str} : ∀ {st : List (List PyData)}, vrun st (a ++ b) = (match vrun st a with | some s => vrun s b | none => none) := by
  induction a with
  | nil => intro st; rfl
  | cons w a ih =>
    intro st
    rw [List.cons_append, vrun, vrun]
    cases vstep st w with
    | none => rfl
    | some s => exact ih
mutual
theorem vrun_tok : ∀ (d : PyData), rdB d = true → ∀ (top : List PyData) (r : List (List PyData)), vrun (top :: r) (tokV d) = some ((top ++ [d]) :: r)
  | .none, _, top, r => by
    rw [tokV, vrun]
    rw [show vstep (top :: r) ("-" : Str) = some ((top ++ [.none]) :: r) by
      unfold vstep
      rw [if_neg (by decide +kernel), if_neg (by decide +kernel), if_pos rfl]]
    rfl
  | .int i, h, top, r => by
    rw [rdB] at h
    have o := OkI.of h
    rw [tokV, vrun]
    rw [show vstep (top :: r) (toString i : Str) = some ((top ++ [.int i]) :: r) by
      unfold vstep
      rw [if_neg o.n1, if_neg o.n2, if_neg o.n3, o.back]]
    rfl
  | .tuple ds, h, top, r => by
    rw [rdB] at h
    rw [tokV, vrun]
    rw [show vstep (top :: r) ("(" : Str) = some ([] :: top :: r) by
      unfold vstep
      rw [if_pos rfl]]
    dsimp only
    rw [vrun_app, vrun_toks ds h [] (top :: r)]
    dsimp only
    rw [vrun]
    rw [show vstep (([] ++ ds) :: top :: r) (")" : Str) = some ((top ++ [.tuple ds]) :: r) by
      unfold vstep
      rw [if_neg (by decide +kernel), if_pos rfl]
      rfl]
    rfl
  | .bool _, h, _, _ => by simp [rdB] at h
  | .str _, h, _, _ => by simp [rdB] at h
  | .list _, h, _, _ => by simp [rdB] at h
  | .dict _, h, _, _ => by simp [rdB] at h
theorem vrun_toks : ∀ (ds : List PyData), rdBs ds = true → ∀ (top : List PyData) (r : List (List PyData)), vrun (top :: r) (toksV ds) = some ((top ++ ds) :: r)
  | [], _, top, r => by rw [toksV, List.append_nil]; rfl
  | d :: ds, h, top, r => by
    rw [rdBs, Bool.and_eq_true] at h
    rw [toksV, vrun_app, vrun_tok d h.1 top r]
    dsimp only
    rw [vrun_toks ds h.2 (top ++ [d]) r, List.append_assoc]
    rfl
end
theorem vals_back {ds : List PyData} (h : rdBs ds = true) : valsIn (toksV ds) = some ds := by
  unfold valsIn
  rw [vrun_toks ds h [] []]
  rfl
mutual
theorem tok_plain : ∀ d : PyData, rdB d = true → ∀ t ∈ tokV d, plainS t = true
  | .none, _, t, ht => by rw [tokV, List.mem_singleton] at ht; subst ht; decide +kernel
  | .int i, h, t, ht => by
    rw [tokV, List.mem_singleton] at ht; subst ht
    rw [rdB] at h
    exact (OkI.of h).pl
  | .tuple ds, h, t, ht => by
    rw [tokV] at ht
    rw [rdB] at h
    rcases List.mem_cons.mp ht with rfl | ht
    · decide +kernel
    · rcases List.mem_append.mp ht with ht | ht
      · exact toks_plain ds h t ht
      · rw [List.mem_singleton] at ht; subst ht; decide +kernel
  | .bool _, h, _, _ => by simp [rdB] at h
  | .str _, h, _, _ => by simp [rdB] at h
  | .list _, h, _, _ => by simp [rdB] at h
  | .dict _, h, _, _ => by simp [rdB] at h
theorem toks_plain : ∀ ds : List PyData, rdBs ds = true → ∀ t ∈ toksV ds, plainS t = true
  | [], _, t, ht => by rw [toksV] at ht; cases ht
  | d :: ds, h, t, ht => by
    rw [rdBs, Bool.and_eq_true] at h
    rw [toksV] at ht
    rcases List.mem_append.mp ht with ht | ht
    · exact tok_plain d h.1 t ht
    · exact toks_plain ds h.2 t ht
end
/-! ### drawn values -/
def gvB : Nat → PyData → Bool
  | _, .none => true
  | _, .int i => decide (i ∈ intsL)
  | n + 1, .tuple ds => decide (ds.length ≤ 3) && ds.all (gvB n)
  | _, _ => false
def cS : Nat → Nat
  | 0 => 1
  | n + 1 => 2 + 3 * cS n
theorem cS_pos : ∀ n, 1 ≤ cS n
  | 0 => Nat.le_refl _
  | n + 1 => by rw [cS]; omega
structure GV (n : Nat) (d : PyData) : Prop where
  rd : rdB d = true
  tok : (tokV d).length ≤ cS n
  sz : vsz d ≤ cS n
theorem toks_le {N : Nat} : ∀ {ds : List PyData}, (∀ d ∈ ds, (tokV d).length ≤ N ∧ vsz d ≤ N) → (toksV ds).length ≤ N * ds.length ∧ vszs ds ≤ N * ds.length
  | [], _ => by simp [toksV, vszs]
  | d :: ds, h => by
    have h1 := h d List.mem_cons_self
    have h2 := toks_le (ds := ds) fun x hx => h x (List.mem_cons_of_mem _ hx)
    rw [toksV, vszs, List.length_append, List.length_cons, Nat.mul_succ]
    omega
theorem gv_of : ∀ {n : Nat} {d : PyData}, gvB n d = true → GV n d
  | n, .none, _ => ⟨by simp [rdB], by simp [tokV, cS_pos], by simp [vsz, cS_pos]⟩
  | n, .int i, h => by
    have h : decide (i ∈ intsL) = true := by cases n <;> exact h
    have h := of_decide_eq_true h
    refine ⟨by rw [rdB]; exact okI_of (by simp [h]), by simp [tokV, cS_pos], by simp [vsz, cS_pos]⟩
  | n + 1, .tuple ds, h => by
    rw [gvB, Bool.and_eq_true] at h
    have h1 := of_decide_eq_true h.1
    have h2 : ∀ d ∈ ds, GV n d := fun d hd => gv_of (List.all_eq_true.mp h.2 d hd)
    obtain ⟨h3, h4⟩ := toks_le fun d hd => ⟨(h2 d hd).tok, (h2 d hd).sz⟩
    have h5 : cS n * ds.length ≤ cS n * 3 := Nat.mul_le_mul_left _ h1
    refine ⟨by rw [rdB, rdBs_all]; exact List.all_eq_true.mpr fun d hd => (h2 d hd).rd, ?_, ?_⟩
    · rw [tokV, cS]; simp; omega
    · rw [vsz, cS]; omega
  | 0, .tuple ds, h => by simp [gvB] at h
  | n, .bool _, h => by cases n <;> simp [gvB] at h
  | n, .str _, h => by cases n <;> simp [gvB] at h
  | n, .list _, h => by cases n <;> simp [gvB] at h
  | n, .dict _, h => by cases n <;> simp [gvB] at h
/-- a drawn step -/
inductive GS : PyData → Prop where
  | write (h : Nat) (m : PyData) : h < 6 → gvB 3 m = true → GS (.tuple [.int (h : Nat), .str "write", m])
  | look (h : Nat) (ds : List PyData) : h < 6 → 1 ≤ ds.length → ds.length ≤ 6 → ds.all (gvB 2) = true → GS (.tuple [.int (h : Nat), .str "look", .tuple ds])
  | forget (h : Nat) : h < 6 → GS (.tuple [.int (h : Nat), .str "forget", .none])
  | say (h : Nat) (w : Int) : h < 6 → w ∈ wordsL → GS (.tuple [.int (h : Nat), .str "say", .int w])
  | box (h b : Nat) (k : Str) (w : Int) : h < 6 → b < 6 → (k = "ask" ∨ k = "answer") → w ∈ wordsL → GS (.tuple [.int (h : Nat), .str k, .tuple [.int (b : Nat), .int w]])
/-- what stands in a step is read back -/
structure GM (k : Str) (m : PyData) : Prop where
  mat : matS k m = true
  rd : rdB m = true
  tok : (tokV m).length ≤ 110
  sz : vsz m ≤ 110
  kd : plainS k = true
theorem words_ok {w : Int} (h : w ∈ wordsL) : 0 ≤ w ∧ w ≤ 99 ∧ okI w = true := by
  have h2 : ∀ w ∈ wordsL, 0 ≤ w ∧ w ≤ 99 := by decide
  exact ⟨(h2 w h).1, (h2 w h).2, okI_of (by simp [h])⟩
theorem GS.of {d : PyData} (g : GS d) : ∃ (h : Nat) (k : Str) (m : PyData), d = .tuple [.int (h : Nat), .str k, m] ∧ h < 6 ∧ GM k m := by
  cases g with
  | write h m h6 hm =>
    have g := gv_of hm
    have c3 : cS 3 = 53 := rfl
    refine ⟨h, _, m, rfl, h6, ?_, g.rd, by have := g.tok; omega, by have := g.sz; omega, by decide +kernel⟩
    unfold matS
    rw [if_pos rfl]
    exact bnd_val m (rd_bnd m g.rd)
  | look h ds h6 h1 h2 hm =>
    have c2 : cS 2 = 17 := rfl
    have g : ∀ d ∈ ds, GV 2 d := fun d hd => gv_of (List.all_eq_true.mp hm d hd)
    have hr : rdBs ds = true := by rw [rdBs_all]; exact List.all_eq_true.mpr fun d hd => (g d hd).rd
    obtain ⟨h3, h4⟩ := toks_le fun d hd => ⟨(g d hd).tok, (g d hd).sz⟩
    rw [c2] at h3 h4
    refine ⟨h, _, _, rfl, h6, ?_, by rw [rdB]; exact hr, by rw [tokV]; simp; omega, by rw [vsz]; omega, by decide +kernel⟩
    unfold matS
    rw [if_neg (by decide +kernel), if_pos rfl]
    show (decide (1 ≤ ds.length) && decide (ds.length ≤ 6) && valBs ds) = true
    rw [decide_eq_true h1, decide_eq_true h2, bnds_val ds (rds_bnd ds hr)]; rfl
  | forget h h6 => exact ⟨h, _, _, rfl, h6, by decide +kernel, by simp [rdB], by simp [tokV], by simp [vsz], by decide +kernel⟩
  | say h w h6 hw =>
    obtain ⟨w0, w9, wo⟩ := words_ok hw
    refine ⟨h, _, _, rfl, h6, ?_, by rw [rdB]; exact wo, by simp [tokV], by simp [vsz], by decide +kernel⟩
    unfold matS
    rw [if_neg (by decide +kernel), if_neg (by decide +kernel), if_pos rfl]
    exact decide_eq_true ⟨w0, w9⟩
  | box h b k w h6 hb hk hw =>
    obtain ⟨w0, w9, wo⟩ := words_ok hw
    have hb' : okI (b : Int) = true := ok6 (by omega) (by omega)
    refine ⟨h, _, _, rfl, h6, ?_, by rw [rdB, rdBs, rdBs, rdBs, rdB, rdB, hb', wo]; rfl, by simp [tokV, toksV], by simp [vsz, vszs], ?_⟩
    · unfold matS
      have e : boxB (.tuple [.int (b : Nat), .int w]) = true := by
        show (decide (0 ≤ ((b : Nat) : Int) ∧ ((b : Nat) : Int) < 6) && decide (0 ≤ w ∧ w ≤ 99)) = true
        rw [decide_eq_true (by omega), decide_eq_true ⟨w0, w9⟩]; rfl
      rcases hk with rfl | rfl
      · rw [if_neg (by decide +kernel), if_neg (by decide +kernel), if_neg (by decide +kernel), if_pos (.inl rfl)]; exact e
      · rw [if_neg (by decide +kernel), if_neg (by decide +kernel), if_neg (by decide +kernel), if_pos (.inr rfl)]; exact e
    · rcases hk with rfl | rfl <;> decide +kernel
theorem GS.ok {d : PyData} (g : GS d) : StOk d := by
  obtain ⟨h, k, m, rfl, h6, gm⟩ := g.of
  refine ⟨?_, fun h' k' m' e => ?_⟩
  · show (decide (0 ≤ ((h : Nat) : Int) ∧ ((h : Nat) : Int) < 6) && matS k m) = true
    rw [decide_eq_true (by omega), gm.mat]; rfl
  · cases e
    exact ⟨rd_bnd m gm.rd, by have := gm.tok; omega⟩
/-! ### steps read back -/
theorem plain_of {t : Str} (h : plainS t = true) : (32 ∉ sg t) ∧ (10 ∉ sg t) := by
  have h := List.all_eq_true.mp h
  refine ⟨fun m => ?_, fun m => ?_⟩ <;> (have := h _ m; simp at this)
theorem plain_lt {t : Str} (h : plainS t = true) {c : Nat} (m : c ∈ sg t) : c < 1000 := by
  have := List.all_eq_true.mp h c m
  simp at this
  exact this.2
theorem GS.toks {d : PyData} (g : GS d) : (∀ t ∈ stepToks d, plainS t = true ∧ t.length ≤ 20) ∧ 2 ≤ (stepToks d).length ∧ (stepToks d).length ≤ 112 ∧ preW (stepToks d) = some d ∧ vsz d ≤ 200 := by
  obtain ⟨h, k, m, rfl, h6, gm⟩ := g.of
  have o := OkI.of (ok6 (i := (h : Nat)) (by omega) (by omega))
  have hk := kind_len gm.mat
  have hb := rd_bnd m gm.rd
  have hv : vsz (.tuple [.int (h : Nat), .str k, m]) ≤ 200 := by
    have := gm.sz
    simp [vsz, vszs]; omega
  by_cases c : k = "forget"
  · have e : stepToks (.tuple [.int (h : Nat), .str k, m]) = [(toString ((h : Nat) : Int) : Str), k] := by unfold stepToks; dsimp only; rw [if_pos c]
    have hm : m = .none := by
      rcases kind_of gm.mat with ⟨rfl, _⟩ | ⟨rfl, _⟩ | ⟨rfl, _⟩ | ⟨rfl | rfl, _⟩ | ⟨_, z⟩
      · exact absurd c (by decide +kernel)
      · exact absurd c (by decide +kernel)
      · exact absurd c (by decide +kernel)
      · exact absurd c (by decide +kernel)
      · exact absurd c (by decide +kernel)
      · cases m <;> first | rfl | cases z
    rw [e]
    refine ⟨fun t ht => ?_, by simp, by simp, ?_, hv⟩
    · simp only [List.mem_cons, List.not_mem_nil, or_false] at ht
      rcases ht with rfl | rfl
      · exact ⟨o.pl, o.len⟩
      · exact ⟨gm.kd, by omega⟩
    · unfold preW
      show (match valsIn [], [(toString ((h : Nat) : Int) : Str), k] with | some ds, w0 :: w1 :: _ => some (PyData.tuple [optP (intIn w0), .str w1, matOf w1 ds]) | _, _ => none) = _
      rw [show valsIn [] = some [] from rfl]
      dsimp only
      rw [o.back, hm, c]
      rfl
  · obtain ⟨tb, tne, tlen, tin, tout⟩ := things_ok gm.mat hb c
    have e : stepToks (.tuple [.int (h : Nat), .str k, m]) = (toString ((h : Nat) : Int) : Str) :: k :: toksV (thingsOf k m) := by unfold stepToks; dsimp only; rw [if_neg c]
    have hr : rdBs (thingsOf k m) = true := by
      by_cases c2 : k = "look" ∨ k = "ask" ∨ k = "answer"
      · obtain ⟨ds, rfl, e2⟩ := tin c2
        rw [e2]
        have := gm.rd
        rwa [rdB] at this
      · rw [tout c2, rdBs, gm.rd]; rfl
    have hmat : matOf k (thingsOf k m) = m := by
      unfold matOf
      by_cases c2 : k = "look" ∨ k = "ask" ∨ k = "answer"
      · obtain ⟨ds, rfl, e2⟩ := tin c2
        rw [if_pos c2, e2]
      · rw [if_neg c2, tout c2]; rfl
    rw [e]
    have ht := gm.tok
    refine ⟨fun t ht => ?_, by simp, by simp; omega, ?_, hv⟩
    · rcases List.mem_cons.mp ht with rfl | ht
      · exact ⟨o.pl, o.len⟩
      rcases List.mem_cons.mp ht with rfl | ht
      · exact ⟨gm.kd, by omega⟩
      · exact ⟨toks_plain _ hr t ht, toks_len _ (rds_bnd _ hr) t ht⟩
    · unfold preW
      show (match valsIn (toksV (thingsOf k m)), (toString ((h : Nat) : Int) : Str) :: k :: toksV (thingsOf k m) with | some ds, w0 :: w1 :: _ => some (PyData.tuple [optP (intIn w0), .str w1, matOf w1 ds]) | _, _ => none) = _
      rw [vals_back hr]
      dsimp only
      rw [o.back, hmat]
      rfl
theorem GS.split {d : PyData} (g : GS d) : Txt.split (stepT d) " " = stepToks d := by
  obtain ⟨h1, h2, _⟩ := g.toks
  unfold stepT
  exact TL.split_join (s := 32) (S := []) (by decide +kernel) (by decide +kernel) (fun z => by rw [z] at h2; simp at h2) fun p hp hm => (plain_of (h1 p hp).1).1 hm
theorem GS.len {d : PyData} (g : GS d) : (stepT d).length ≤ 3000 := by
  obtain ⟨h1, h2, h3, _⟩ := g.toks
  have hs := sum_len fun t ht => (h1 t ht).2
  have hj := StrLaws.join_length_le (" " : Str) (stepToks d)
  have e1 : (" " : Str).length = 1 := by decide +kernel
  rw [e1] at hj
  unfold stepT
  rw [TL.join_eq]
  omega
theorem GS.back {d : PyData} (g : GS d) : stepIn (stepT d) = some d := by
  obtain ⟨_, _, _, h, _⟩ := g.toks
  unfold stepIn preIn
  rw [g.split, h]
  dsimp only
  rw [g.ok.st, decide_eq_true rfl]
  rfl
theorem GS.lnw {d : PyData} (g : GS d) : LnW (stepT d) := by
  obtain ⟨h1, h2, h3, h4, h5⟩ := g.toks
  refine ⟨by have := g.len; omega, by rw [g.split]; omega, fun t ht => ?_, fun e he => ?_⟩
  · rw [g.split] at ht
    have := (h1 t ht).2
    omega
  · unfold preIn at he
    rw [g.split, h4] at he
    cases he
    exact ⟨by omega, fun _ => g.ok⟩
theorem GS.noN {d : PyData} (g : GS d) : 10 ∉ sg (stepT d) := fun m => by
  obtain ⟨h1, _⟩ := g.toks
  have := join_signs (y := (" " : Str)) (S := [32]) (by decide +kernel) (f := fun c => c ≠ 10) (fun c hc => by rw [List.mem_singleton.mp hc]; decide) (parts := stepToks d) (fun p hp c hc z => (plain_of (h1 p hp).1).2 (by rw [← z]; exact hc)) 10 m
  exact this rfl
theorem GS.lt {d : PyData} (g : GS d) : ∀ c ∈ sg (stepT d), c < 1000 := by
  obtain ⟨h1, _⟩ := g.toks
  exact join_signs (y := (" " : Str)) (S := [32]) (by decide +kernel) (f := fun c => c < 1000) (fun c hc => by rw [List.mem_singleton.mp hc]; decide) (parts := stepToks d) (fun p hp c hc => plain_lt (h1 p hp).1 hc)
/-! ### lines that are none -/
def stOkB : PyData → Bool
  | .tuple [_, _, m] => bndB m && decide ((tokV m).length ≤ 10000)
  | _ => true
theorem stOk_of {d : PyData} (s : stepB d = true) (h : stOkB d = true) : StOk d := ⟨s, fun i k m e => by
  subst e
  have h : (bndB m && decide ((tokV m).length ≤ 10000)) = true := h
  rw [Bool.and_eq_true] at h
  exact ⟨h.1, of_decide_eq_true h.2⟩⟩
def preOk (z : Str) : Bool := match preIn z with
  | some d => decide (vsz d ≤ 1000000) && (!stepB d || stOkB d)
  | none => true
def badLn (z : Str) : Bool := decide (z.length ≤ 100) && decide ((Txt.split z " ").length ≤ 100) && (Txt.split z " ").all (fun w => decide (w.length ≤ 100)) && preOk z && (match stepIn z with | none => true | some _ => false) && (sg z).all (fun c => decide (c ≠ 10))
structure BadLn (z : Str) : Prop where
  lnw : LnW z
  bad : stepIn z = none
  noN : 10 ∉ sg z
  len : z.length ≤ 100
theorem BadLn.of {z : Str} (h : badLn z = true) : BadLn z := by
  unfold badLn at h
  simp only [Bool.and_eq_true] at h
  obtain ⟨⟨⟨⟨⟨h1, h2⟩, h3⟩, h4⟩, h5⟩, h6⟩ := h
  have h1 := of_decide_eq_true h1
  have h2 := of_decide_eq_true h2
  refine ⟨⟨by omega, by omega, fun w hw => ?_, fun d hd => ?_⟩, ?_, fun m => ?_, h1⟩
  · have := of_decide_eq_true (List.all_eq_true.mp h3 w hw)
    omega
  · unfold preOk at h4
    rw [hd] at h4
    have h4 : (decide (vsz d ≤ 1000000) && (!stepB d || stOkB d)) = true := h4
    rw [Bool.and_eq_true] at h4
    refine ⟨of_decide_eq_true h4.1, fun s => stOk_of s ?_⟩
    have := h4.2
    rw [s] at this
    exact this
  · cases e : stepIn z with
    | none => rfl
    | some d => rw [e] at h5; cases h5
  · have := List.all_eq_true.mp h6 10 m
    simp at this
def wrongL : List Str := (["", "0", "0 write", "0 write ( 1", "0 write 1 )", "0  write 1", " 0 write 1", "0 write 1 ", "x write 1", "6 write 1",
  "-1 write 1", "0 write 01", "0 write -0", "0 write 1 2", "0 write a", "0 look", "0 look 1 2 3 4 5 6 7", "0 say 100",
  "0 say -", "0 say", "0 say -1", "0 say ( 1 )", "0 ask 6 1", "0 ask 0", "0 ask 0 100", "0 ask 0 1 2", "0 answer -1 0",
  "0 answer 0 -", "0 forget -", "0 forget 1", "0 read 1", "0 Write 1", "write 0 1", "00 write 1", "0 look ( 1", "0 say 07"] : List String).map Str.ofString
theorem wrong_ok : wrongL.all badLn = true := by decide +kernel
theorem wrong_of {z : Str} (h : z ∈ wrongL) : BadLn z := .of (List.all_eq_true.mp wrong_ok z h)
end Fp
/-! greatest lots: the mathematics -/
namespace Fp
open PySem PySem.Spec PyProof.Rows L2
abbrev subL (l m : List Int) : Prop := ∀ x ∈ l, x ∈ m
theorem up_eq {l m : List Int} (hl : l.Pairwise (· < ·)) (hm : m.Pairwise (· < ·)) (s : subL l m) (h : m.length ≤ l.length) : l = m :=
  srt_eq hl hm fun x => ⟨s x, sub_eq (srt_nodup hl) s h x⟩
theorem up_less {l m : List Int} (hl : l.Pairwise (· < ·)) (hm : m.Pairwise (· < ·)) (s : subL l m) (h : m ≠ l) : l.length < m.length := by
  by_cases c : m.length ≤ l.length
  · exact absurd (up_eq hl hm s c).symm h
  · omega
def MaxIn (L : List (List Int)) (l : List Int) : Prop := l ∈ L ∧ ∀ m ∈ L, subL l m → m = l
theorem max_over {L : List (List Int)} (hs : ∀ l ∈ L, l.Pairwise (· < ·)) {B : Nat} (hB : ∀ l ∈ L, l.length ≤ B) : ∀ (n : Nat) (l : List Int), l ∈ L → B - l.length ≤ n → ∃ k, MaxIn L k ∧ subL l k := by
  intro n
  induction n with
  | zero =>
    intro l hl hn
    refine ⟨l, ⟨hl, fun m hm s => Classical.byContradiction fun c => ?_⟩, fun x h => h⟩
    have := up_less (hs l hl) (hs m hm) s c
    have := hB m hm
    omega
  | succ n ih =>
    intro l hl hn
    by_cases c : MaxIn L l
    · exact ⟨l, c, fun x h => h⟩
    · have : ∃ m ∈ L, subL l m ∧ m ≠ l := Classical.byContradiction fun d => c ⟨hl, fun m hm s => Classical.byContradiction fun e => d ⟨m, hm, s, e⟩⟩
      obtain ⟨m, hm, s, e⟩ := this
      have := up_less (hs l hl) (hs m hm) s e
      obtain ⟨k, hk, sk⟩ := ih m hm (by omega)
      exact ⟨k, hk, fun x hx => sk x (s x hx)⟩
theorem max_over' {L : List (List Int)} (hs : ∀ l ∈ L, l.Pairwise (· < ·) ∧ l.length ≤ 100) {l : List Int} (hl : l ∈ L) : ∃ k, MaxIn L k ∧ subL l k :=
  max_over (fun l h => (hs l h).1) (B := 100) (fun l h => (hs l h).2) _ l hl (Nat.le_refl _)
theorem max_step {L : List (List Int)} {w : List Int} (hs : ∀ l ∈ L, l.Pairwise (· < ·) ∧ w.length ≤ l.length) (hw : w.Pairwise (· < ·)) (hn : w ∉ L) (l : List Int) :
    MaxIn (L ++ [w]) l ↔ MaxIn L l ∨ (l = w ∧ ¬ ∃ m ∈ L, subL w m) := by
  have old : ∀ l ∈ L, ¬ subL l w := fun l hl s => by
    have := up_eq (hs l hl).1 hw s (hs l hl).2
    exact hn (this ▸ hl)
  constructor
  · rintro ⟨hl, hm⟩
    rcases List.mem_append.mp hl with h | h
    · exact .inl ⟨h, fun m hm' s => hm m (List.mem_append_left _ hm') s⟩
    · have e := List.mem_singleton.mp h
      subst e
      refine .inr ⟨rfl, fun ⟨m, hm', s⟩ => ?_⟩
      have := hm m (List.mem_append_left _ hm') s
      exact hn (this ▸ hm')
  · rintro (⟨hl, hm⟩ | ⟨rfl, hno⟩)
    · refine ⟨List.mem_append_left _ hl, fun m hm' s => ?_⟩
      rcases List.mem_append.mp hm' with h | h
      · exact hm m h s
      · rw [List.mem_singleton.mp h] at s
        exact absurd s (old l hl)
    · refine ⟨List.mem_append_right _ (List.mem_singleton.mpr rfl), fun m hm' s => ?_⟩
      rcases List.mem_append.mp hm' with h | h
      · exact absurd ⟨m, h, s⟩ hno
      · exact List.mem_singleton.mp h
theorem max_congr {L M : List (List Int)} (h : ∀ l, l ∈ L ↔ l ∈ M) (l : List Int) : MaxIn L l ↔ MaxIn M l := by
  unfold MaxIn
  rw [h l]
  exact ⟨fun ⟨a, b⟩ => ⟨a, fun m hm => b m ((h m).mpr hm)⟩, fun ⟨a, b⟩ => ⟨a, fun m hm => b m ((h m).mp hm)⟩⟩
theorem lex_tot : ∀ {a b : List Int}, HT.lexLt a b = false → HT.lexLt b a = false → a = b
  | [], [], _, _ => rfl
  | [], b :: m, h, _ => by cases h
  | a :: l, [], _, h => by cases h
  | a :: l, b :: m, h1, h2 => by
    rw [HT.lexLt_cons] at h1 h2
    by_cases e : a = b
    · subst e
      rw [if_pos rfl] at h1 h2
      rw [lex_tot h1 h2]
    · rw [if_neg e] at h1
      rw [if_neg (Ne.symm e)] at h2
      have := of_decide_eq_false h1
      have := of_decide_eq_false h2
      omega
def SrtL (l : List (List Int)) : Prop := l.Pairwise fun a b => HT.lexLt b a = false
theorem srtL_uniq : ∀ {l m : List (List Int)}, SrtL l → SrtL m → l.Nodup → m.Nodup → (∀ x, x ∈ l ↔ x ∈ m) → l = m
  | [], [], _, _, _, _, _ => rfl
  | [], b :: m, _, _, _, _, h => absurd ((h b).mpr List.mem_cons_self) (by simp)
  | a :: l, [], _, _, _, _, h => absurd ((h a).mp List.mem_cons_self) (by simp)
  | a :: l, b :: m, hl, hm, nl, nm, h => by
    obtain ⟨l1, l2⟩ := List.pairwise_cons.mp hl
    obtain ⟨m1, m2⟩ := List.pairwise_cons.mp hm
    obtain ⟨n1, n2⟩ := List.nodup_cons.mp nl
    obtain ⟨k1, k2⟩ := List.nodup_cons.mp nm
    have e : a = b := by
      rcases List.mem_cons.mp ((h a).mp List.mem_cons_self) with z | z
      · exact z
      · rcases List.mem_cons.mp ((h b).mpr List.mem_cons_self) with y | y
        · exact y.symm
        · exact lex_tot (m1 a z) (l1 b y)
    subst e
    rw [srtL_uniq l2 m2 n2 k2 fun x => ⟨fun hx => ?_, fun hx => ?_⟩]
    · rcases List.mem_cons.mp ((h x).mp (List.mem_cons_of_mem _ hx)) with z | z
      · exact absurd (z ▸ hx) n1
      · exact z
    · rcases List.mem_cons.mp ((h x).mpr (List.mem_cons_of_mem _ hx)) with z | z
      · exact absurd (z ▸ hx) k1
      · exact z
/-- these are the greatest of the lots, in their order -/
structure Great (lots G : List (List Int)) : Prop where
  srt : SrtL G
  nd : G.Nodup
  mem : ∀ l, l ∈ G ↔ MaxIn lots l
theorem Great.uniq {lots lots2 G G2 : List (List Int)} (h : Great lots G) (g : Great lots2 G2) (e : ∀ l, MaxIn lots l ↔ MaxIn lots2 l) : G = G2 :=
  srtL_uniq h.srt g.srt h.nd g.nd fun x => (h.mem x).trans ((e x).trans (g.mem x).symm)
theorem Great.has {lots G : List (List Int)} (h : Great lots G) (hs : ∀ l ∈ lots, l.Pairwise (· < ·) ∧ l.length ≤ 100) (s : List Int) : (∃ e ∈ G, subL s e) ↔ ∃ e ∈ lots, subL s e := by
  constructor
  · rintro ⟨e, he, k⟩
    exact ⟨e, ((h.mem e).mp he).1, k⟩
  · rintro ⟨e, he, k⟩
    obtain ⟨m, hm, sm⟩ := max_over' hs he
    exact ⟨m, (h.mem m).mpr hm, fun x hx => sm x (k x hx)⟩
/-- the lot that stands there -/
def lotK (H : Hp) : V → List Int
  | .ref t => match H t with
    | some (.tup ys) => ys.map fun v : V => match v with
      | .int i => i
      | _ => 0
    | _ => []
  | _ => []
theorem lotK_eq {H : Hp} {v : V} {l : List Int} (h : LtV H v l) : lotK H v = l := by
  obtain ⟨c, rfl, h⟩ := h
  unfold lotK
  simp only [h, List.map_map]
  exact List.map_id l
theorem lots_K {H : Hp} : ∀ {xs : List V} {ls : List (List Int)}, Paired (LtV H) xs ls → ls = xs.map (lotK H) ∧ ∀ x ∈ xs, LtV H x (lotK H x)
  | _, _, .nil => ⟨rfl, fun x h => nomatch h⟩
  | _, _, .cons h t => by
    obtain ⟨e, g⟩ := lots_K t
    have ek := lotK_eq h
    refine ⟨by rw [List.map_cons, ek, ← e], fun x hx => ?_⟩
    rcases List.mem_cons.mp hx with z | z
    · rw [z, ek]; exact h
    · exact g x z
theorem K_lots {H : Hp} : ∀ {xs : List V}, (∀ x ∈ xs, LtV H x (lotK H x)) → Paired (LtV H) xs (xs.map (lotK H))
  | [], _ => .nil
  | x :: xs, h => .cons (h x List.mem_cons_self) (K_lots fun y hy => h y (List.mem_cons_of_mem _ hy))
end Fp
/-! things that stay whatever the pot does; comprehensions with draws -/
namespace Fp
open PySem PySem.Spec PyProof.Rows L2
/-- R N: told by objects outside N -/
structure StN {α : Type} (R : List Addr → Hp → V → α → Prop) : Prop where
  but : ∀ {N : List Addr} {H H' : Hp} {v : V} {a : α}, But N H H' → R N H v a → R N H' v a
  mono : ∀ {N M : List Addr} {H : Hp} {v : V} {a : α}, (∀ x ∈ M, x ∈ N) → R N H v a → R M H v a
  fresh : ∀ {N : List Addr} {x : Addr} {H : Hp} {v : V} {a : α}, H x = none → R N H v a → R (x :: N) H v a
def IntN (_ : List Addr) (_ : Hp) (v : V) (i : Int) : Prop := v = .int i
theorem st_int : StN IntN := ⟨fun _ h => h, fun _ h => h, fun _ h => h⟩
def LtN (N : List Addr) (H : Hp) (v : V) (l : List Int) : Prop := ∃ c, v = .ref c ∧ c ∉ N ∧ H c = some (.tup (l.map V.int))
theorem pr_st {α : Type} {R : List Addr → Hp → V → α → Prop} (S : StN R) {N : List Addr} {H H' : Hp} (g : But N H H') {xs : List V} {ls : List α} (h : Paired (R N H) xs ls) : Paired (R N H') xs ls := pr_imp (fun _ _ h => S.but g h) h
theorem st_lt : StN LtN := ⟨fun g ⟨c, e, n, h⟩ => ⟨c, e, n, g _ _ n h⟩, fun s ⟨c, e, n, h⟩ => ⟨c, e, fun z => n (s _ z), h⟩, fun hx ⟨c, e, n, h⟩ => ⟨c, e, fun z => (List.mem_cons.mp z).elim (fun z => by rw [z, hx] at h; cases h) n, h⟩⟩
theorem LtN.v {N : List Addr} {H : Hp} {v : V} {l : List Int} (h : LtN N H v l) : LtV H v l := by
  obtain ⟨c, e, _, h⟩ := h
  exact ⟨c, e, h⟩
def LsN (N : List Addr) (H : Hp) (v : V) (es : List (List Int)) : Prop := ∃ b ys, v = .ref b ∧ b ∉ N ∧ H b = some (.lst ys) ∧ Paired (LtN N H) ys es
theorem st_ls : StN LsN := ⟨fun g ⟨c, ys, e, n, h, p⟩ => ⟨c, ys, e, n, g _ _ n h, pr_st st_lt g p⟩, fun s ⟨c, ys, e, n, h, p⟩ => ⟨c, ys, e, fun z => n (s _ z), h, pr_imp (fun _ _ h => st_lt.mono s h) p⟩,
  fun hx ⟨c, ys, e, n, h, p⟩ => ⟨c, ys, e, fun z => (List.mem_cons.mp z).elim (fun z => by rw [z, hx] at h; cases h) n, h, pr_imp (fun _ _ h => st_lt.fresh hx h) p⟩⟩
/-- a line as the law has it: a lot, a list of lots -/
def OLn (N : List Addr) (H : Hp) (v : V) (ln : TLn) : Prop := ∃ t a b, v = .ref t ∧ t ∉ N ∧ H t = some (.tup [a, b]) ∧ LtN N H a ln.1 ∧ LsN N H b ln.2
theorem st_ln : StN OLn := ⟨fun g ⟨t, a, b, e, n, h, p, q⟩ => ⟨t, a, b, e, n, g _ _ n h, st_lt.but g p, st_ls.but g q⟩, fun s ⟨t, a, b, e, n, h, p, q⟩ => ⟨t, a, b, e, fun z => n (s _ z), h, st_lt.mono s p, st_ls.mono s q⟩,
  fun hx ⟨t, a, b, e, n, h, p, q⟩ => ⟨t, a, b, e, fun z => (List.mem_cons.mp z).elim (fun z => by rw [z, hx] at h; cases h) n, h, st_lt.fresh hx p, st_ls.fresh hx q⟩⟩
theorem but_drop {S : List Addr} {D : Addr} {H H' : Hp} (g : But (D :: S) H H') (h : H D = none) : But S H H' := fun b o n q => g b o (fun m => (List.mem_cons.mp m).elim (fun z => by rw [z, h] at q; cases q) n) q
theorem but_wide {S : List Addr} {D : Addr} {H H' : Hp} (g : But S H H') : But (D :: S) H H' := g.wide fun x h => List.mem_cons_of_mem _ h
theorem but_new {S : List Addr} {x : Addr} {H H' : Hp} {o : HO} (g : But S H H') (h : H x = none) : But S H (upd H' x o) := fun b u n q => by
  rw [upd_ne (fun z => by rw [z, h] at q; cases q)]; exact g b u n q
section
variable {J : It} {n : Nat} {G : Hp → Prop} {Y : Nat → Hp → V → Hp → Prop}
/-- a comprehension with draws: In says what is known of the things told so far, X of the heap -/
theorem lc_draw {α : Type} (w : Walk J n G Y) {R : List Addr → Hp → V → α → Prop} (SR : StN R) (S : List Addr) (X : Nat → Hp → Prop) (In : Nat → List α → Prop) {g : TG} {tt : L2.TT} {te : TE} {vs : List Nat} {σ : L2.St} {H1 : Hp} {D : Addr} {Qd : Hp → Prop}
    (hX : ∀ i H us zs, H D = some (.lst us) → X i H → X i (upd H D (.lst zs))) (hIl : ∀ i l, In i l → l.length < 10000000) (hD : H1 D = none) (hDS : D ∉ S) (hG : ∀ H, But S H1 H → G H) (h0 : In 0 []) (hx0 : X 0 (upd H1 D (.lst [])))
    (hs : ∀ i x H H' l, i < n → But S H1 H → (∃ us, H D = some (.lst us)) → In i l → X i H → Y i H x H' → ∀ (Q4 : VK) (N : Hp → Prop), (∀ a y H4, In (i + 1) (l ++ [a]) → But S H H4 → X (i + 1) H4 → R (D :: S) H4 y a → Q4 y H4) → (∀ H4, In (i + 1) l → But S H H4 → X (i + 1) H4 → N H4) →
      g x (wipe σ vs) H' fun σ2 H2 => wipe σ2 vs = wipe σ vs ∧ tt σ2 H2 fun b H3 => if b = true then te σ2 H3 Q4 else N H3)
    (hd : ∀ H acc l, But S H1 H → X n H → In n l → H D = some (.lst acc) → Paired (R (D :: S) H) acc l → Qd H) :
    ∃ W : Nat → Nat → Hp → Prop, (∃ m, W 0 m (upd H1 D (.lst []))) ∧ ∀ i m H, W i m H →
      (J.stop i H ∧ Qd H) ∨ (J.go i H ∧ ∃ Nx : Hp → Prop, (∀ H', Nx H' → ∃ m', m' < m ∧ W (i + 1) m' H') ∧ ∀ x H', J.yld i H x H' → g x (wipe σ vs) H' fun σ2 H2 => wipe σ2 vs = wipe σ vs ∧ tt σ2 H2 fun b H3 =>
        if b = true then te σ2 H3 fun y H4 => ∃ acc, H4 D = some (.lst acc) ∧ acc.length < sizeLine ∧ Nx (upd H4 D (.lst (acc ++ [y]))) else Nx H3) := by
  refine lc_it w (fun i H => But S H1 H ∧ X i H ∧ ∃ acc l, In i l ∧ H D = some (.lst acc) ∧ Paired (R (D :: S) H) acc l) ⟨but_new (But.refl _ _) hD, hx0, [], [], h0, upd_same, .nil⟩ (fun i H _ z => hG H z.1) (fun i x H H' hi z y => ?_) fun H z => ?_
  · obtain ⟨g1, x1, acc, l, hin, hacc, hp⟩ := z
    refine hs i x H H' l hi g1 ⟨_, hacc⟩ hin x1 y _ _ (fun a v H4 in4 g4 x4 r4 => ?_) fun H4 in4 g4 x4 => ?_
    · have h4 := g4 _ _ hDS hacc
      refine ⟨acc, h4, szt (by rw [pr_len hp]; exact hIl i l hin), ?_⟩
      have gu : But (D :: S) H4 (upd H4 D (.lst (acc ++ [v]))) := (But.refl _ _).put List.mem_cons_self
      exact ⟨but_new (g1.trans g4) hD, hX _ _ _ _ h4 x4, acc ++ [v], l ++ [a], in4, upd_same, pr_st SR gu (pr_snoc r4 (pr_st SR (but_wide g4) hp))⟩
    · exact ⟨g1.trans g4, x4, acc, l, in4, g4 _ _ hDS hacc, pr_st SR (but_wide g4) hp⟩
  · obtain ⟨g1, x1, acc, l, hin, hacc, hp⟩ := z
    exact hd H acc l g1 x1 hin hacc hp
end
theorem but_none {p x : Addr} {k : Nat} {H H' : Hp} (g : But [p] H H') (hP : PotAt H' p k) (h : H' x = none) : H x = none ∧ x ≠ p := by
  have ne : x ≠ p := fun z => by
    obtain ⟨a, b, c, e, _⟩ := hP
    rw [z, e] at h; cases h
  cases e : H x with
  | none => exact ⟨rfl, ne⟩
  | some o => rw [g x o (by simpa using ne) e] at h; cases h
theorem pot_sm {H H' : Hp} {p : Addr} {n : Nat} (g : Same H H') (h : PotAt H p n) : PotAt H' p n := by
  obtain ⟨a, b, c, e, r⟩ := h
  exact ⟨a, b, c, g _ _ e, r⟩
theorem but_put {p x : Addr} {H H' : Hp} {o : HO} (g : But [p] H H') (h : H x = none) : But [p] H (upd H' x o) := fun b u nb q => by
  rw [upd_ne (ne_of_none q h)]; exact g b u nb q
theorem pot_put {p x : Addr} {H : Hp} {n : Nat} {o : HO} (h : PotAt H p n) (ne : x ≠ p) : PotAt (upd H x o) p n := by
  obtain ⟨a, b, c, e, r⟩ := h
  exact ⟨a, b, c, by rw [upd_ne (Ne.symm ne)]; exact e, r⟩
theorem pot_upd {H : Hp} {p D : Addr} {k : Nat} {o : HO} (h : PotAt H p k) (n : D ≠ p) : PotAt (upd H D o) p k := by
  obtain ⟨a, b, c, e, r⟩ := h
  exact ⟨a, b, c, by rw [upd_ne (Ne.symm n)]; exact e, r⟩
end Fp
/-! the law's own values, steps, lines -/
namespace Fp
open PySem PySem.Spec PyProof.Rows L2
/-- told, whatever objects of N do -/
def DR (N : List Addr) (H : Hp) (v : V) (d : PyData) : Prop := ∀ H', But N H H' → DA H' v d
theorem st_DR : StN DR := ⟨fun g h H' g' => h H' (g.trans g'), fun s h H' g => h H' (g.wide s), fun hx h H' g => h H' (but_drop g hx)⟩
theorem DR.of {N : List Addr} {H : Hp} {v : V} {d : PyData} (h : DA H v d) (pl : plB d = true) (n : ∀ x ∈ N, ∀ xs, H x ≠ some (.tup xs)) : DR N H v d := fun H' g => h.keepP (fun {a xs} e => g a _ (fun m => n a m xs e) e) pl
theorem DR.da {N : List Addr} {H : Hp} {v : V} {d : PyData} (h : DR N H v d) : DA H v d := h H (But.refl _ _)
theorem DRs.da {N : List Addr} {H : Hp} : ∀ {vs : List V} {ds : List PyData}, Paired (DR N H) vs ds → DAs H vs ds
  | _, _, .nil => .nil
  | _, _, .cons h t => .cons h.da (DRs.da t)
def dptB : Nat → PyData → Bool
  | 0, .tuple _ => false
  | n + 1, .tuple ds => ds.all (dptB n)
  | _, _ => true
theorem gv_dpt : ∀ {n : Nat} {d : PyData}, gvB n d = true → dptB n d = true
  | 0, .tuple _, h => by simp [gvB] at h
  | n + 1, .tuple ds, h => by
    rw [gvB, Bool.and_eq_true] at h
    exact List.all_eq_true.mpr fun d hd => gv_dpt (List.all_eq_true.mp h.2 d hd)
  | n, .none, _ => by cases n <;> rfl
  | n, .int _, _ => by cases n <;> rfl
  | n, .bool _, _ => by cases n <;> rfl
  | n, .str _, _ => by cases n <;> rfl
  | n, .list _, _ => by cases n <;> rfl
  | n, .dict _, _ => by cases n <;> rfl
theorem gv_pl {n : Nat} {d : PyData} (h : gvB n d = true) : plB d = true := val_pl d (bnd_val d (rd_bnd d (gv_of h).rd))
theorem dpt_up : ∀ {n : Nat} {d : PyData}, dptB n d = true → dptB (n + 1) d = true
  | 0, .tuple _, h => by simp [dptB] at h
  | n + 1, .tuple ds, h => List.all_eq_true.mpr fun d hd => dpt_up (List.all_eq_true.mp (show ds.all (dptB n) = true from h) d hd)
  | n, .none, _ => by cases n <;> rfl
  | n, .int _, _ => by cases n <;> rfl
  | n, .bool _, _ => by cases n <;> rfl
  | n, .str _, _ => by cases n <;> rfl
  | n, .list _, _ => by cases n <;> rfl
  | n, .dict _, _ => by cases n <;> rfl
theorem join_one (y x : Str) : Txt.join y [x] = x := by rw [TL.join_eq]; rfl
theorem txt_non : txtV .none = ("-" : Str) := by unfold txtV; rw [tokV, join_one]
theorem txt_int (i : Int) : txtV (.int i) = (toString i : Str) := by unfold txtV; rw [tokV, join_one]
theorem txt_tup {ds : List PyData} (h : ds.all bndB = true) : Txt.join " " (("(" : Str) :: (ds.map txtV ++ [(")" : Str)])) = txtV (.tuple ds) := by
  unfold txtV
  rw [tokV, toksV_flat]
  have e : (("(" : Str) :: (ds.map (fun d => Txt.join " " (tokV d)) ++ [(")" : Str)])) = ([[("(" : Str)]] ++ ds.map tokV ++ [[(")" : Str)]]).map (Txt.join " ") := by
    rw [List.map_append, List.map_append, List.map_map]
    simp only [List.map_cons, List.map_nil, join_one]
    rfl
  rw [e, TL.join_flat]
  · simp
  · intro l hl
    simp only [List.mem_append, List.mem_cons, List.not_mem_nil, or_false, List.mem_map] at hl
    rcases hl with (rfl | ⟨d, hd, rfl⟩) | rfl
    · simp
    · exact tok_ne (List.all_eq_true.mp h d hd)
    · simp
theorem valsL {v : V} {d : Nat} (h : ([.non, .int 0, .int 1, .int (-1), .int 7, .int 99, .int (-9999), .int 123456789] : List V)[d]? = some v) (n : Nat) : ∃ x, (∀ H, DA H v x) ∧ gvB n x = true := by
  have hi := get_lt h
  have g : ∀ i : Int, i ∈ intsL → gvB n (.int i) = true := fun i hi => by cases n <;> exact decide_eq_true hi
  match d, hi with
  | 0, _ => cases h; exact ⟨.none, fun _ => .non, by cases n <;> rfl⟩
  | 1, _ => cases h; exact ⟨.int _, fun _ => .int _, g _ (by decide)⟩
  | 2, _ => cases h; exact ⟨.int _, fun _ => .int _, g _ (by decide)⟩
  | 3, _ => cases h; exact ⟨.int _, fun _ => .int _, g _ (by decide)⟩
  | 4, _ => cases h; exact ⟨.int _, fun _ => .int _, g _ (by decide)⟩
  | 5, _ => cases h; exact ⟨.int _, fun _ => .int _, g _ (by decide)⟩
  | 6, _ => cases h; exact ⟨.int _, fun _ => .int _, g _ (by decide)⟩
  | 7, _ => cases h; exact ⟨.int _, fun _ => .int _, g _ (by decide)⟩
def kindsL : List Str := (["write", "look", "say", "ask", "answer", "forget", "write", "look"] : List String).map Str.ofString
theorem lst_not {H : Hp} {x : Addr} {ys : List V} (h : H x = some (.lst ys)) : ∀ xs, H x ≠ some (.tup xs) := fun xs z => by rw [h] at z; cases z
def wA : List Str := (["", "0", "0 write", "0 write ( 1", "0 write 1 )", "0  write 1", " 0 write 1", "0 write 1 ", "x write 1", "6 write 1"] : List String).map Str.ofString
def wB : List Str := (["-1 write 1", "0 write 01", "0 write -0", "0 write 1 2", "0 write a", "0 look", "0 look 1 2 3 4 5 6 7", "0 say 100"] : List String).map Str.ofString
def wC : List Str := (["0 say -", "0 say", "0 say -1", "0 say ( 1 )", "0 ask 6 1", "0 ask 0", "0 ask 0 100", "0 ask 0 1 2", "0 answer -1 0"] : List String).map Str.ofString
def wD : List Str := (["0 answer 0 -", "0 forget -", "0 forget 1", "0 read 1", "0 Write 1", "write 0 1", "00 write 1", "0 look ( 1", "0 say 07"] : List String).map Str.ofString
theorem rext {l x : Addr} {G : Hp} {Q1 : VK} {a b : List V} (h1 : G l = some (.lst a)) (h2 : G x = some (.lst b)) (hl : a.length + b.length ≤ 100) (k : Q1 .non (upd G l (.lst (a ++ b)))) : rExtend (.ref l) [.ref x] G Q1 := ⟨l, x, a, b, rfl, rfl, h1, h2, szl (by omega), k⟩
theorem join_line {a k : Str} {ds : List PyData} (h : ds.all bndB = true) : Txt.join " " (a :: k :: ds.map txtV) = Txt.join " " (a :: k :: toksV ds) := by
  rw [toksV_flat]
  have e : (a :: k :: ds.map txtV) = ([[a], [k]] ++ ds.map tokV).map (Txt.join " ") := by
    rw [List.map_append, List.map_map]
    simp only [List.map_cons, List.map_nil, join_one]
    rfl
  rw [e, TL.join_flat]
  · simp
  · intro l hl
    simp only [List.mem_append, List.mem_cons, List.not_mem_nil, or_false, List.mem_map] at hl
    rcases hl with (rfl | rfl) | ⟨d, hd, rfl⟩
    · simp
    · simp
    · exact tok_ne (List.all_eq_true.mp h d hd)
theorem stepT_of {i : Int} {k : Str} {m : PyData} (c : k ≠ "forget") : stepT (.tuple [.int i, .str k, m]) = Txt.join " " ((toString i : Str) :: k :: toksV (thingsOf k m)) := by
  unfold stepT stepToks
  simp only [if_neg c]
theorem stepT_f {i : Int} {k : Str} {m : PyData} (c : k = "forget") : stepT (.tuple [.int i, .str k, m]) = Txt.join " " [(toString i : Str), k] := by
  unfold stepT stepToks
  simp only [if_pos c]
theorem GS.dptW {i : Int} {k : Str} {m : PyData} (g : GS (.tuple [.int i, .str k, m])) (c : k = "write") : dptB 3 m = true := by
  cases g with
  | write h m h6 hm => exact gv_dpt hm
  | look => exact absurd c (by decide +kernel)
  | forget => exact absurd c (by decide +kernel)
  | say => exact absurd c (by decide +kernel)
  | box h b k w h6 hb hk =>
    rcases hk with rfl | rfl
    · exact absurd c (by decide +kernel)
    · exact absurd c (by decide +kernel)
theorem GS.dptT {i : Int} {k : Str} {ds : List PyData} (g : GS (.tuple [.int i, .str k, .tuple ds])) (c : k = "look" ∨ k = "ask" ∨ k = "answer") : ∀ d ∈ ds, dptB 2 d = true := by
  intro d hd
  cases g with
  | write h m h6 hm => exact absurd c (by decide +kernel)
  | look h ds h6 h1 h2 hm => exact gv_dpt (List.all_eq_true.mp hm d hd)
  | box h b k w h6 hb hk =>
    simp only [List.mem_cons, List.not_mem_nil, or_false] at hd
    rcases hd with rfl | rfl <;> rfl
def spVT (n : Nat) : Sp := fun vs H Q _ => ∃ v d j, vs = [v] ∧ DA H v d ∧ j < n ∧ dptB j d = true ∧ bndB d = true ∧ (tokV d).length ≤ 10000 ∧ ∀ H', Same H H' → Q (.str (txtV d)) H'
def spDV (n : Nat) : Sp := fun vs H Q _ => ∃ (p : Addr) (deep k : Nat), vs = [.ref p, .int deep] ∧ deep < n ∧ k + cS deep < 900000 ∧ PotAt H p k ∧ ∀ v d H', But [p] H H' → PotAt H' p (k + cS deep) → gvB deep d = true → DA H' v d → Q v H'
def spDStep : Sp := fun vs H Q _ => ∃ (p : Addr) (k : Nat), vs = [.ref p] ∧ PotAt H p k ∧ k < 800000 ∧ ∀ v d H', But [p] H H' → PotAt H' p (k + 120) → GS d → DA H' v d → Q v H'
def spLine : Sp := fun vs H Q _ => ∃ v d, vs = [v] ∧ DA H v d ∧ GS d ∧ ∀ H', Same H H' → Q (.str (stepT d)) H'
def spWrong : Sp := fun vs H Q _ => ∃ (p : Addr) (k : Nat), vs = [.ref p] ∧ PotAt H p k ∧ k < 900000 ∧ ∀ z H', z ∈ wrongL → But [p] H H' → PotAt H' p (k + 1) → Q (.str z) H'
section
variable {P : Program} {w : World} {K : PySem.W.Frag} {mg : Str → Option Value} {base : Heap} {f : Addr} {fd : FuncData} {C : Addr}
abbrev s_law_value_text : Stmt := top 35
theorem sc_law_value_text : FnScope ["value", "one"] ["value"] (defScope s_law_value_text) := ⟨rfl, rfl, rfl, by decide +kernel, rfl, by decide +kernel, by decide +kernel⟩
theorem ok_law_value_text {n : Nat} (F : Fun K "_law_value_text" "_law_value_text" s_law_value_text f fd) (T : RTx mg) (G_law_value_text : Fd P w K mg base CX0 "_law_value_text" (n + 1) ["value"] (spVT n)) : FnOk P w K mg base CX0 (n + 2) f fd ["value"] (spVT (n + 1)) := by
  refine F.ok sc_law_value_text (fun vs H Q E h => ?_) (fun cdv A outer s H vs Q E hr h => ?_)
  · obtain ⟨v, d, _, rfl, _⟩ := h
    rfl
  obtain ⟨v, d, j, rfl, hd, hj, hn, hb, hz, q⟩ := h
  refine ⟨_, (pss_cons (ps_if (pt_cmpR op_isN (pv 0) pe_non (nomark _)) (pss_one (ps_ret pe_str)) pss_nil)
  (pss_cons (ps_if (pt_not (pt_val (pe_callB call_isi rfl T.isinstance (by decide +kernel) (pa_cons (pv 0) (pa_cons (pe_bltn (v := .ty "tuple") rfl T.tuple boot_tuple rfl) pa_nil))))) (pss_one (ps_ret (pe_callTy call_str_int rfl T.str (by decide +kernel) (pa_cons (pe_callTy call_int1 rfl T.int (by decide +kernel) (pa_cons (pv 0) pa_nil)) pa_nil)))) pss_nil)
  (pss_one (ps_ret (pe_join pe_str (pe_op op_cat (pe_op op_cat (pe_lst (pa_cons pe_str pa_nil)) (pe_lc (own := [("one", 1)]) (g := (gName 1)) (tt := tYes) rfl sc_law_value_text.nd (pi_tup (pv 0)) (blkOk_by (own := [("one", 1)]) (N := ["value", "one"]) (sc := defScope s_law_value_text) (by decide +kernel)) (fun _ _ _ _ _ => (pg_name (i := 1) sc_law_value_text.nd rfl (Or.inl rfl))) (fun _ _ _ _ _ => pts_nil) (fun _ _ _ _ _ => (pe_fd G_law_value_text hr rfl (pa_cons (pv 1) pa_nil))))) (pe_lst (pa_cons pe_str pa_nil)))))))), ?_⟩
  refine seq_in ?_
  refine ⟨_, rfl, rfl, _, rfl, ?_⟩
  have h0 : Same H H := Same.refl H
  cases hd with
  | non => rw [txt_non] at q; exact iteT (ret_in (q _ h0))
  | int i =>
    have hi : i.natAbs.log2 < 1920 := by
      rw [bndB, Bool.and_eq_true] at hb
      exact of_decide_eq_true hb.1
    rw [txt_int] at q
    refine iteF ?_
    refine next_in ?_
    refine nx_in ?_
    refine seq_in ?_
    refine notb_in ?_
    refine ⟨_, rfl, _, _, _, _, _, rfl, .ty "tuple", (DA.int i : DA H _ _).ty (K := K), kit_tupT _, _, rfl, iteT ?_⟩
    exact ret_in ⟨_, rfl, .inl ⟨i, rfl, i, rfl, hi, q _ h0⟩⟩
  | @tup a xs ds ha hds =>
    have hb' : ds.all bndB = true := by rw [bndB, bndBs_all] at hb; exact hb
    obtain ⟨j', rfl⟩ : ∃ j', j = j' + 1 := by
      cases j with
      | zero => simp [dptB] at hn
      | succ j' => exact ⟨j', rfl⟩
    have hn' : ds.all (dptB j') = true := hn
    have ht : (toksV ds).length ≤ 10000 := by rw [tokV] at hz; simp at hz; omega
    refine iteF ?_
    refine next_in ?_
    refine nx_in ?_
    refine seq_in ?_
    refine notb_in ?_
    refine ⟨_, rfl, _, _, _, _, _, rfl, .ty "tuple", (DA.tup ha hds : DA H _ _).ty (K := K), kit_tupT _, _, rfl, iteF ?_⟩
    refine next_in ?_
    refine nx_in ?_
    refine ret_in ?_
    refine ⟨⟨_, rfl⟩, szl (by show 1 ≤ _; decide), fun l1 nl1 => ?_⟩
    have g1 := same_new nl1 (.lst [.str "("])
    have hl1 : upd H l1 (.lst [.str "("]) l1 = some (.lst [.str "("]) := upd_same
    generalize upd H l1 (.lst [.str "("]) = H1 at g1 hl1 ⊢
    have ha1 := g1 _ _ ha
    have hds1 := hds.same g1
    have hxl := hds.len
    have hcount : ds.length ≤ 10000 := by
      have := stks_pos (es := ds) (List.all_eq_true.mpr fun x hx => stk_of (List.all_eq_true.mp hb' x hx))
      omega
    refine ⟨_, rfl, a, rfl, ⟨_, .of ha1⟩, fun D hD => ?_⟩
    refine lc_coll (R := RS) (walk_tup (xs := xs)) (fun i => [txtV (ds.getD i .none)]) hD (fun H' g => .of (g _ _ ha1)) ?_ ?_
    · rintro i x H2 H3 hi cc ⟨rfl, hx⟩ M hM
      obtain ⟨dx, hdx, vx⟩ := DAs.at_ hds1 hx
      have hmx : dx ∈ ds := List.mem_of_getElem? hdx
      have hlx := toks_mem hmx
      refine ⟨rfl, yes_in ?_⟩
      refine ⟨_, rfl, x, dx, j', rfl, vx.same cc.1, by omega, List.all_eq_true.mp hn' dx hmx, List.all_eq_true.mp hb' dx hmx, by omega, fun H4 g4 => ?_⟩
      refine coll_app stab_str hD cc g4 (a := txtV dx) rfl ?_ ?_
      · rw [fm_one, List.length_map, List.length_range]; omega
      · intro H5 c5
        refine hM H5 ?_
        rw [show ds.getD i .none = dx by rw [List.getD_eq_getElem?_getD, hdx] <;> rfl]
        exact c5
    · intro H2 cc
      obtain ⟨g2, hacc⟩ := coll_strs cc
      rw [hxl, fm_getD (fun d => [txtV d]) .none, fm_one] at hacc
      have hs := txts_len hb'
      have e1 : (" " : Str).length = 1 := by decide +kernel
      have ep : ("(" : Str).length = 1 := by decide +kernel
      have eq' : (")" : Str).length = 1 := by decide +kernel
      refine ⟨l1, D, _, _, rfl, rfl, g2 _ _ hl1, hacc, szl (by rw [List.length_map, List.length_map]; show 1 + _ ≤ _; omega), fun l2 nl2 => ?_⟩
      have g3 := same_new nl2 (.lst ([V.str "("] ++ (ds.map txtV).map V.str))
      have hl2 : upd H2 l2 (.lst ([V.str "("] ++ (ds.map txtV).map V.str)) l2 = some (.lst ([V.str "("] ++ (ds.map txtV).map V.str)) := upd_same
      generalize upd H2 l2 (.lst ([V.str "("] ++ (ds.map txtV).map V.str)) = H3 at g3 hl2 ⊢
      refine ⟨szl (by show 1 ≤ _; decide), fun l3 nl3 => ?_⟩
      have g4 := same_new nl3 (.lst [.str ")"])
      refine ⟨l2, l3, _, _, rfl, rfl, g4 _ _ hl2, upd_same, szl (by rw [List.length_append, List.length_map, List.length_map]; show 1 + _ + 1 ≤ _; omega), fun l4 nl4 => ?_⟩
      refine ⟨" ", l4, ("(" : Str) :: (ds.map txtV ++ [(")" : Str)]), rfl, rfl, .inl (.of ?_), ?_, ?_⟩
      · rw [upd_same]
        simp
      · simp only [List.map_cons, List.map_append, List.sum_cons, List.sum_append, List.length_cons, List.length_append, List.map_nil, List.sum_nil, List.length_nil, e1, ep, eq']
        rw [List.length_map]
        omega
      · rw [txt_tup hb']
        exact q _ ((((g1.trans g2).trans g3).trans g4).trans (same_new nl4 _))
  | bl b => simp [bndB] at hb
  | str z => simp [bndB] at hb
  | lst h t => simp [bndB] at hb
  | dct h => simp [bndB] at hb
theorem all_law_value_text (F : Fun K "_law_value_text" "_law_value_text" s_law_value_text f fd) (b : Binds K fd ["value"] []) (m : mg "_law_value_text" = some (.ref f)) (T : RTx mg) : ∀ n : Nat, Fd P w K mg base CX0 "_law_value_text" (n + 1) ["value"] (spVT n)
  | 0 => ⟨f, fd, m, F.kp, b, (none0 (fun vs H Q E h => by obtain ⟨_, _, _, _, _, h, _⟩ := h; omega)).mono (Nat.zero_le _)⟩
  | n + 1 => ⟨f, fd, m, F.kp, b, ok_law_value_text F T (all_law_value_text F b m T n)⟩
abbrev s_law_drawn_value : Stmt := top 37
theorem sc_law_drawn_value : FnScope ["pot", "deep", "lap"] ["pot", "deep"] (defScope s_law_drawn_value) := ⟨rfl, rfl, rfl, by decide +kernel, rfl, by decide +kernel, by decide +kernel⟩
theorem ok_law_drawn_value {n : Nat} (F : Fun K "_law_drawn_value" "_law_drawn_value" s_law_drawn_value f fd) (T : RTx mg) (G_law_take : Fd P w K mg base CX0 "_law_take" 1 ["pot", "upto"] spTake) (G_law_of : Fd P w K mg base CX0 "_law_of" 2 ["pot", "some"] (spOf K)) (G_law_drawn_value : Fd P w K mg base CX0 "_law_drawn_value" (n + 3) ["pot", "deep"] (spDV n)) : FnOk P w K mg base CX0 (n + 4) f fd ["pot", "deep"] (spDV (n + 1)) := by
  refine F.ok sc_law_drawn_value (fun vs H Q E h => ?_) (fun cdv A outer s H vs Q E hr h => ?_)
  · obtain ⟨p, deep, k, rfl, _⟩ := h
    rfl
  obtain ⟨p, deep, k, rfl, hn, hk, hP, q⟩ := h
  refine ⟨_, (pss_cons (ps_if (PW.pt (pw_or (pt_cmpR op_eq (pv 1) pe_int (nomark _)) (pw_or1 (pt_cmpR op_eq (pe_fd G_law_take (hr.mono (by first | decide | omega)) rfl (pa_cons (pv 0) (pa_cons pe_int pa_nil))) pe_int (nomark _))))) (pss_one (ps_ret (pe_fd G_law_of (hr.mono (by first | decide | omega)) rfl (pa_cons (pv 0) (pa_cons (pe_lst (pa_cons pe_non (pa_cons pe_int (pa_cons pe_int (pa_cons (pe_un un_neg pe_int) (pa_cons pe_int (pa_cons pe_int (pa_cons (pe_un un_neg pe_int) (pa_cons pe_int pa_nil))))))))) pa_nil))))) pss_nil)
  (pss_one (ps_ret (pe_callTy call_tuple_of rfl T.tuple (by decide +kernel) (pa_cons (pe_lc (own := [("lap", 2)]) (g := (gName 2)) (tt := tYes) rfl sc_law_drawn_value.nd (pi_range1 rfl T.range (pa_cons (pe_fd G_law_take (hr.mono (by first | decide | omega)) rfl (pa_cons (pv 0) (pa_cons pe_int pa_nil))) pa_nil)) (blkOk_by (own := [("lap", 2)]) (N := ["pot", "deep", "lap"]) (sc := defScope s_law_drawn_value) (by decide +kernel)) (fun _ _ _ _ _ => (pg_name (i := 2) sc_law_drawn_value.nd rfl (Or.inl rfl))) (fun _ _ _ _ _ => pts_nil) (fun _ _ _ _ _ => (pe_fd G_law_drawn_value (hr.mono (by omega)) rfl (pa_cons (pv 0) (pa_cons (pe_op op_sub (pv 1) pe_int) pa_nil))))) pa_nil))))), ?_⟩
  have cpos := cS_pos deep
  have cl : cS deep ≤ 1 ∨ ∃ j, deep = j + 1 ∧ cS deep = 2 + 3 * cS j := by
    cases deep with
    | zero => exact .inl (Nat.le_refl _)
    | succ j => exact .inr ⟨j, rfl, rfl⟩
  have leaf : ∀ (k1 : Nat) (H1 : Hp), k1 + 1 ≤ k + cS deep → But [p] H H1 → PotAt H1 p k1 → tCall (spOf K) [] E0 (tCons (tVar 0) (tCons (tLst (tCons (tC V.non) (tCons (tC (V.int 0)) (tCons (tC (V.int 1)) (tCons (tUn (rU fun i => V.int (-i)) (tC (V.int 1))) (tCons (tC (V.int 7)) (tCons (tC (V.int 99)) (tCons (tUn (rU fun i => V.int (-i)) (tC (V.int 9999))) (tCons (tC (V.int 123456789)) tNil))))))))) tNil)) [some (.ref p), some (.int deep), none] H1 Q := fun k1 H1 hk1 g1 hP1 => by
    refine ⟨_, rfl, 1, rfl, 9999, rfl, szl (by show 8 ≤ _; decide), fun l nl => ?_⟩
    refine ⟨p, l, [.non, .int 0, .int 1, .int (-1), .int 7, .int 99, .int (-9999), .int 123456789], k1, rfl, .of upd_same, fun z => hP1.ne0 (by rw [← z]; exact nl), by simp, by show 8 < _; decide, by omega, pot_sm (same_new nl _) hP1, fun i v H2 hv g2 hP2 => ?_⟩
    obtain ⟨x, hx, gx⟩ := valsL hv deep
    exact q v x H2 ((g1.trans (.of (same_new nl _))).trans g2) (hP2.mono hk1) gx (hx H2)
  refine seq_in ?_
  refine ⟨_, rfl, rfl, _, rfl, ?_⟩
  by_cases h0 : deep = 0
  · refine ite_yes (decide_eq_true (by rw [h0]; rfl)) (iteT (ret_in ?_))
    exact leaf k H (by omega) (But.refl _ _) hP
  · refine ite_no (decide_eq_false fun z => by injection z with z; omega) ?_
    obtain ⟨j, rfl, ej⟩ : ∃ j, deep = j + 1 ∧ cS deep = 2 + 3 * cS j := by
      cases deep with
      | zero => exact absurd rfl h0
      | succ j => exact ⟨j, rfl, rfl⟩
    have jpos := cS_pos j
    refine ⟨_, rfl, p, 2, k, rfl, by decide, by decide, by omega, hP, fun d1 H1 hd1 g1 hP1 => ⟨rfl, _, rfl, ?_⟩⟩
    refine ite2 (fun c => ?_) (fun c => ?_)
    · exact ret_in (leaf (k + 1) H1 (by omega) g1 hP1)
    · refine next_in ?_
      refine nx_in ?_
      refine ret_in ?_
      refine ⟨_, rfl, p, 4, k + 1, rfl, by decide, by decide, by omega, hP1, fun d2 H2 hd2 g2 hP2 => ⟨_, rfl, by omega, by omega, fun D nD => ?_⟩⟩
      have g12 := g1.trans g2
      obtain ⟨nDH, Dp⟩ := but_none g12 hP2 nD
      rw [Int.toNat_natCast]
      have c3 : cS j * d2 ≤ cS j * 3 := Nat.mul_le_mul_left _ (by omega)
      refine lc_draw (R := DR) (walk_range (lo := 0) (n := d2)) st_DR [p] (fun i H => PotAt H p (k + 2 + cS j * i)) (fun i l => l.length = i ∧ i ≤ d2 ∧ l.all (gvB j) = true) (fun _ _ _ _ _ h => pot_upd h Dp) (fun i l h => by have := h.1; have := h.2.1; omega) nD (by simpa using Dp) (fun _ _ => True.intro) ⟨rfl, Nat.zero_le _, rfl⟩ (pot_upd (by simpa using hP2) Dp) ?_ ?_
      · rintro i x H3 H4 l hi g3 ⟨us, hus⟩ ⟨hl, hl3, hall⟩ hP3 ⟨rfl, rfl⟩ Q4 N k4 _
        have c4 : cS j * (i + 1) ≤ cS j * 3 := Nat.mul_le_mul_left _ (by omega)
        have c5 : cS j * (i + 1) = cS j * i + cS j := Nat.mul_succ _ _
        refine ⟨rfl, yes_in ?_⟩
        refine ⟨_, rfl, _, rfl, _, _, rfl, rfl, p, j, k + 2 + cS j * i, ?_, by omega, by omega, hP3, fun v d H5 g5 hP5 gv hd => ?_⟩
        · show [V.ref p, V.int (((j + 1 : Nat) : Int) - 1)] = [V.ref p, V.int (j : Nat)]
          rw [show (((j + 1 : Nat) : Int) - 1) = ((j : Nat) : Int) by omega]
        · refine k4 d v H5 ⟨by rw [List.length_append, hl]; rfl, by omega, by rw [List.all_append, hall]; simp [gv]⟩ g5 (hP5.mono (by omega)) (DR.of hd (gv_pl gv) fun y hy => ?_)
          simp only [List.mem_cons, List.not_mem_nil, or_false] at hy
          rcases hy with rfl | rfl
          · exact lst_not (g5 _ _ (by simpa using Dp) hus)
          · obtain ⟨ys, e⟩ := hP5.there
            exact lst_not e
      · rintro H3 acc l g3 hP3 ⟨hl, hl3, hall⟩ hacc hp
        refine ⟨D, acc, rfl, .inl ⟨.of hacc, fun t nt => ?_⟩⟩
        have k5 := same_new nt (.tup acc)
        refine q (.ref t) (.tuple l) _ ((g12.trans g3).trans (.of k5)) (pot_sm k5 (hP3.mono (by omega))) ?_ (.tup upd_same ((DRs.da hp).same k5))
        rw [gvB, hall, decide_eq_true (by omega)]
        rfl
theorem all_law_drawn_value (F : Fun K "_law_drawn_value" "_law_drawn_value" s_law_drawn_value f fd) (b : Binds K fd ["pot", "deep"] []) (m : mg "_law_drawn_value" = some (.ref f)) (T : RTx mg) (G_law_take : Fd P w K mg base CX0 "_law_take" 1 ["pot", "upto"] spTake) (G_law_of : Fd P w K mg base CX0 "_law_of" 2 ["pot", "some"] (spOf K)) : ∀ n : Nat, Fd P w K mg base CX0 "_law_drawn_value" (n + 3) ["pot", "deep"] (spDV n)
  | 0 => ⟨f, fd, m, F.kp, b, (none0 (fun vs H Q E h => by obtain ⟨_, _, _, _, h, _⟩ := h; omega)).mono (Nat.zero_le _)⟩
  | n + 1 => ⟨f, fd, m, F.kp, b, ok_law_drawn_value F T G_law_take G_law_of (all_law_drawn_value F b m T G_law_take G_law_of n)⟩
abbrev s_law_drawn_step : Stmt := top 38
theorem sc_law_drawn_step : FnScope ["pot", "kind", "hand", "word", "lap"] ["pot"] (defScope s_law_drawn_step) := ⟨rfl, rfl, rfl, by decide +kernel, rfl, by decide +kernel, by decide +kernel⟩
theorem ok_law_drawn_step (F : Fun K "_law_drawn_step" "_law_drawn_step" s_law_drawn_step f fd) (T : RTx mg) (G_law_take : Fd P w K mg base CX0 "_law_take" 1 ["pot", "upto"] spTake) (G_law_of : Fd P w K mg base CX0 "_law_of" 2 ["pot", "some"] (spOf K)) (G_law_drawn_value : Fd P w K mg base CX0 "_law_drawn_value" 7 ["pot", "deep"] (spDV 4)) : FnOk P w K mg base CX0 8 f fd ["pot"] spDStep := by
  refine F.ok sc_law_drawn_step (fun vs H Q E h => ?_) (fun cdv A outer s H vs Q E hr h => ?_)
  · obtain ⟨p, k, rfl, _⟩ := h
    rfl
  obtain ⟨p, k, rfl, hP, hk, q⟩ := h
  refine ⟨_, (pss_cons (ps_par (i := 1) (j := 2) (by rfl) sc_law_drawn_step.nd rfl rfl (by decide) rfl rfl (pa_cons (pe_fd G_law_of (hr.mono (by first | decide | omega)) rfl (pa_cons (pv 0) (pa_cons (pe_lst (pa_cons pe_str (pa_cons pe_str (pa_cons pe_str (pa_cons pe_str (pa_cons pe_str (pa_cons pe_str (pa_cons pe_str (pa_cons pe_str pa_nil))))))))) pa_nil))) (pa_cons (pe_fd G_law_take (hr.mono (by first | decide | omega)) rfl (pa_cons (pv 0) (pa_cons pe_int pa_nil))) pa_nil)) (by rfl))
  (pss_cons (ps_if (pt_cmpR op_eq (pv 1) pe_str (nomark _)) (pss_one (ps_ret (pe_tup (pa_cons (pv 2) (pa_cons (pv 1) (pa_cons (pe_fd G_law_drawn_value (hr.mono (by first | decide | omega)) rfl (pa_cons (pv 0) (pa_cons pe_int pa_nil))) pa_nil)))))) pss_nil)
  (pss_cons (ps_if (pt_cmpR op_eq (pv 1) pe_str (nomark _)) (pss_one (ps_ret (pe_tup (pa_cons (pv 2) (pa_cons (pv 1) (pa_cons (pe_callTy call_tuple_of rfl T.tuple (by decide +kernel) (pa_cons (pe_lc (own := [("lap", 4)]) (g := (gName 4)) (tt := tYes) rfl sc_law_drawn_step.nd (pi_range1 rfl T.range (pa_cons (pe_op op_add pe_int (pe_fd G_law_take (hr.mono (by first | decide | omega)) rfl (pa_cons (pv 0) (pa_cons pe_int pa_nil)))) pa_nil)) (blkOk_by (own := [("lap", 4)]) (N := ["pot", "kind", "hand", "word", "lap"]) (sc := defScope s_law_drawn_step) (by decide +kernel)) (fun _ _ _ _ _ => (pg_name (i := 4) sc_law_drawn_step.nd rfl (Or.inl rfl))) (fun _ _ _ _ _ => pts_nil) (fun _ _ _ _ _ => (pe_fd G_law_drawn_value (hr.mono (by first | decide | omega)) rfl (pa_cons (pv 0) (pa_cons pe_int pa_nil))))) pa_nil)) pa_nil)))))) pss_nil)
  (pss_cons (ps_if (pt_cmpR op_eq (pv 1) pe_str (nomark _)) (pss_one (ps_ret (pe_tup (pa_cons (pv 2) (pa_cons (pv 1) (pa_cons pe_non pa_nil)))))) pss_nil)
  (pss_cons (ps_set (i := 3) sc_law_drawn_step.nd rfl (Or.inl rfl) (pe_fd G_law_of (hr.mono (by first | decide | omega)) rfl (pa_cons (pv 0) (pa_cons (pe_lst (pa_cons pe_int (pa_cons pe_int (pa_cons pe_int (pa_cons pe_int pa_nil))))) pa_nil))))
  (pss_one (ps_ret (pe_tup (pa_cons (pv 2) (pa_cons (pv 1) (pa_cons (pe_mid (pe_ifExp (pt_cmpR op_eq (pv 1) pe_str (nomark _)) (pv 3) (pe_tup (pa_cons (pe_fd G_law_take (hr.mono (by first | decide | omega)) rfl (pa_cons (pv 0) (pa_cons pe_int pa_nil))) (pa_cons (pv 3) pa_nil))))) pa_nil))))))))))), ?_⟩
  refine seq_in ?_
  refine ⟨_, rfl, szl (by show 8 ≤ _; decide), fun l nl => ?_⟩
  refine ⟨p, l, kindsL.map V.str, k, rfl, .of upd_same, fun z => hP.ne0 (by rw [← z]; exact nl), by decide, by decide, by omega, pot_sm (same_new nl _) hP, fun i v H1 hv g1 hP1 => ?_⟩
  have g1 := (But.of (S := [p]) (same_new nl (.lst (kindsL.map V.str)))).trans g1
  obtain ⟨z, hz, rfl⟩ : ∃ z, z ∈ kindsL ∧ v = .str z := by
    rw [List.getElem?_map] at hv
    cases e : kindsL[i]? with
    | none => rw [e] at hv; cases hv
    | some z => rw [e] at hv; cases hv; exact ⟨z, List.mem_of_getElem? e, rfl⟩
  clear hv
  refine ⟨_, rfl, p, 6, k + 1, rfl, by decide, by decide, by omega, hP1, fun h H2 hh g2 hP2 => ⟨_, _, rfl, ?_⟩⟩
  have h6 : h < 6 := by omega
  have g2 := g1.trans g2
  clear g1 hP1
  refine nx_in ?_
  refine seq_in ?_
  refine ⟨_, rfl, rfl, _, rfl, ?_⟩
  rw [vstr_eq]
  refine ite2 (fun c => ?_) (fun c => ?_)
  · have c := of_decide_eq_true c
    subst c
    refine ret_in ?_
    refine ⟨_, rfl, _, rfl, _, rfl, p, 3, k + 2, rfl, by decide, by show k + 2 + 53 < 900000; omega, hP2, fun v d H3 g3 hP3 gv hd => ⟨szl (by show 3 ≤ _; decide), fun t nt => ?_⟩⟩
    have k4 := same_new nt (.tup [.int (h : Nat), .str "write", v])
    have c53 : cS 3 = 53 := rfl
    exact q _ _ _ ((g2.trans g3).trans (.of k4)) (pot_sm k4 (hP3.mono (by omega))) (.write h d h6 gv) (.tup upd_same (.cons (.int _) (.cons (.str _) (.cons (hd.same k4) .nil))))
  have c1 : z ≠ "write" := of_decide_eq_false (by simpa using c)
  refine next_in ?_
  refine nx_in ?_
  refine seq_in ?_
  refine ⟨_, rfl, rfl, _, rfl, ?_⟩
  rw [vstr_eq]
  refine ite2 (fun c => ?_) (fun c => ?_)
  · have c := of_decide_eq_true c
    subst c
    refine ret_in ?_
    refine ⟨_, rfl, _, rfl, _, rfl, p, 6, k + 2, rfl, by decide, by decide, by omega, hP2, fun d2 H3 hd2 g3 hP3 => ⟨_, _, rfl, rfl, 1 + (d2 : Int), rfl, by omega, by omega, fun D nD => ?_⟩⟩
    have g3 := g2.trans g3
    obtain ⟨nDH, Dp⟩ := but_none g3 hP3 nD
    have en : (1 + (d2 : Int)).toNat = d2 + 1 := by omega
    rw [en]
    have c17 : cS 2 = 17 := rfl
    refine lc_draw (R := DR) (walk_range (lo := 0) (n := d2 + 1)) st_DR [p] (fun i H => PotAt H p (k + 3 + 17 * i)) (fun i l => l.length = i ∧ i ≤ 6 ∧ l.all (gvB 2) = true) (fun _ _ _ _ _ h => pot_upd h Dp) (fun i l h => by have := h.1; have := h.2.1; omega) nD (by simpa using Dp) (fun _ _ => True.intro) ⟨rfl, Nat.zero_le _, rfl⟩ (pot_upd (by simpa using hP3) Dp) ?_ ?_
    · rintro i x H4 H5 l hi g4 ⟨us, hus⟩ ⟨hl, hl3, hall⟩ hP4 ⟨rfl, rfl⟩ Q4 N k4 _
      refine ⟨rfl, yes_in ?_⟩
      refine ⟨_, rfl, p, 2, k + 3 + 17 * i, rfl, by decide, by omega, hP4, fun v d H6 g6 hP6 gv hd => ?_⟩
      refine k4 d v H6 ⟨by rw [List.length_append, hl]; rfl, by omega, by rw [List.all_append, hall]; simp [gv]⟩ g6 (hP6.mono (by omega)) (DR.of hd (gv_pl gv) fun y hy => ?_)
      simp only [List.mem_cons, List.not_mem_nil, or_false] at hy
      rcases hy with rfl | rfl
      · exact lst_not (g6 _ _ (by simpa using Dp) hus)
      · obtain ⟨ys, e⟩ := hP6.there
        exact lst_not e
    · rintro H4 acc l g4 hP4 ⟨hl, hl3, hall⟩ hacc hp
      refine ⟨D, acc, rfl, .inl ⟨.of hacc, fun t nt => ⟨szl (by show 3 ≤ _; decide), fun t2 nt2 => ?_⟩⟩⟩
      have k5 := same_new nt (.tup acc)
      have k6 := same_new nt2 (.tup [.int (h : Nat), .str "look", .ref t])
      have k7 := k5.trans k6
      exact q _ _ _ ((g3.trans g4).trans (.of k7)) (pot_sm k7 (hP4.mono (by omega))) (.look h l h6 (by omega) (by omega) hall) (.tup upd_same (.cons (.int _) (.cons (.str _) (.cons (.tup (k6 _ _ upd_same) ((DRs.da hp).same k7)) .nil))))
  have c2 : z ≠ "look" := of_decide_eq_false (by simpa using c)
  refine next_in ?_
  refine nx_in ?_
  refine seq_in ?_
  refine ⟨_, rfl, rfl, _, rfl, ?_⟩
  rw [vstr_eq]
  refine ite2 (fun c => ?_) (fun c => ?_)
  · have c := of_decide_eq_true c
    subst c
    refine ret_in ?_
    refine ⟨_, rfl, _, rfl, szl (by show 3 ≤ _; decide), fun t nt => ?_⟩
    have k4 := same_new nt (.tup [.int (h : Nat), .str "forget", .non])
    exact q _ _ _ (g2.trans (.of k4)) (pot_sm k4 (hP2.mono (by omega))) (.forget h h6) (.tup upd_same (.cons (.int _) (.cons (.str _) (.cons .non .nil))))
  have c3 : z ≠ "forget" := of_decide_eq_false (by simpa using c)
  have hz : z = "say" ∨ z = "ask" ∨ z = "answer" := by
    have hz : z = "write" ∨ z = "look" ∨ z = "say" ∨ z = "ask" ∨ z = "answer" ∨ z = "forget" ∨ z = "write" ∨ z = "look" := by
      simpa [kindsL] using hz
    rcases hz with e | e | e | e | e | e | e | e
    · exact absurd e c1
    · exact absurd e c2
    · exact .inl e
    · exact .inr (.inl e)
    · exact .inr (.inr e)
    · exact absurd e c3
    · exact absurd e c1
    · exact absurd e c2
  refine next_in ?_
  refine nx_in ?_
  refine seq_in ?_
  refine asg_in ?_
  refine ⟨_, rfl, szl (by show 4 ≤ _; decide), fun l2 nl2 => ?_⟩
  refine ⟨p, l2, wordsL.map V.int, k + 2, rfl, .of upd_same, fun z => hP2.ne0 (by rw [← z]; exact nl2), by decide, by decide, by omega, pot_sm (same_new nl2 _) hP2, fun i v H3 hv g3 hP3 => ?_⟩
  have g3 := (g2.trans (But.of (S := [p]) (same_new nl2 (.lst (wordsL.map V.int))))).trans g3
  obtain ⟨w, hw, rfl⟩ : ∃ w, w ∈ wordsL ∧ v = .int w := by
    rw [List.getElem?_map] at hv
    cases e : wordsL[i]? with
    | none => rw [e] at hv; cases hv
    | some z => rw [e] at hv; cases hv; exact ⟨z, List.mem_of_getElem? e, rfl⟩
  clear hv
  refine g_set ?_
  refine nx_in ?_
  refine ret_in ?_
  refine ⟨_, rfl, _, rfl, fun y G => But [p] H G ∧ PotAt G p (k + 4) ∧ ((z = "say" ∧ y = .int w) ∨ ((z = "ask" ∨ z = "answer") ∧ ∃ (b : Nat) (t : Addr), b < 6 ∧ y = .ref t ∧ G t = some (.tup [.int (b : Nat), .int w]))), ?_, ?_⟩
  · refine ⟨_, rfl, rfl, _, rfl, ?_⟩
    rw [vstr_eq]
    refine ite2 (fun c => ?_) (fun c => ?_)
    · exact ⟨_, rfl, g3, hP3.mono (by omega), .inl ⟨of_decide_eq_true c, rfl⟩⟩
    · have c4 : z ≠ "say" := of_decide_eq_false (by simpa using c)
      refine ⟨_, rfl, p, 6, k + 3, rfl, by decide, by decide, by omega, hP3, fun b H4 hb g4 hP4 => ⟨_, rfl, szl (by show 2 ≤ _; decide), fun t nt => ?_⟩⟩
      have k5 := same_new nt (.tup [.int (b : Nat), .int w])
      exact ⟨(g3.trans g4).trans (.of k5), pot_sm k5 (hP4.mono (by omega)), .inr ⟨hz.resolve_left c4, b, t, by omega, rfl, upd_same⟩⟩
  · rintro y G ⟨g, hP4, hy⟩
    refine ⟨szl (by show 3 ≤ _; decide), fun t nt => ?_⟩
    have k5 := same_new nt (.tup [.int (h : Nat), .str z, y])
    rcases hy with ⟨rfl, rfl⟩ | ⟨hz2, b, tb, hb, rfl, htb⟩
    · exact q _ _ _ (g.trans (.of k5)) (pot_sm k5 (hP4.mono (by omega))) (.say h w h6 hw) (.tup upd_same (.cons (.int _) (.cons (.str _) (.cons (.int _) .nil))))
    · exact q _ _ _ (g.trans (.of k5)) (pot_sm k5 (hP4.mono (by omega))) (.box h b z w h6 hb hz2 hw) (.tup upd_same (.cons (.int _) (.cons (.str _) (.cons (.tup (k5 _ _ htb) (.cons (.int _) (.cons (.int _) .nil))) .nil))))
abbrev s_law_line : Stmt := top 39
theorem sc_law_line : FnScope ["step", "hand", "kind", "value", "words", "one"] ["step"] (defScope s_law_line) := ⟨rfl, rfl, rfl, by decide +kernel, rfl, by decide +kernel, by decide +kernel⟩
theorem ok_law_line (F : Fun K "_law_line" "_law_line" s_law_line f fd) (T : RTx mg) (G_law_value_text : Fd P w K mg base CX0 "_law_value_text" 5 ["value"] (spVT 4)) : FnOk P w K mg base CX0 6 f fd ["step"] spLine := by
  refine F.ok sc_law_line (fun vs H Q E h => ?_) (fun cdv A outer s H vs Q E hr h => ?_)
  · obtain ⟨v, d, rfl, _⟩ := h
    rfl
  obtain ⟨v, d, rfl, hd, hg, q⟩ := h
  refine ⟨_, (pss_cons (ps_asg (pv 0) (pg_tup rfl (pgs_cons (pg_name (i := 1) sc_law_line.nd rfl (Or.inl rfl)) (pgs_cons (pg_name (i := 2) sc_law_line.nd rfl (Or.inl rfl)) (pgs_cons (pg_name (i := 3) sc_law_line.nd rfl (Or.inl rfl)) pgs_nil)))))
  (pss_cons (ps_set (i := 4) sc_law_line.nd rfl (Or.inl rfl) (pe_lst (pa_cons (pe_callTy call_strA rfl T.str (by decide +kernel) (pa_cons (pv 1) pa_nil)) (pa_cons (pv 2) pa_nil))))
  (pss_cons (ps_if (pt_cmpR op_eq (pv 2) pe_str (nomark _)) (pss_one (ps_expr (pe_bm PySem.F.plainAttrs_list PySem.F.slot_list_append PySem.F.type_list_append mt_append (pv 4) (pa_cons (pe_fd G_law_value_text (hr.mono (by first | decide | omega)) rfl (pa_cons (pv 3) pa_nil)) pa_nil)))) (pss_one (ps_if (pt_cmpR op_in_seq (pv 2) (pe_tup (pa_cons pe_str (pa_cons pe_str (pa_cons pe_str pa_nil)))) rfl) (pss_one (ps_expr (pe_bm PySem.F.plainAttrs_list PySem.F.slot_list_extend PySem.F.type_list_extend mt_extend (pv 4) (pa_cons (pe_lc (own := [("one", 5)]) (g := (gName 5)) (tt := tYes) rfl sc_law_line.nd (pi_tup (pv 3)) (blkOk_by (own := [("one", 5)]) (N := ["step", "hand", "kind", "value", "words", "one"]) (sc := defScope s_law_line) (by decide +kernel)) (fun _ _ _ _ _ => (pg_name (i := 5) sc_law_line.nd rfl (Or.inl rfl))) (fun _ _ _ _ _ => pts_nil) (fun _ _ _ _ _ => (pe_fd G_law_value_text (hr.mono (by first | decide | omega)) rfl (pa_cons (pv 5) pa_nil)))) pa_nil)))) (pss_one (ps_if (pt_cmpR op_eq (pv 2) pe_str (nomark _)) (pss_one (ps_expr (pe_bm PySem.F.plainAttrs_list PySem.F.slot_list_append PySem.F.type_list_append mt_append (pv 4) (pa_cons (pe_callTy call_strA rfl T.str (by decide +kernel) (pa_cons (pv 3) pa_nil)) pa_nil)))) pss_nil)))))
  (pss_one (ps_ret (pe_join pe_str (pv 4))))))), ?_⟩
  obtain ⟨h, k, m, rfl, h6, gm⟩ := hg.of
  have ho := hg.ok
  cases hd with
  | @tup a xs ds ha hds =>
    match xs, hds with
    | [x, y, z], .cons hx (.cons hy (.cons hz' .nil)) =>
      cases hx
      cases hy
      obtain ⟨hil, hin⟩ := figs6 (i := (h : Nat)) (by omega) (by omega)
      have hkl := kind_len gm.mat
      refine seq_in ?_
      refine asg_in ?_
      refine ⟨_, rfl, a, _, rfl, .of ha, rfl, _, _, rfl, _, _, rfl, _, _, rfl, rfl, ?_⟩
      refine nx_in ?_
      refine seq_in ?_
      refine asg_in ?_
      refine ⟨_, rfl, .inl ⟨_, rfl, hil, _, rfl, szl (by show 2 ≤ _; decide), fun l nl => ?_⟩⟩
      have g1 := same_new nl (.lst (([(toString ((h : Nat) : Int) : Str), k] : List Str).map V.str))
      have hl1 : upd H l (.lst (([(toString ((h : Nat) : Int) : Str), k] : List Str).map V.str)) l = some (.lst (([(toString ((h : Nat) : Int) : Str), k] : List Str).map V.str)) := upd_same
      show gName 4 (.ref l) _ (upd H l (.lst (([(toString ((h : Nat) : Int) : Str), k] : List Str).map V.str))) _
      generalize upd H l (.lst (([(toString ((h : Nat) : Int) : Str), k] : List Str).map V.str)) = H1 at g1 hl1 ⊢
      have hz1 := hz'.same g1
      refine g_set ?_
      refine nx_in ?_
      refine seq_in ?_
      refine cut_nx (fun G => ∃ ws : List Str, Same H G ∧ G l = some (.lst (ws.map V.str)) ∧ Txt.join " " ws = stepT (.tuple [.int (h : Nat), .str k, m]) ∧ (ws.map (·.length)).sum + ws.length ≤ 1000000) ?_ ?_
      · rintro G ⟨ws, g, hl, e, hs⟩
        refine nx_in ?_
        refine ret_in ?_
        have e1 : (" " : Str).length = 1 := by decide +kernel
        refine ⟨⟨_, rfl⟩, _, rfl, " ", l, ws, rfl, rfl, .inl (.of hl), by rw [e1]; omega, ?_⟩
        rw [e]
        exact q _ g
      · intro next
        have e1 : (toString ((h : Nat) : Int) : Str).length ≤ 20 := hin
        have hb := rd_bnd m gm.rd
        have gt := gm.tok
        refine ⟨_, rfl, rfl, _, rfl, ?_⟩
        rw [vstr_eq]
        refine ite2 (fun c => ?_) (fun c => ?_)
        · have c := of_decide_eq_true c
          have eth : thingsOf k m = [m] := by unfold thingsOf; rw [if_neg (by rw [c]; decide +kernel)]
          refine ⟨_, rfl, .inl ⟨rfl, _, .of hl1⟩, _, rfl, z, m, 3, rfl, hz1, by decide, ?_, hb, by omega, fun H2 g2 => ?_⟩
          · exact hg.dptW c
          refine ⟨l, _, _, rfl, rfl, g2 _ _ hl1, szt (by show 2 < _; decide), ?_⟩
          refine next _ ⟨[(toString ((h : Nat) : Int) : Str), k] ++ [txtV m], same_put (g1.trans g2) nl, by rw [upd_same, List.map_append]; rfl, ?_, ?_⟩
          · show Txt.join " " ((toString ((h : Nat) : Int) : Str) :: k :: [m].map txtV) = _
            rw [join_line (by rw [List.all_cons, hb]; rfl), stepT_of (show k ≠ "forget" by rw [c]; decide +kernel), eth]
          · have := txt_len hb
            simp only [List.map_cons, List.map_nil, List.map_append, List.sum_append, List.sum_cons, List.sum_nil, List.length_append, List.length_cons, List.length_nil]
            omega
        have c1 : k ≠ "write" := of_decide_eq_false (by simpa using c)
        refine ⟨_, rfl, szl (by show 3 ≤ _; decide), fun t2 nt2 => ?_⟩
        have g2 := same_new nt2 (.tup [.str "look", .str "ask", .str "answer"])
        have hz2 := hz1.same g2
        have hl2 := g2 _ _ hl1
        have g12 := g1.trans g2
        refine ⟨t2, _, rfl, .inr (.of upd_same), rfl, rfl, _, rfl, ?_⟩
        generalize upd H1 t2 (.tup [.str "look", .str "ask", .str "answer"]) = H2 at g2 hz2 hl2 g12 ⊢
        rw [inV3]
        refine ite2 (fun c => ?_) (fun c => ?_)
        · have c := of_decide_eq_true c
          have c0 : k ≠ "forget" := fun z => by rw [z] at c; revert c; decide +kernel
          obtain ⟨tb, tne, tlen, tin, tout⟩ := things_ok gm.mat hb c0
          obtain ⟨ds, rfl, eth⟩ := tin c
          rw [eth] at tb tne tlen
          cases hz2 with
          | @tup b zs _ hb' hzs =>
            have hzl := hzs.len
            have hcount : ds.length ≤ 110 := by
              have := stks_pos (es := ds) (List.all_eq_true.mpr fun x hx => stk_of (List.all_eq_true.mp tb x hx))
              omega
            refine ⟨_, rfl, .inl ⟨rfl, _, .of hl2⟩, _, rfl, b, rfl, ⟨_, .of hb'⟩, fun D hD => ?_⟩
            refine lc_coll (R := RS) (walk_tup (xs := zs)) (fun i => [txtV (ds.getD i .none)]) hD (fun H' g => .of (g _ _ hb')) ?_ ?_
            · rintro j x H3 H4 hj cc ⟨rfl, hx⟩ M hM
              obtain ⟨dx, hdx, vx⟩ := DAs.at_ hzs hx
              have hmx : dx ∈ ds := List.mem_of_getElem? hdx
              have hbx := List.all_eq_true.mp tb dx hmx
              have hlx : (tokV dx).length ≤ (toksV ds).length := toks_mem hmx
              refine ⟨rfl, yes_in ?_⟩
              refine ⟨_, rfl, x, dx, 2, rfl, vx.same cc.1, by decide, ?_, hbx, by omega, fun H5 g5 => ?_⟩
              · exact hg.dptT c dx hmx
              refine coll_app stab_str hD cc g5 (a := txtV dx) rfl ?_ ?_
              · rw [fm_one, List.length_map, List.length_range]; omega
              · intro H6 c6
                refine hM H6 ?_
                rw [show ds.getD j .none = dx by rw [List.getD_eq_getElem?_getD, hdx] <;> rfl]
                exact c6
            · intro H3 cc
              obtain ⟨g3, hacc⟩ := coll_strs cc
              rw [hzl, fm_getD (fun d => [txtV d]) .none, fm_one] at hacc
              have hs := txts_len tb
              have hl3 := g3 _ _ hl2
              refine ⟨l, D, _, _, rfl, rfl, hl3, hacc, szl (by simp only [List.length_map, List.length_cons, List.length_nil]; omega), ?_⟩
              refine next _ ⟨[(toString ((h : Nat) : Int) : Str), k] ++ ds.map txtV, same_put (g12.trans g3) nl, by rw [upd_same, List.map_append], ?_, ?_⟩
              · show Txt.join " " ((toString ((h : Nat) : Int) : Str) :: k :: ds.map txtV) = _
                rw [join_line tb]
                rw [stepT_of c0, eth]
              · rw [List.map_append, List.sum_append, List.length_append, List.length_map]
                simp only [List.map_cons, List.map_nil, List.sum_cons, List.sum_nil, List.length_cons, List.length_nil]
                omega
        have c2 : ¬ (k = "look" ∨ k = "ask" ∨ k = "answer") := of_decide_eq_false (by simpa using c)
        refine ⟨_, rfl, rfl, _, rfl, ?_⟩
        rw [vstr_eq]
        refine ite2 (fun c => ?_) (fun c => ?_)
        · have c := of_decide_eq_true c
          have eth : thingsOf k m = [m] := by unfold thingsOf; rw [if_neg c2]
          obtain ⟨i, rfl, hi⟩ : ∃ i, m = .int i ∧ i.natAbs.log2 < 1920 := by
            rcases kind_of gm.mat with ⟨e, _⟩ | ⟨e, _⟩ | ⟨_, e⟩ | ⟨e, _⟩ | ⟨e, _⟩
            · exact absurd e c1
            · exact absurd (.inl e) c2
            · cases m with
              | int i =>
                rw [bndB, Bool.and_eq_true] at hb
                exact ⟨i, rfl, of_decide_eq_true hb.1⟩
              | _ => cases e
            · exact absurd (.inr e) c2
            · rw [c] at e; exact absurd e (by decide +kernel)
          cases hz2
          refine ⟨_, rfl, .inl ⟨rfl, _, .of hl2⟩, _, rfl, .inl ⟨i, rfl, hi, l, _, _, rfl, rfl, hl2, szt (by show 2 < _; decide), ?_⟩⟩
          refine next _ ⟨[(toString ((h : Nat) : Int) : Str), k] ++ [txtV (.int i)], same_put g12 nl, by rw [upd_same, List.map_append, txt_int]; rfl, ?_, ?_⟩
          · show Txt.join " " ((toString ((h : Nat) : Int) : Str) :: k :: [PyData.int i].map txtV) = _
            rw [join_line (by rw [List.all_cons, hb]; rfl), stepT_of (show k ≠ "forget" by rw [c]; decide +kernel), eth]
          · have := txt_len hb
            simp only [List.map_cons, List.map_nil, List.map_append, List.sum_append, List.sum_cons, List.sum_nil, List.length_append, List.length_cons, List.length_nil]
            omega
        · have c3 : k ≠ "say" := of_decide_eq_false (by simpa using c)
          have c4 : k = "forget" := by
            rcases kind_of gm.mat with ⟨e, _⟩ | ⟨e, _⟩ | ⟨e, _⟩ | ⟨e, _⟩ | ⟨e, _⟩
            · exact absurd e c1
            · exact absurd (.inl e) c2
            · exact absurd e c3
            · exact absurd (.inr e) c2
            · exact e
          refine next_in ?_
          refine next _ ⟨[(toString ((h : Nat) : Int) : Str), k], g12, hl2, ?_, ?_⟩
          · exact (stepT_f c4).symm
          · simp only [List.map_cons, List.map_nil, List.sum_cons, List.sum_nil, List.length_cons, List.length_nil]
            omega
abbrev s_law_wrong_line : Stmt := top 40
theorem sc_law_wrong_line : FnScope ["pot", "some"] ["pot"] (defScope s_law_wrong_line) := ⟨rfl, rfl, rfl, by decide +kernel, rfl, by decide +kernel, by decide +kernel⟩
theorem ok_law_wrong_line (F : Fun K "_law_wrong_line" "_law_wrong_line" s_law_wrong_line f fd) (T : RTx mg) (G_law_of : Fd P w K mg base CX0 "_law_of" 2 ["pot", "some"] (spOf K)) : FnOk P w K mg base CX0 3 f fd ["pot"] spWrong := by
  refine F.ok sc_law_wrong_line (fun vs H Q E h => ?_) (fun cdv A outer s H vs Q E hr h => ?_)
  · obtain ⟨p, k, rfl, _⟩ := h
    rfl
  obtain ⟨p, k, rfl, hP, hk, q⟩ := h
  refine ⟨_, (pss_cons (ps_set (i := 1) sc_law_wrong_line.nd rfl (Or.inl rfl) (pe_lst (pa_cons pe_str (pa_cons pe_str (pa_cons pe_str (pa_cons pe_str (pa_cons pe_str (pa_cons pe_str (pa_cons pe_str (pa_cons pe_str (pa_cons pe_str (pa_cons pe_str pa_nil))))))))))))
  (pss_cons (ps_expr (pe_bm PySem.F.plainAttrs_list PySem.F.slot_list_extend PySem.F.type_list_extend mt_extend (pv 1) (pa_cons (pe_lst (pa_cons pe_str (pa_cons pe_str (pa_cons pe_str (pa_cons pe_str (pa_cons pe_str (pa_cons pe_str (pa_cons pe_str (pa_cons pe_str pa_nil))))))))) pa_nil)))
  (pss_cons (ps_expr (pe_bm PySem.F.plainAttrs_list PySem.F.slot_list_extend PySem.F.type_list_extend mt_extend (pv 1) (pa_cons (pe_lst (pa_cons pe_str (pa_cons pe_str (pa_cons pe_str (pa_cons pe_str (pa_cons pe_str (pa_cons pe_str (pa_cons pe_str (pa_cons pe_str (pa_cons pe_str pa_nil)))))))))) pa_nil)))
  (pss_cons (ps_expr (pe_bm PySem.F.plainAttrs_list PySem.F.slot_list_extend PySem.F.type_list_extend mt_extend (pv 1) (pa_cons (pe_lst (pa_cons pe_str (pa_cons pe_str (pa_cons pe_str (pa_cons pe_str (pa_cons pe_str (pa_cons pe_str (pa_cons pe_str (pa_cons pe_str (pa_cons pe_str pa_nil)))))))))) pa_nil)))
  (pss_one (ps_ret (pe_fd G_law_of (hr.mono (by first | decide | omega)) rfl (pa_cons (pv 0) (pa_cons (pv 1) pa_nil))))))))), ?_⟩
  refine seq_in ?_
  refine asg_in ?_
  refine ⟨szl (by show 10 ≤ _; decide), fun l nl => ?_⟩
  have lp : l ≠ p := fun z => hP.ne0 (by rw [← z]; exact nl)
  have g0 := same_new nl (.lst (wA.map V.str))
  have h0 : upd H l (.lst (wA.map V.str)) l = some (.lst (wA.map V.str)) := upd_same
  refine g_set ?_
  refine nx_in ?_
  refine seq_in ?_
  refine ⟨_, rfl, .inl ⟨rfl, _, .of h0⟩, szl (by show 8 ≤ _; decide), fun x1 nx1 => ?_⟩
  have g1 := same_new nx1 (.lst (wB.map V.str))
  have h1 := g1 _ _ h0
  refine ⟨l, x1, wA.map V.str, wB.map V.str, rfl, rfl, h1, upd_same, szl (by decide), ?_⟩
  have k1 := same_put (o := .lst (wA.map V.str ++ wB.map V.str)) (g0.trans g1) nl
  have h2 : upd (upd (upd H l (.lst (wA.map V.str))) x1 (.lst (wB.map V.str))) l (.lst (wA.map V.str ++ wB.map V.str)) l = some (.lst (wA.map V.str ++ wB.map V.str)) := upd_same
  refine nx_in ?_
  refine seq_in ?_
  refine ⟨_, rfl, .inl ⟨rfl, _, .of h2⟩, szl (by show 9 ≤ _; decide), fun x2 nx2 => ?_⟩
  have g2 := same_new nx2 (.lst (wC.map V.str))
  have h3 := g2 _ _ h2
  refine ⟨l, x2, wA.map V.str ++ wB.map V.str, wC.map V.str, rfl, rfl, h3, upd_same, szl (by decide), ?_⟩
  have k2 := same_put (o := .lst ((wA.map V.str ++ wB.map V.str) ++ wC.map V.str)) (k1.trans g2) nl
  have h4 : upd (upd (upd (upd (upd H l (.lst (wA.map V.str))) x1 (.lst (wB.map V.str))) l (.lst (wA.map V.str ++ wB.map V.str))) x2 (.lst (wC.map V.str))) l (.lst ((wA.map V.str ++ wB.map V.str) ++ wC.map V.str)) l = some (.lst ((wA.map V.str ++ wB.map V.str) ++ wC.map V.str)) := upd_same
  refine nx_in ?_
  refine seq_in ?_
  refine ⟨_, rfl, .inl ⟨rfl, _, .of h4⟩, szl (by show 9 ≤ _; decide), fun x3 nx3 => ?_⟩
  have g3 := same_new nx3 (.lst (wD.map V.str))
  have h5 := g3 _ _ h4
  refine ⟨l, x3, (wA.map V.str ++ wB.map V.str) ++ wC.map V.str, wD.map V.str, rfl, rfl, h5, upd_same, szl (by decide), ?_⟩
  have k3 := same_put (o := .lst (((wA.map V.str ++ wB.map V.str) ++ wC.map V.str) ++ wD.map V.str)) (k2.trans g3) nl
  refine nx_in ?_
  refine ret_in ?_
  refine ⟨_, rfl, _, rfl, p, l, wrongL.map V.str, k, rfl, .of upd_same, lp, by decide, by decide, by omega, pot_sm k3 hP, fun i v H1 hv g4 hP4 => ?_⟩
  obtain ⟨z, hz, rfl⟩ : ∃ z, z ∈ wrongL ∧ v = .str z := by
    rw [List.getElem?_map] at hv
    cases e : wrongL[i]? with
    | none => rw [e] at hv; cases hv
    | some z => rw [e] at hv; cases hv; exact ⟨z, List.mem_of_getElem? e, rfl⟩
  exact q z H1 hz ((But.of k3).trans g4) hP4
end
end Fp
/-! readings of values that are built: told by objects outside N -/
namespace Fp
open PySem PySem.Spec PyProof.Rows L2 LamX
theorem da_same {H H' : Hp} {v : V} {d : PyData} (g : Same H H') (h : DA H v d) : DA H' v d := h.ext fun b o q _ => g b o q
theorem das_same {H H' : Hp} {vs : List V} {ds : List PyData} (g : Same H H') (h : DAs H vs ds) : DAs H' vs ds := h.ext fun b o q _ => g b o q
theorem das_app {H : Hp} : ∀ {vs ws : List V} {ds es : List PyData}, DAs H vs ds → DAs H ws es → DAs H (vs ++ ws) (ds ++ es)
  | _, _, _, _, .nil, g => g
  | _, _, _, _, .cons h t, g => .cons h (das_app t g)
theorem das_drop {H : Hp} : ∀ {i : Nat} {vs : List V} {ds : List PyData}, DAs H vs ds → DAs H (vs.drop i) (ds.drop i)
  | 0, _, _, h => h
  | i + 1, _, _, .nil => .nil
  | i + 1, _, _, .cons h t => das_drop (i := i) t
theorem das_take {H : Hp} : ∀ {i : Nat} {vs : List V} {ds : List PyData}, DAs H vs ds → DAs H (vs.take i) (ds.take i)
  | 0, _, _, _ => .nil
  | i + 1, _, _, .nil => .nil
  | i + 1, _, _, .cons h t => .cons h (das_take (i := i) t)
/-- the heap without what stands at N -/
def out (N : List Addr) (H : Hp) : Hp := fun b => if b ∈ N then none else H b
theorem out_some {N : List Addr} {H : Hp} {b : Addr} {o : HO} (h : out N H b = some o) : b ∉ N ∧ H b = some o := by
  unfold out at h
  by_cases c : b ∈ N
  · rw [if_pos c] at h; cases h
  · rw [if_neg c] at h; exact ⟨c, h⟩
theorem out_at {N : List Addr} {H : Hp} {b : Addr} {o : HO} (n : b ∉ N) (h : H b = some o) : out N H b = some o := by
  unfold out; rw [if_neg n]; exact h
theorem out_but {N : List Addr} {H H' : Hp} (g : But N H H') : Same (out N H) (out N H') := fun b o e => by
  obtain ⟨n, e⟩ := out_some e
  exact out_at n (g b o n e)
theorem out_same {N : List Addr} {H H' : Hp} (g : Same H H') : Same (out N H) (out N H') := out_but (.of g)
theorem out_le (N : List Addr) (H : Hp) : Same (out N H) H := fun b o e => (out_some e).2
theorem out_more {N M : List Addr} {H : Hp} (h : ∀ x ∈ M, x ∉ N → H x = none) (s : ∀ x ∈ N, x ∈ M) : Same (out N H) (out M H) := fun b o e => by
  obtain ⟨n, e⟩ := out_some e
  exact out_at (fun m => by rw [h b m n] at e; cases e) e
abbrev DN (N : List Addr) (H : Hp) (v : V) (d : PyData) : Prop := DA (out N H) v d
abbrev DNs (N : List Addr) (H : Hp) (v : List V) (d : List PyData) : Prop := DAs (out N H) v d
theorem DA.but {N : List Addr} {H H' : Hp} {v : V} {d : PyData} (h : DA (out N H) v d) (g : But N H H') : DA (out N H') v d := da_same (out_but g) h
theorem DAs.but {N : List Addr} {H H' : Hp} {v : List V} {d : List PyData} (h : DAs (out N H) v d) (g : But N H H') : DAs (out N H') v d := das_same (out_but g) h
theorem DA.here {N : List Addr} {H : Hp} {v : V} {d : PyData} (h : DA (out N H) v d) : DA H v d := da_same (out_le N H) h
theorem DAs.here {N : List Addr} {H : Hp} {v : List V} {d : List PyData} (h : DAs (out N H) v d) : DAs H v d := das_same (out_le N H) h
def Bl (N : List Addr) (σ : L2.St) (H0 : Hp) (te : TE) (d : PyData) : Prop := ∀ (H : Hp) (Q : VK), Same H0 H → (∀ v H', Same H H' → DN N H' v d → Q v H') → te σ H Q
def Bla (N : List Addr) (σ : L2.St) (H0 : Hp) (ta : TA) (ds : List PyData) : Prop := ∀ (H : Hp) (Q : List V → Hp → Prop), Same H0 H → (∀ vs H', Same H H' → DNs N H' vs ds → Q vs H') → ta σ H Q
def Blt (σ : L2.St) (H0 : Hp) (tt : L2.TT) (b : Bool) : Prop := ∀ (H : Hp) (Q : Bool → Hp → Prop), Same H0 H → (∀ H', Same H H' → Q b H') → tt σ H Q
section
variable {N : List Addr} {σ : L2.St} {H0 : Hp} {d e : PyData} {ds es : List PyData} {ta tb te : TE} {ts : TA} {tt : L2.TT} {K : PySem.W.Frag} {b : Bool}
theorem Bl.up {H1 : Hp} (h : Bl N σ H0 te d) (g : Same H0 H1) : Bl N σ H1 te d := fun H Q g2 q => h H Q (g.trans g2) q
theorem Bl.use (h : Bl N σ H0 te d) {Q : VK} (q : ∀ v H', Same H0 H' → DN N H' v d → Q v H') : te σ H0 Q := h H0 Q (Same.refl _) q
theorem bl_non : Bl N σ H0 (tC .non) .none := fun H Q g q => q _ _ (Same.refl _) .non
theorem bl_int {i : Int} : Bl N σ H0 (tC (.int i)) (.int i) := fun H Q g q => q _ _ (Same.refl _) (.int i)
theorem bl_bl {i : Bool} : Bl N σ H0 (tC (.bl i)) (.bool i) := fun H Q g q => q _ _ (Same.refl _) (.bl i)
theorem bl_str {i : Str} : Bl N σ H0 (tC (.str i)) (.str i) := fun H Q g q => q _ _ (Same.refl _) (.str i)
theorem bl_neg {i : Int} : Bl N σ H0 (tUn (rU fun i => V.int (-i)) (tC (.int i))) (.int (-i)) := fun H Q g q => ⟨i, rfl, q _ _ (Same.refl _) (.int _)⟩
theorem bl_var {j : Nat} {v : V} (h : σ[j]? = some (some v)) (hd : DN N H0 v d) : Bl N σ H0 (tVar j) d := fun H Q g q => ⟨_, h, q _ _ (Same.refl _) (da_same (out_same g) hd)⟩
theorem bla_nil : Bla N σ H0 tNil [] := fun H Q g q => q _ _ (Same.refl _) .nil
theorem bla_cons (h : Bl N σ H0 te d) (t : Bla N σ H0 ts ds) : Bla N σ H0 (tCons te ts) (d :: ds) := fun H Q g q => by
  refine h H _ g fun v H1 g1 dv => ?_
  exact t H1 _ (g.trans g1) fun vs H2 g2 dvs => q _ _ (g1.trans g2) (.cons (da_same (out_same g2) dv) dvs)
theorem new_out {x : Addr} {H : Hp} (hN : ∀ y ∈ N, H0 y ≠ none) (g : Same H0 H) (n : H x = none) : x ∉ N := fun m => hN x m (g.free n)
theorem bl_tup (hN : ∀ y ∈ N, H0 y ≠ none) (h : Bla N σ H0 ts ds) (hl : ds.length ≤ 10000) : Bl N σ H0 (tTup ts) (.tuple ds) := fun H Q g q => by
  refine h H _ g fun vs H1 g1 dv => ⟨szl (by rw [dv.len]; omega), fun p np => ?_⟩
  have g2 := same_new np (.tup vs)
  exact q _ _ (g1.trans g2) (.tup (out_at (new_out hN (g.trans g1) np) upd_same) (das_same (out_same g2) dv))
theorem bl_lst (hN : ∀ y ∈ N, H0 y ≠ none) (h : Bla N σ H0 ts ds) (hl : ds.length ≤ 10000) : Bl N σ H0 (tLst ts) (.list ds) := fun H Q g q => by
  refine h H _ g fun vs H1 g1 dv => ⟨szl (by rw [dv.len]; omega), fun p np => ?_⟩
  have g2 := same_new np (.lst vs)
  exact q _ _ (g1.trans g2) (.lst (out_at (new_out hN (g.trans g1) np) upd_same) (das_same (out_same g2) dv))
theorem bl_cat (hN : ∀ y ∈ N, H0 y ≠ none) (ha : Bl N σ H0 ta (.tuple ds)) (hb : Bl N σ H0 tb (.tuple es)) (hl : ds.length + es.length ≤ 10000) : Bl N σ H0 (tOp (rCatA K) ta tb) (.tuple (ds ++ es)) := fun H Q g q => by
  refine ha H _ g fun v H1 g1 dv => ?_
  refine hb H1 _ (g.trans g1) fun u H2 g2 du => ?_
  have dv2 := da_same (out_same g2) dv
  cases dv2 with
  | @tup a xs _ h1 t1 =>
    cases du with
    | @tup c ys _ h2 t2 =>
      refine ⟨a, c, xs, ys, rfl, rfl, .of (out_some h1).2, .of (out_some h2).2, szl (by rw [t1.len, t2.len]; omega), fun z => ?_, fun _ z => ?_, fun _ _ p np => ?_⟩
      · subst z
        cases t1
        exact q _ _ (g1.trans g2) (.tup h2 t2)
      · subst z
        cases t2
        exact q _ _ (g1.trans g2) (.tup h1 (by rw [List.append_nil]; exact t1))
      · have g3 := same_new np (.tup (xs ++ ys))
        exact q _ _ ((g1.trans g2).trans g3) (.tup (out_at (new_out hN ((g.trans g1).trans g2) np) upd_same) (das_app (das_same (out_same g3) t1) (das_same (out_same g3) t2)))
theorem bl_slice {lo hi : Option Int} (hN : ∀ y ∈ N, H0 y ≠ none) {es : List PyData} (h : Bl N σ H0 te (.tuple ds)) (hc : ∀ (H : Hp) xs, DAs H xs ds → DAs H (cutV xs lo hi) es) (H : Hp) (Q : VK) (g : Same H0 H) (q : ∀ v H', Same H H' → DN N H' v (.tuple es) → Q v H') : te σ H fun x H1 => rSlA K x lo hi H1 Q := by
  refine h H _ g fun v H1 g1 dv => ?_
  cases dv with
  | @tup a xs _ h1 t1 =>
    refine ⟨a, xs, rfl, .of (out_some h1).2, fun z => ?_, fun z p np => ?_⟩
    · have e : cutV xs lo hi = xs := by
        unfold cutV
        rw [z.1, z.2, List.drop_zero]
        exact List.take_of_length_le (by omega)
      have := hc _ _ t1
      rw [e] at this
      exact q _ _ g1 (.tup h1 this)
    · have g3 := same_new np (.tup (cutV xs lo hi))
      exact q _ _ (g1.trans g3) (.tup (out_at (new_out hN (g.trans g1) np) upd_same) (das_same (out_same g3) (hc _ _ t1)))
theorem bl_from (hN : ∀ y ∈ N, H0 y ≠ none) (h : Bl N σ H0 te (.tuple ds)) (i : Nat) : Bl N σ H0 (tSl (rSlA K) te (tPart (tC (.int (i : Int)))) tNoPart) (.tuple (ds.drop i)) := fun H Q g q => by
  refine h H _ g fun v H1 g1 dv => ⟨_, rfl, ?_⟩
  refine noP_in ?_
  refine bl_slice (σ := σ) (te := tC v) (ds := ds) (H0 := H1) (fun y m z => hN y m ((g.trans g1).free z)) (fun H Q g q => q v H (Same.refl _) (da_same (out_same g) dv)) (fun H xs t => by rw [cutA_from]; exact das_drop t) H1 Q (Same.refl _) fun v2 H2 g2 d2 => q _ _ (g1.trans g2) d2
theorem bl_to (hN : ∀ y ∈ N, H0 y ≠ none) (h : Bl N σ H0 te (.tuple ds)) (i : Nat) : Bl N σ H0 (tSl (rSlA K) te tNoPart (tPart (tC (.int (i : Int))))) (.tuple (ds.take i)) := fun H Q g q => by
  refine h H _ g fun v H1 g1 dv => ?_
  refine noP_in ?_
  refine ⟨_, rfl, ?_⟩
  refine bl_slice (σ := σ) (te := tC v) (ds := ds) (H0 := H1) (fun y m z => hN y m ((g.trans g1).free z)) (fun H Q g q => q v H (Same.refl _) (da_same (out_same g) dv)) (fun H xs t => by rw [cutA_to]; exact das_take t) H1 Q (Same.refl _) fun v2 H2 g2 d2 => q _ _ (g1.trans g2) d2
theorem bl_list (hN : ∀ y ∈ N, H0 y ≠ none) (h : Bl N σ H0 te (.tuple ds)) : Bl N σ H0 (tCB (fun xs H Q => ∃ p ys, xs = [V.ref p] ∧ (SqL K H p ys ∨ SqT K H p ys) ∧ ∀ l, H l = none → Q (.ref l) (upd H l (.lst ys))) (tCons te tNil)) (.list ds) := fun H Q g q => by
  refine h H _ g fun v H1 g1 dv => ?_
  cases dv with
  | @tup a xs _ h1 t1 =>
    refine ⟨a, xs, rfl, .inr (.of (out_some h1).2), fun l nl => ?_⟩
    have g2 := same_new nl (.lst xs)
    exact q _ _ (g1.trans g2) (.lst (out_at (new_out hN (g.trans g1) nl) upd_same) (das_same (out_same g2) t1))
theorem bl_ix (h : Bl N σ H0 te (.tuple ds)) (i : Nat) (hi : ds[i]? = some d) : Bl N σ H0 (tOp (rIxT K) te (tC (.int (i : Int)))) d := fun H Q g q => by
  refine h H _ g fun v H1 g1 dv => ?_
  cases dv with
  | @tup a xs _ h1 t1 =>
    have hlt := (List.getElem?_eq_some_iff.mp hi).1
    rw [← t1.len] at hlt
    obtain ⟨d', hd', sv⟩ := t1.at_ (List.getElem?_eq_getElem hlt)
    rw [hi] at hd'
    cases hd'
    exact ⟨a, xs, _, xs[i], rfl, rfl, .of (out_some h1).2, atI_nat (List.getElem?_eq_getElem hlt), q _ _ g1 sv⟩
theorem bl_ife (h : Blt σ H0 tt b) (h1 : b = true → Bl N σ H0 ta d) (h2 : b = false → Bl N σ H0 tb d) : Bl N σ H0 (tIf tt ta tb) d := fun H Q g q => by
  refine h H _ g fun H1 g1 => ?_
  cases b with
  | true => exact iteT (h1 rfl H1 _ (g.trans g1) fun v H2 g2 dv => q _ _ (g1.trans g2) dv)
  | false => exact iteF (h2 rfl H1 _ (g.trans g1) fun v H2 g2 dv => q _ _ (g1.trans g2) dv)
/-- t != (), t any tuple -/
def rNeE (K : PySem.W.Frag) : R2 := fun x y H Q => ∃ ds, DA H x (.tuple ds) ∧ DA H y (.tuple []) ∧ SeqAt.shaped (.tuple ds) = true ∧ Q (.bl (!ds.isEmpty)) H
theorem op_neE {X : Cx} {K : PySem.W.Frag} (hu : X.A.units + 64 < cLine) (e : X.K = K := by rfl) : OpR X (compareOp .NotEq) (rNeE K) := by
  subst e
  intro pins s σ H x y v u Q I rx ry h
  obtain ⟨ds, hx, hy, sd, q⟩ := h
  refine op_neD hu pins s σ H x y v u Q I rx ry ⟨_, _, hx.dp (PyData.hasDict_of_canLay _ (SeqAt.canLay_of_shaped sd)), hy.dp (by decide +kernel), sd, by decide +kernel, ?_⟩
  have e : PyData.eqv (.tuple ds) (.tuple []) = ds.isEmpty := by
    cases ds with
    | nil => decide +kernel
    | cons d r =>
      rw [PyData.eqv]
      exact PySem.SeqAt.eqvAll_other_length (by simp)
  rw [e]
  exact q
theorem blt_neE (h : Bl N σ H0 te (.tuple ds)) (sd : SeqAt.shaped (.tuple ds) = true) : Blt σ H0 (tTest (tOp (rNeE K) te (tTup tNil))) (!ds.isEmpty) := fun H Q g q => by
  refine h H _ g fun v H1 g1 dv => ⟨szl (by show 0 ≤ _; decide), fun p np => ?_⟩
  have g2 := same_new np (.tup [])
  exact ⟨ds, da_same g2 dv.here, .tup upd_same .nil, sd, _, rfl, q _ (g1.trans g2)⟩
end
end Fp
namespace Fp
open PySem PySem.Spec PyProof.Rows L2
/-! ### f(k = v, ..) -/
def tCallKW (n : Nat) (sp : Sp) (gV : List V → List V) (tk : TA) : TE := fun σ H Q => tk σ H fun zs H2 => zs.length = n ∧ sp (gV zs) H2 Q E0
structure FdKw (P : Program) (w : World) (K : PySem.W.Frag) (mg : Str → Option Value) (base : Heap) (CX : CXT) (x : Str) (k : Nat) (ps ks : List Str) (g : List Value → List Value) (gV : List V → List V) (sp : Sp) : Prop where
  ex : ∃ (f : Addr) (fd : FuncData), mg x = some (.ref f) ∧ PySem.W.keepIn K (.ref f) = true ∧ KBn K fd ps 0 ks (fun _ => g) (fun _ => gV) ∧ FnOk P w K mg base CX k f fd ps sp
section
variable {X : Cx} {k : Nat} {x : Str} {ps ks : List Str} {sp : Sp} {p pos : Pos} {kws : List Keyword} {tk : TA} {g : List Value → List Value} {gV : List V → List V}
theorem pe_fdKw (M : FdKw X.prog X.w X.K X.mg X.base CX0 x k ps ks g gV sp) (hr : Room k X.A) (hg : Gl X x) (hkw : PK X kws tk)
    (hall : (backToKw pos (keywordEach kws X.env)).all (·.1.isSome) = true := by rfl) (hks : (backToKw pos (keywordEach kws X.env)).filterMap (·.1) = ks := by rfl) (hdb : (x == ("__debug__" : Str)) = false := by decide)
    (hpl : ((backTo pos (starEach [] X.env)).any (·.1) || (backToKw pos (keywordEach kws X.env)).any (·.1.isNone)) = false := by rfl) :
    PE X (.Call (.Name x p) [] kws pos) (tCallKW ks.length sp gV tk) := by
  obtain ⟨f, fd, hm, hk, hb, F⟩ := M.ex
  refine ⟨fun pins s σ H Q I h => ?_⟩
  refine wpAny_Call_Name_kw (ld_glob I hg hm ?_ hdb)
  refine PySem.W.callWith_KW0 (first := []) (h₀ := X.base) I.ok.mod.kin hk hall ?_ hpl
  refine thn (hkw.run pos pins s σ H _ I h) fun ws s2 ⟨zs, H2, I2, rz, l2, q2⟩ => ⟨I2.kIn, ?_⟩
  rw [hks]
  have r2 := hb.rel (vs := []) (us := []) .nil rz
  refine wpAny_call (codeAny_mono (F.run X.A X.stack s2 H2 ⟨[], ks.zip ws⟩ (g ws) (gV zs) Q E0 hr I2.env0 (hb.to s2 [] ws I2.kIn rfl (rz.length.symm.trans l2)) r2 q2) fun r s' hq => ?_)
  cases r with
  | error e => exact pass0 pins σ H2 s2 e s' I2 hq
  | ok fl =>
    cases fl with
    | ret u => exact I2.after hq
    | next => exact False.elim hq
    | brk => exact False.elim hq
    | cont => exact False.elim hq
end
end Fp
namespace Fp
open PySem PySem.Spec PyProof.Rows L2
/-! ### f(k = v, ..), which may raise -/
def tCallKWE (n : Nat) (sp : Sp) (gV : List V → List V) (E : XK) (tk : TA) : TE := fun σ H Q => tk σ H fun zs H2 => zs.length = n ∧ sp (gV zs) H2 Q E
section
variable {X : Cx} {k : Nat} {x : Str} {ps ks : List Str} {sp : Sp} {p pos : Pos} {kws : List Keyword} {tk : TA} {g : List Value → List Value} {gV : List V → List V} {E : XK}
theorem pe_fdKwE (tkk : Takes X (fun cls d _ H => E cls d H)) (M : FdKw X.prog X.w X.K X.mg X.base (L2.CX X.prog X.w) x k ps ks g gV sp) (hr : Room k X.A) (hg : Gl X x) (hkw : PK X kws tk)
    (hall : (backToKw pos (keywordEach kws X.env)).all (·.1.isSome) = true := by rfl) (hks : (backToKw pos (keywordEach kws X.env)).filterMap (·.1) = ks := by rfl) (hdb : (x == ("__debug__" : Str)) = false := by decide)
    (hpl : ((backTo pos (starEach [] X.env)).any (·.1) || (backToKw pos (keywordEach kws X.env)).any (·.1.isNone)) = false := by rfl) :
    PE X (.Call (.Name x p) [] kws pos) (tCallKWE ks.length sp gV E tk) := by
  obtain ⟨f, fd, hm, hk, hb, F⟩ := M.ex
  refine ⟨fun pins s σ H Q I h => ?_⟩
  refine wpAny_Call_Name_kw (ld_glob I hg hm ?_ hdb)
  refine PySem.W.callWith_KW0 (first := []) (h₀ := X.base) I.ok.mod.kin hk hall ?_ hpl
  refine thn (hkw.run pos pins s σ H _ I h) fun ws s2 ⟨zs, H2, I2, rz, l2, q2⟩ => ⟨I2.kIn, ?_⟩
  rw [hks]
  have r2 := hb.rel (vs := []) (us := []) .nil rz
  refine wpAny_call (codeAny_mono (F.run X.A X.stack s2 H2 ⟨[], ks.zip ws⟩ (g ws) (gV zs) Q E hr I2.env0 (hb.to s2 [] ws I2.kIn rfl (rz.length.symm.trans l2)) r2 q2) fun r s' hq => ?_)
  cases r with
  | error e => exact pass_of tkk pins σ H2 s2 e s' I2 hq
  | ok fl =>
    cases fl with
    | ret u => exact I2.after hq
    | next => exact False.elim hq
    | brk => exact False.elim hq
    | cont => exact False.elim hq
end
/-- one keyword alone -/
def kw1 {α : Type} (zs : List α) : List α := zs
end Fp
/-! what is no run is refused -/
namespace Fp
open PySem PySem.Spec PyProof.Rows L2 LamX
abbrev QA12 : Str := ("_law_are_refused" : Str) ++ (".<locals>." : Str)
abbrev QB12 : Str := ("_law_right" : Str) ++ (".<locals>." : Str)
abbrev T12 (PA PB : Addr) : List (Addr × Str) := [(PA, QA12 ++ ("<lambda>" : Str)), (PB, QB12 ++ ("<lambda>" : Str))]
section
variable {PA PB : Addr} {q : Str}
theorem memA12 (h : q = QA12) : (PA, q ++ ("<lambda>" : Str)) ∈ T12 PA PB := by subst h; simp
theorem memB12 (h : q = QB12) : (PB, q ++ ("<lambda>" : Str)) ∈ T12 PA PB := by subst h; simp
theorem onlyA12 (t : PA ≠ PB) (h : q = QA12) : ∀ p ∈ T12 PA PB, p.1 = PA → p.2 = q ++ ("<lambda>" : Str) := fun p hp e => by
  subst h
  simp only [T12, List.mem_cons, List.not_mem_nil, or_false] at hp
  rcases hp with rfl | rfl
  · rfl
  · exact absurd e.symm t
theorem onlyB12 (t : PA ≠ PB) (h : q = QB12) : ∀ p ∈ T12 PA PB, p.1 = PB → p.2 = q ++ ("<lambda>" : Str) := fun p hp e => by
  subst h
  simp only [T12, List.mem_cons, List.not_mem_nil, or_false] at hp
  rcases hp with rfl | rfl
  · exact absurd e t
  · rfl
end
/-- no run -/
structure NoRun (d : PyData) : Prop where
  bad : stepsB d = false
  kd : ∀ ds, d = .tuple ds → ∀ x ∈ ds, KdOk x
  sz : vsz d ≤ 1000000
  sh : ShowOk d
/-! ### runs can be shown -/
theorem gv_sm : ∀ {n : Nat} {d : PyData}, gvB n d = true → Sm (n + 1) (4 ^ (n + 1)) d
  | n, .none, _ => Sm.non.mono (by omega) (Nat.zero_le _)
  | n, .int i, h => by
    have h : decide (i ∈ intsL) = true := by cases n <;> exact h
    have h := of_decide_eq_true h
    have e : intsL.all (fun i => decide ((PyData.int i).showable = true ∧ (PyData.int i).leavesShort 13 = true)) = true := by decide +kernel
    obtain ⟨h1, h2⟩ := of_decide_eq_true (List.all_eq_true.mp e i h)
    exact (⟨h1, by simp [PyData.canLay0], h2, by simp [PyData.bulk], by simp [PyData.depth]⟩ : Sm 1 0 (.int i)).mono (by omega) (Nat.zero_le _)
  | n + 1, .tuple ds, h => by
    rw [gvB, Bool.and_eq_true] at h
    have h1 := of_decide_eq_true h.1
    refine (Sms.all (k := n + 1) (n := 4 ^ (n + 1)) fun d hd => gv_sm (List.all_eq_true.mp h.2 d hd)).tup.mono (Nat.le_refl _) ?_
    have h2 : (4 ^ (n + 1) + 1) * ds.length ≤ (4 ^ (n + 1) + 1) * 3 := Nat.mul_le_mul_left _ h1
    have h3 : 4 ≤ 4 ^ (n + 1) := by
      have := Nat.pow_le_pow_right (n := 4) (by decide) (show 1 ≤ n + 1 by omega)
      simpa using this
    have h4 : 4 ^ (n + 1 + 1) = 4 ^ (n + 1) * 4 := Nat.pow_succ _ _
    omega
  | 0, .tuple ds, h => by simp [gvB] at h
  | n, .bool _, h => by cases n <;> simp [gvB] at h
  | n, .str _, h => by cases n <;> simp [gvB] at h
  | n, .list _, h => by cases n <;> simp [gvB] at h
  | n, .dict _, h => by cases n <;> simp [gvB] at h
theorem word_sm {w : Int} (h : w ∈ wordsL) : Sm 1 0 (.int w) := by
  obtain ⟨h1, h2, _⟩ := words_ok h
  exact Sm.int (by omega) (by omega)
theorem kind_sm {k : Str} {m : PyData} (h : matS k m = true) : Sm 1 10 (.str k) := by
  rcases kind_of h with ⟨rfl, _⟩ | ⟨rfl, _⟩ | ⟨rfl, _⟩ | ⟨rfl | rfl, _⟩ | ⟨rfl, _⟩ <;> exact Sm.str (by decide +kernel) (by decide +kernel) (by decide +kernel)
theorem GS.msm {d : PyData} (g : GS d) : ∃ (h : Nat) (k : Str) (m : PyData), d = .tuple [.int (h : Nat), .str k, m] ∧ h < 6 ∧ GM k m ∧ Sm 5 600 m := by
  obtain ⟨h, k, m, e, h6, gm⟩ := g.of
  refine ⟨h, k, m, e, h6, gm, ?_⟩
  subst e
  cases g with
  | write h m h6 hm => exact (gv_sm hm).mono (by decide) (by decide)
  | look h ds h6 h1 h2 hm =>
    refine (Sms.all (k := 3) (n := 64) fun d hd => (gv_sm (List.all_eq_true.mp hm d hd)).mono (by decide) (by decide)).tup.mono (by decide) ?_
    omega
  | forget h h6 => exact Sm.non.mono (by decide) (by decide)
  | say h w h6 hw => exact (word_sm hw).mono (by decide) (by decide)
  | box h b k w h6 hb hk hw => exact (Sms.cons (Sm.int (i := (b : Nat)) (by omega) (by omega)) (Sms.cons (word_sm hw) (Sms.nil (n := 0)))).tup.mono (by decide) (by decide)
theorem step_sms {h : Nat} {k : Str} {m : PyData} (h6 : h < 6) (gm : GM k m) (sm : Sm 5 600 m) : Sms 5 613 [.int (h : Nat), .str k, m] :=
  (Sms.cons ((Sm.int (i := (h : Nat)) (by omega) (by omega)).mono (k' := 5) (by decide) (Nat.le_refl _)) (Sms.cons ((kind_sm gm.mat).mono (k' := 5) (by decide) (Nat.le_refl _)) (Sms.cons sm (Sms.nil (n := 0))))).mono (Nat.le_refl _) (by decide)
theorem GS.sm {d : PyData} (g : GS d) : Sm 6 613 d := by
  obtain ⟨h, k, m, rfl, h6, gm, sm⟩ := g.msm
  exact (step_sms h6 gm sm).tup
theorem run_sms {ds : List PyData} (h : ∀ d ∈ ds, GS d) (hl : ds.length ≤ 11) : Sms 6 7000 ds := (Sms.all fun d hd => (h d hd).sm).mono (Nat.le_refl _) (by omega)
theorem run_shaped {ds : List PyData} (h : ∀ d ∈ ds, GS d) (hl : ds.length ≤ 11) : SeqAt.shaped (.tuple ds) = true := (run_sms h hl).tup.shaped (by decide)
theorem vszs_run : ∀ {ds : List PyData}, (∀ d ∈ ds, GS d) → vszs ds ≤ 200 * ds.length
  | [], _ => by simp [vszs]
  | d :: ds, h => by
    have h1 := (h d List.mem_cons_self).toks.2.2.2.2
    have h2 := vszs_run (ds := ds) fun x hx => h x (List.mem_cons_of_mem _ hx)
    rw [vszs, List.length_cons, Nat.mul_succ]
    omega
/-! ### the rows -/
theorem sm_bool (b : Bool) : Sm 1 0 (.bool b) := ⟨by simp [PyData.showable], by simp [PyData.canLay0], by simp [PyData.leavesShort], by simp [PyData.bulk], by simp [PyData.depth]⟩
theorem sok {d : PyData} {k n : Nat} (h : Sm k n d) (hk : k ≤ 64 := by decide) (hn : n ≤ 1000000 := by decide) : ShowOk d := .inl ⟨k, n, h, hk, hn⟩
theorem NoRun.flat {d : PyData} (h : (match d with | .tuple _ => false | _ => true) = true) (sz : vsz d ≤ 1000000) (sh : ShowOk d) : NoRun d := ⟨(by cases d <;> first | rfl | cases h), (fun ds e => by subst e; cases h), sz, sh⟩
def litRow : PyData → Bool
  | .tuple [x] => !stepB x && (match x with | .tuple [_, k, _] => isStr k || isNon k | _ => true) && decide (vsz (.tuple [x]) ≤ 1000000) && (PyData.tuple [x]).showable && (PyData.tuple [x]).canLay0 && (PyData.tuple [x]).leavesShort 13 && decide ((PyData.tuple [x]).bulk ≤ 1000000) && decide ((PyData.tuple [x]).depth ≤ 64)
  | _ => false
theorem one_bad {x : PyData} (h : stepB x = false) : stepsB (.tuple [x]) = false := by
  show [x].all stepB = false
  rw [List.all_cons, h]; rfl
theorem kd_bool {x : PyData} (h : (match x with | .tuple [_, k, _] => isStr k || isNon k | _ => true) = true) : KdOk x := by
  unfold KdOk
  split
  · rename_i a k b
    have h : (isStr k || isNon k) = true := h
    cases k <;> first | exact .inl ⟨_, rfl⟩ | exact .inr rfl | cases h
  · trivial
theorem one_kd {x : PyData} (h : KdOk x) : ∀ ds, PyData.tuple [x] = .tuple ds → ∀ y ∈ ds, KdOk y := fun ds e y hy => by
  cases e
  rw [List.mem_singleton.mp hy]; exact h
theorem lit_row {d : PyData} (h : litRow d = true) : NoRun d := by
  unfold litRow at h
  split at h
  · rename_i x
    simp only [Bool.and_eq_true] at h
    obtain ⟨⟨⟨⟨⟨⟨⟨h1, h2⟩, h3⟩, h4⟩, h5⟩, h6⟩, h7⟩, h8⟩ := h
    exact ⟨one_bad (by simpa using h1), one_kd (kd_bool h2), of_decide_eq_true h3, .inl ⟨64, 1000000, ⟨h4, h5, h6, of_decide_eq_true h7, of_decide_eq_true h8⟩, Nat.le_refl _, Nat.le_refl _⟩⟩
  · cases h
def rowB12 : List PyData := [.tuple [.tuple [.int 6, .str "write", .int 1]], .tuple [.tuple [.int 0, .str "say", .int 100]], .tuple [.tuple [.int 0, .str "say", .bool true]], .tuple [.tuple [.int 0, .str "look", .int 1]], .tuple [.tuple [.int 0, .str "forget", .int 0]]]
def rowC12 : List PyData := [.tuple [.tuple [.int 0, .str "ask", .tuple [.int 6, .int 1]]], .tuple [.tuple [.int 0, .str "ask", .int 1]], .tuple [.tuple [.int 0, .str "answer", .tuple [.int 0, .none]]], .tuple [.tuple [.int 0, .str "write", .str "1"]], .tuple [.tuple [.int 0, .str "write", .list [.int 1]]]]
def rowD12 : List PyData := [.tuple [.tuple [.int 0, .str "look", .tuple [.int 1, .bool true]]], .tuple [.tuple [.int 0, .str "write", .tuple [.int 1, .bool true]]], .tuple [.tuple [.int (-1), .str "write", .int 1]], .tuple [.tuple [.int 0, .str "read", .int 1]], .tuple [.tuple [.int 0, .none, .int 1]]]
theorem rowsBCD : (rowB12 ++ rowC12 ++ rowD12).all litRow = true := by decide +kernel
def rowA12 (ds es : List PyData) : List PyData := [.none, .list (if ds = [] then [.int 1] else ds), .str "", .int 0, .tuple [.none], .tuple [.list es], .tuple [.tuple (es.take 2)], .tuple [.tuple (es ++ [.int 0])], .tuple [.tuple ([.bool true] ++ es.drop 1)]]
theorem rowA_no {ds : List PyData} {h : Nat} {k : Str} {m : PyData} (hr : ∀ d ∈ ds, GS d) (hl : ds.length ≤ 11) (h6 : h < 6) (gm : GM k m) (sm : Sm 5 600 m) : ∀ d ∈ rowA12 ds [.int (h : Nat), .str k, m], NoRun d := by
  have ss := step_sms h6 gm sm
  have hm : vsz m ≤ 110 := gm.sz
  intro d hd
  unfold rowA12 at hd
  simp only [List.mem_cons, List.not_mem_nil, or_false] at hd
  rcases hd with rfl | rfl | rfl | rfl | rfl | rfl | rfl | rfl | rfl
  · exact .flat rfl (by decide +kernel) (sok Sm.non)
  · refine .flat rfl (by simp [vsz]) ?_
    by_cases c : ds = []
    · rw [if_pos c]; exact sok (Sms.cons (Sm.int (by decide) (by decide)) (Sms.nil (n := 0))).lst
    · rw [if_neg c]; exact sok (run_sms hr hl).lst
  · exact .flat rfl (by decide +kernel) (sok (Sm.str (n := 10) (by decide +kernel) (by decide +kernel) (by decide +kernel)))
  · exact .flat rfl (by decide +kernel) (sok (Sm.int (by decide) (by decide)))
  · exact lit_row (by decide +kernel)
  · exact ⟨one_bad rfl, one_kd trivial, by simp [vsz, vszs], sok (Sms.cons ss.lst (Sms.nil (n := 0))).tup⟩
  · exact ⟨one_bad rfl, one_kd trivial, by simp [vsz, vszs], sok (Sms.cons (Sms.cons (Sm.int (i := (h : Nat)) (by omega) (by omega)) (Sms.cons ((kind_sm gm.mat)) (Sms.nil (n := 0)))).tup (Sms.nil (n := 0))).tup⟩
  · exact ⟨one_bad rfl, one_kd trivial, by simp [vsz, vszs]; omega, sok (Sms.cons (Sms.cons ((Sm.int (i := (h : Nat)) (by omega) (by omega)).mono (k' := 5) (by decide) (Nat.le_refl _)) (Sms.cons ((kind_sm gm.mat).mono (k' := 5) (by decide) (Nat.le_refl _)) (Sms.cons sm (Sms.cons ((Sm.int (i := 0) (by decide) (by decide)).mono (k' := 5) (by decide) (Nat.le_refl _)) (Sms.nil (n := 0)))))).tup (Sms.nil (n := 0))).tup⟩
  · exact ⟨one_bad rfl, one_kd (.inl ⟨k, rfl⟩), by simp [vsz, vszs]; omega, sok (Sms.cons (Sms.cons ((sm_bool true).mono (k' := 5) (by decide) (Nat.le_refl _)) (Sms.cons ((kind_sm gm.mat).mono (k' := 5) (by decide) (Nat.le_refl _)) (Sms.cons sm (Sms.nil (n := 0))))).tup (Sms.nil (n := 0))).tup⟩
theorem rows_no {ds : List PyData} {h : Nat} {k : Str} {m : PyData} (hr : ∀ d ∈ ds, GS d) (hl : ds.length ≤ 11) (h6 : h < 6) (gm : GM k m) (sm : Sm 5 600 m) : ∀ d ∈ ((rowA12 ds [.int (h : Nat), .str k, m] ++ rowB12) ++ rowC12) ++ rowD12, NoRun d := fun d hd => by
  rw [List.append_assoc, List.append_assoc, List.mem_append] at hd
  rcases hd with hd | hd
  · exact rowA_no hr hl h6 gm sm d hd
  · exact lit_row (List.all_eq_true.mp rowsBCD d (by rw [List.append_assoc]; exact hd))
/-! ### texts that are none -/
theorem potKx {H : Hp} {p : Addr} {m : Nat} (hP : PotAt H p m) : ∀ x ∈ [p], ∀ o, H x = some o → (∀ ps, o ≠ .tbl ps) ∧ ∀ φ, o ≠ .ext φ := fun x hx o q => by
  obtain ⟨xs, z⟩ := hP.there
  rw [List.mem_singleton.mp hx, z] at q
  cases q
  exact ⟨fun _ z => (by cases z), fun _ z => (by cases z)⟩
theorem u64x {k : Nat} {A : Around} (r : Room k A) : A.units + 64 < cLine := by have := r.un; omega
def notext : List PyData := [.none, .int 7, .list [.str "0 write 1"], .tuple [], .bool true]
/-- a list of values at a, while it grows -/
structure RL12 (PA PB p a : Addr) (k : Nat) (H0 H : Hp) (vs : List V) (ds : List PyData) : Prop where
  same : Same H0 H
  pot : PotAt H p k
  tab : Tabs (T12 PA PB) H
  at_ : H a = some (.lst vs)
  ne : a ≠ p
  new : H0 a = none
  da : DNs [p, a] H vs ds
theorem RL12.nn {PA PB p a : Addr} {k : Nat} {H0 H : Hp} {vs : List V} {ds : List PyData} (S : RL12 PA PB p a k H0 H vs ds) : ∀ y ∈ [p, a], H y ≠ none := fun y hy => by
  simp only [List.mem_cons, List.not_mem_nil, or_false] at hy
  rcases hy with rfl | rfl
  · exact S.pot.ne0
  · rw [S.at_]; simp
theorem RL12.ext {PA PB p a : Addr} {k : Nat} {H0 H : Hp} {vs : List V} {ds es : List PyData} {σ : L2.St} {ta : TA} {Q : VK} (S : RL12 PA PB p a k H0 H vs ds) (b : Bla [p, a] σ H ta es) (hl : ds.length + es.length ≤ 1000)
    (q : ∀ H' ws, RL12 PA PB p a k H0 H' ws (ds ++ es) → Q .non H') : tCons (tLst ta) tNil σ H fun xs H2 => rExtend (.ref a) xs H2 Q := by
  refine b H _ (Same.refl _) fun us H1 g1 du => ⟨szl (by rw [du.len]; omega), fun x nx => ?_⟩
  have k1 := same_new nx (.lst us)
  have g := g1.trans k1
  have ha := g _ _ S.at_
  have dl := S.da.len
  refine ⟨a, x, vs, us, rfl, rfl, ha, upd_same, szl (by rw [dl, du.len]; omega), ?_⟩
  have gp := same_put (o := .lst (vs ++ us)) (S.same.trans g) S.new
  refine q _ _ ⟨gp, ?_, Tabs.put (Tabs.same S.tab g) ha, upd_same, S.ne, S.new, ?_⟩
  · exact pot_upd (pot_sm g S.pot) S.ne
  · refine das_same (out_but (N := [p, a]) ((But.refl _ _).put (by simp))) (das_app (das_same (out_same g) S.da) (das_same (out_same k1) du))
def spAreRef (PA PB : Addr) : Sp := fun vs H Q _ => ∃ (p t : Addr) (xs : List V) (ds : List PyData) (k : Nat), vs = [.ref p, .ref t] ∧ PotAt H p k ∧ k ≤ 900000 ∧ H t = some (.tup xs) ∧ DNs [p] H xs ds ∧ t ≠ p ∧ (∀ d ∈ ds, GS d) ∧ ds.length ≤ 11 ∧ Tabs (T12 PA PB) H ∧
  ∀ H', ButN [p] H H' → Tabs (T12 PA PB) H' → Q (.bl true) H'
theorem das_bools {H : Hp} {D : Addr} {T : List (Addr × Str)} {i : Nat} {Hb : Hp} (hD : Hb D = none) (g : ExtN Hb H) (t : Tabs T H) (h : H D = some (.lst ((List.replicate i true).map V.bl))) (hi : i < 1000) :
    ∃ acc, H D = some (.lst acc) ∧ acc.length < sizeLine ∧ ExtN Hb (upd H D (.lst (acc ++ [.bl true]))) ∧ Tabs T (upd H D (.lst (acc ++ [.bl true]))) ∧ upd H D (.lst (acc ++ [.bl true])) D = some (.lst ((List.replicate (i + 1) true).map V.bl)) :=
  ⟨_, h, szt (by rw [List.length_map, List.length_replicate]; omega), (fun b o q n => by rw [upd_ne (fun z => by rw [z, hD] at q; cases q)]; exact g b o q n), Tabs.put t h, by rw [upd_same, List.replicate_succ', List.map_append]; rfl⟩
section
variable {P : Program} {w : World} {K : PySem.W.Frag} {mg : Str → Option Value} {base : Heap} {f : Addr} {fd : FuncData} {C CH PA PB c1 : Addr} {e : Nat → Addr}
abbrev s_law_are_refused : Stmt := top 41
theorem sc_law_are_refused : FnScope ["pot", "run", "step", "rows", "value"] ["pot", "run"] (defScope s_law_are_refused) := ⟨rfl, rfl, rfl, by decide +kernel, rfl, by decide +kernel, by decide +kernel⟩
theorem ok_law_are_refused (F : Fun K "_law_are_refused" "_law_are_refused" s_law_are_refused f fd) (hns : PySem.W.nsIn K mainGlobals "_law_are_refused" = some (some (.ref f))) (hTab : PySem.W.tabIn K "_law_are_refused" = some (c1, PA)) (TB : TabB base mg c1 PA) (tb : PA ≠ PB) (T : LTx mg) (G_law_some : Fd P w K mg base CX0 "_law_some" 2 ["pot", "pool", "many"] (spSome K))
    (G_law_is_refused : FdG P w K mg base CX0 "_law_is_refused" 19 ["call", "word", "value"] (spRefN 2 wo12 P w K mg base e)) (X_run_text : Fd P w K mg base (L2.CX P w) "run_text" 7 ["run"] (spRunTxtX (e 0))) (K_run_in : FdKw P w K mg base (L2.CX P w) "run_in" 7 ["text"] ["text"] kw1 kw1 (spRunInX (e 1))) : FnOkG P w K mg base CX0 20 f fd ["pot", "run"] (spAreRef PA PB) := by
  refine fun_okT F hns hTab sc_law_are_refused (fun vs H Q E h => ?_) (fun A outer s H vs Q E hr hgu h => ?_)
  · obtain ⟨p, t, xs, ds, k, rfl, _⟩ := h
    rfl
  obtain ⟨p, t, xs, ds, k, rfl, hP, hk, ht, hds, htp, hGS, hl, hT, q⟩ := h
  refine ⟨_, (pss_cons (ps_set (i := 2) sc_law_are_refused.nd rfl (Or.inl rfl) (pe_ifExp (pt_cmpR (op_neE (u64x hr)) (pv 1) (pe_tup pa_nil) (nomark _)) (pe_ix ix_tup (pv 1) pe_int (fun _ _ => rfl)) (pe_tup (pa_cons pe_int (pa_cons pe_str (pa_cons pe_int pa_nil))))))
  (pss_cons (ps_set (i := 3) sc_law_are_refused.nd rfl (Or.inl rfl) (pe_lst (pa_cons pe_non (pa_cons (pe_ifExp (pt_cmpR (op_neE (u64x hr)) (pv 1) (pe_tup pa_nil) (nomark _)) (pe_callTy call_list_of rfl T.list (by decide +kernel) (pa_cons (pv 1) pa_nil)) (pe_lst (pa_cons pe_int pa_nil))) (pa_cons pe_str (pa_cons pe_int (pa_cons (pe_tup (pa_cons pe_non pa_nil)) (pa_cons (pe_tup (pa_cons (pe_callTy call_list_of rfl T.list (by decide +kernel) (pa_cons (pv 2) pa_nil)) pa_nil)) (pa_cons (pe_tup (pa_cons (pe_slice sl_tupA (pv 2) po_none (po_some pe_int)) pa_nil)) (pa_cons (pe_tup (pa_cons (pe_op op_catA (pv 2) (pe_tup (pa_cons pe_int pa_nil))) pa_nil)) (pa_cons (pe_tup (pa_cons (pe_op op_catA (pe_tup (pa_cons pe_bl pa_nil)) (pe_slice sl_tupA (pv 2) (po_some pe_int) po_none)) pa_nil)) pa_nil)))))))))))
  (pss_cons (ps_expr (pe_bm PySem.F.plainAttrs_list PySem.F.slot_list_extend PySem.F.type_list_extend mt_extend (pv 3) (pa_cons (pe_lst (pa_cons (pe_tup (pa_cons (pe_tup (pa_cons pe_int (pa_cons pe_str (pa_cons pe_int pa_nil)))) pa_nil)) (pa_cons (pe_tup (pa_cons (pe_tup (pa_cons pe_int (pa_cons pe_str (pa_cons pe_int pa_nil)))) pa_nil)) (pa_cons (pe_tup (pa_cons (pe_tup (pa_cons pe_int (pa_cons pe_str (pa_cons pe_bl pa_nil)))) pa_nil)) (pa_cons (pe_tup (pa_cons (pe_tup (pa_cons pe_int (pa_cons pe_str (pa_cons pe_int pa_nil)))) pa_nil)) (pa_cons (pe_tup (pa_cons (pe_tup (pa_cons pe_int (pa_cons pe_str (pa_cons pe_int pa_nil)))) pa_nil)) pa_nil)))))) pa_nil)))
  (pss_cons (ps_expr (pe_bm PySem.F.plainAttrs_list PySem.F.slot_list_extend PySem.F.type_list_extend mt_extend (pv 3) (pa_cons (pe_lst (pa_cons (pe_tup (pa_cons (pe_tup (pa_cons pe_int (pa_cons pe_str (pa_cons (pe_tup (pa_cons pe_int (pa_cons pe_int pa_nil))) pa_nil)))) pa_nil)) (pa_cons (pe_tup (pa_cons (pe_tup (pa_cons pe_int (pa_cons pe_str (pa_cons pe_int pa_nil)))) pa_nil)) (pa_cons (pe_tup (pa_cons (pe_tup (pa_cons pe_int (pa_cons pe_str (pa_cons (pe_tup (pa_cons pe_int (pa_cons pe_non pa_nil))) pa_nil)))) pa_nil)) (pa_cons (pe_tup (pa_cons (pe_tup (pa_cons pe_int (pa_cons pe_str (pa_cons pe_str pa_nil)))) pa_nil)) (pa_cons (pe_tup (pa_cons (pe_tup (pa_cons pe_int (pa_cons pe_str (pa_cons (pe_lst (pa_cons pe_int pa_nil)) pa_nil)))) pa_nil)) pa_nil)))))) pa_nil)))
  (pss_cons (ps_expr (pe_bm PySem.F.plainAttrs_list PySem.F.slot_list_extend PySem.F.type_list_extend mt_extend (pv 3) (pa_cons (pe_lst (pa_cons (pe_tup (pa_cons (pe_tup (pa_cons pe_int (pa_cons pe_str (pa_cons (pe_tup (pa_cons pe_int (pa_cons pe_bl pa_nil))) pa_nil)))) pa_nil)) (pa_cons (pe_tup (pa_cons (pe_tup (pa_cons pe_int (pa_cons pe_str (pa_cons (pe_tup (pa_cons pe_int (pa_cons pe_bl pa_nil))) pa_nil)))) pa_nil)) (pa_cons (pe_tup (pa_cons (pe_tup (pa_cons (pe_un un_neg pe_int) (pa_cons pe_str (pa_cons pe_int pa_nil)))) pa_nil)) (pa_cons (pe_tup (pa_cons (pe_tup (pa_cons pe_int (pa_cons pe_str (pa_cons pe_int pa_nil)))) pa_nil)) (pa_cons (pe_tup (pa_cons (pe_tup (pa_cons pe_int (pa_cons pe_non (pa_cons pe_int pa_nil)))) pa_nil)) pa_nil)))))) pa_nil)))
  (pss_cons (ps_for PassesOwn.never rfl (pi_list (pe_fd G_law_some (hr.mono (by first | decide | omega)) rfl (pa_cons (pv 0) (pa_cons (pv 3) (pa_cons pe_int pa_nil))))) (pg_name (i := 4) sc_law_are_refused.nd rfl (Or.inr rfl)) (pss_one (ps_if (pt_not (pt_val (pe_fdC ["value"] (fun y hy => by rcases List.mem_singleton.mp hy with rfl; first | exact Or.inl rfl | exact Or.inr rfl) (noFr_def rfl) G_law_is_refused (hr.mono (by decide)) hgu rfl (pa_cons (pe_lam (T := T12 PA PB) TB rfl (memA12 (by rfl)) (onlyA12 tb (by rfl)) rfl (lamS_by (by first | rfl | kernel_rfl))) (pa_cons pe_str (pa_cons (pv 4) pa_nil)))))) (pss_one (ps_ret pe_bl)) pss_nil)))
  (pss_one (ps_ret (pe_callB (cr_all rfl) rfl T.all (by decide +kernel) (pa_cons (pe_lcX (own := [("value", 4)]) (g := (gName 4)) (tt := tYes) rfl sc_law_are_refused.nd (pi_tup (pe_tup (pa_cons pe_non (pa_cons pe_int (pa_cons (pe_lst (pa_cons pe_str pa_nil)) (pa_cons (pe_tup pa_nil) (pa_cons pe_bl pa_nil))))))) (blkOk_by (own := [("value", 4)]) (N := ["pot", "run", "step", "rows", "value"]) (sc := defScope s_law_are_refused) (by decide +kernel)) (fun _ _ _ _ _ => (pg_name (i := 4) sc_law_are_refused.nd rfl (Or.inr rfl))) (fun _ _ _ _ _ => pts_nil) (peb_all (fun σ0 s0 H0 C0 cl fp B => pe_fdC ["value"] (fun y hy => by rcases List.mem_singleton.mp hy with rfl; first | exact Or.inl rfl | exact Or.inr rfl) (noFr_blk (blkOk_by (own := [("value", 4)]) (N := ["pot", "run", "step", "rows", "value"]) (sc := defScope s_law_are_refused) (by decide +kernel)) (noFr_def rfl) B) G_law_is_refused (hr.mono (by decide)) hgu rfl (pa_cons (pe_lam (T := T12 PA PB) TB rfl (memA12 (by rfl)) (onlyA12 tb (by rfl)) rfl (lamS_by (by first | rfl | kernel_rfl))) (pa_cons pe_str (pa_cons pe_int pa_nil)))))) pa_nil)))))))))), ?_⟩
  refine seq_in ?_
  refine asg_in ?_
  have hN : ∀ y ∈ [p], H y ≠ none := fun y hy => by rw [List.mem_singleton.mp hy]; exact hP.ne0
  have hrun : DN [p] H (.ref t) (.tuple ds) := .tup (out_at (by simpa using htp) ht) hds
  have hsh := run_shaped hGS hl
  have hstep : ∃ sd : PyData, GS sd ∧ (ds = [] → sd = .tuple [.int 0, .str "write", .int 1]) ∧ (ds ≠ [] → ds[0]? = some sd) := by
    cases ds with
    | nil => exact ⟨_, .write 0 (.int 1) (by decide) (by decide +kernel), fun _ => rfl, fun z => absurd rfl z⟩
    | cons d r => exact ⟨d, hGS d List.mem_cons_self, (fun z => by cases z), fun _ => rfl⟩
  obtain ⟨sd, gsd, es1, es2⟩ := hstep
  obtain ⟨h, k0, m, rfl, h6, gm, sm⟩ := gsd.msm
  have hno := rows_no hGS hl h6 gm sm
  refine (bl_ife (N := [p]) (d := .tuple [.int (h : Nat), .str k0, m]) (blt_neE (bl_var rfl hrun) hsh) (fun c => bl_ix (bl_var rfl hrun) 0 (es2 (by simpa using c))) (fun c => ?_)).use fun v H1 g1 dv => ?_
  · rw [es1 (by simpa using c)]
    exact bl_tup hN (bla_cons bl_int (bla_cons bl_str (bla_cons bl_int bla_nil))) (by decide)
  refine g_set ?_
  refine nx_in ?_
  refine seq_in ?_
  refine asg_in ?_
  have hN1 : ∀ y ∈ [p], H1 y ≠ none := fun y hy z => hN y hy (g1.free z)
  have hrun1 := da_same (out_same g1) hrun
  have b1 : Bla [p] [some (.ref p), some (.ref t), some v, none, none] H1 _ (rowA12 ds [.int (h : Nat), .str k0, m]) := bla_cons bl_non (bla_cons (bl_ife (b := !ds.isEmpty) (blt_neE (K := K) (bl_var (j := 1) rfl hrun1) hsh) (fun c => by rw [if_neg (show ds ≠ [] by simpa using c)]; exact bl_list (K := K) hN1 (bl_var (j := 1) rfl hrun1)) (fun c => by rw [if_pos (show ds = [] by simpa using c)]; exact bl_lst hN1 (bla_cons bl_int bla_nil) (by simp)))
    (bla_cons bl_str (bla_cons bl_int (bla_cons (bl_tup hN1 (bla_cons bl_non bla_nil) (by simp))
    (bla_cons (bl_tup hN1 (bla_cons (bl_list (K := K) hN1 (bl_var (j := 2) rfl dv)) bla_nil) (by simp)) (bla_cons (bl_tup hN1 (bla_cons (bl_to (K := K) hN1 (bl_var (j := 2) rfl dv) 2) bla_nil) (by simp))
    (bla_cons (bl_tup hN1 (bla_cons (bl_cat (K := K) hN1 (bl_var (j := 2) rfl dv) (bl_tup hN1 (bla_cons bl_int bla_nil) (by simp)) (by simp)) bla_nil) (by simp))
    (bla_cons (bl_tup hN1 (bla_cons (bl_cat (K := K) hN1 (bl_tup hN1 (bla_cons bl_bl bla_nil) (by simp)) (bl_from (K := K) hN1 (bl_var (j := 2) rfl dv) 1) (by simp)) bla_nil) (by simp)) bla_nil))))))))
  refine b1 H1 _ (Same.refl _) fun vs H2 g2 dvs => ⟨szl (by rw [dvs.len]; show 9 ≤ _; decide), fun a na => ?_⟩
  have np : a ≠ p := fun z => by
    rw [z] at na
    exact hP.ne0 ((g1.trans g2).free na)
  have hP2 := pot_sm (g1.trans g2) hP
  have hT2 := Tabs.same hT (g1.trans g2)
  have g12 := g1.trans g2
  have k3 := same_new na (.lst vs)
  have ha3 : upd H2 a (.lst vs) a = some (.lst vs) := upd_same
  have dv3 : DNs [p, a] (upd H2 a (.lst vs)) vs (rowA12 ds [.int (h : Nat), .str k0, m]) := das_same (out_but (N := [p, a]) ((But.refl _ H2).put (by simp))) (das_same (out_more (fun x hx n => by
    simp only [List.mem_cons, List.not_mem_nil, or_false] at hx n
    rcases hx with rfl | rfl
    · exact absurd rfl n
    · exact na) (fun x hx => by rw [List.mem_singleton.mp hx]; simp)) dvs)
  have S3 : RL12 PA PB p a k H (upd H2 a (.lst vs)) vs (rowA12 ds [.int (h : Nat), .str k0, m]) := ⟨g12.trans k3, pot_sm k3 hP2, Tabs.same hT2 k3, ha3, np, g12.free na, dv3⟩
  generalize upd H2 a (.lst vs) = H3 at S3
  clear k3 ha3 dv3 hP2 hT2 g12 g2 dvs b1 hrun1 hN1 dv g1 na
  refine g_set ?_
  refine nx_in ?_
  refine seq_in ?_
  refine ⟨_, rfl, .inl ⟨rfl, _, .of S3.at_⟩, ?_⟩
  refine S3.ext (es := rowB12) (bla_cons (bl_tup S3.nn (bla_cons (bl_tup S3.nn (bla_cons bl_int (bla_cons bl_str (bla_cons bl_int bla_nil))) (by decide)) bla_nil) (by decide))
    (bla_cons (bl_tup S3.nn (bla_cons (bl_tup S3.nn (bla_cons bl_int (bla_cons bl_str (bla_cons bl_int bla_nil))) (by decide)) bla_nil) (by decide))
    (bla_cons (bl_tup S3.nn (bla_cons (bl_tup S3.nn (bla_cons bl_int (bla_cons bl_str (bla_cons bl_bl bla_nil))) (by decide)) bla_nil) (by decide))
    (bla_cons (bl_tup S3.nn (bla_cons (bl_tup S3.nn (bla_cons bl_int (bla_cons bl_str (bla_cons bl_int bla_nil))) (by decide)) bla_nil) (by decide))
    (bla_cons (bl_tup S3.nn (bla_cons (bl_tup S3.nn (bla_cons bl_int (bla_cons bl_str (bla_cons bl_int bla_nil))) (by decide)) bla_nil) (by decide)) bla_nil))))) (by show 9 + 5 ≤ _; decide) fun H4 vs4 S4 => ?_
  refine nx_in ?_
  refine seq_in ?_
  refine ⟨_, rfl, .inl ⟨rfl, _, .of S4.at_⟩, ?_⟩
  refine S4.ext (es := rowC12) (bla_cons (bl_tup S4.nn (bla_cons (bl_tup S4.nn (bla_cons bl_int (bla_cons bl_str (bla_cons (bl_tup S4.nn (bla_cons bl_int (bla_cons bl_int bla_nil)) (by decide)) bla_nil))) (by decide)) bla_nil) (by decide)) (bla_cons (bl_tup S4.nn (bla_cons (bl_tup S4.nn (bla_cons bl_int (bla_cons bl_str (bla_cons bl_int bla_nil))) (by decide)) bla_nil) (by decide)) (bla_cons (bl_tup S4.nn (bla_cons (bl_tup S4.nn (bla_cons bl_int (bla_cons bl_str (bla_cons (bl_tup S4.nn (bla_cons bl_int (bla_cons bl_non bla_nil)) (by decide)) bla_nil))) (by decide)) bla_nil) (by decide)) (bla_cons (bl_tup S4.nn (bla_cons (bl_tup S4.nn (bla_cons bl_int (bla_cons bl_str (bla_cons bl_str bla_nil))) (by decide)) bla_nil) (by decide)) (bla_cons (bl_tup S4.nn (bla_cons (bl_tup S4.nn (bla_cons bl_int (bla_cons bl_str (bla_cons (bl_lst S4.nn (bla_cons bl_int bla_nil) (by decide)) bla_nil))) (by decide)) bla_nil) (by decide)) bla_nil))))) (by show 14 + 5 ≤ _; decide) fun H5 vs5 S5 => ?_
  refine nx_in ?_
  refine seq_in ?_
  refine ⟨_, rfl, .inl ⟨rfl, _, .of S5.at_⟩, ?_⟩
  refine S5.ext (es := rowD12) (bla_cons (bl_tup S5.nn (bla_cons (bl_tup S5.nn (bla_cons bl_int (bla_cons bl_str (bla_cons (bl_tup S5.nn (bla_cons bl_int (bla_cons bl_bl bla_nil)) (by decide)) bla_nil))) (by decide)) bla_nil) (by decide)) (bla_cons (bl_tup S5.nn (bla_cons (bl_tup S5.nn (bla_cons bl_int (bla_cons bl_str (bla_cons (bl_tup S5.nn (bla_cons bl_int (bla_cons bl_bl bla_nil)) (by decide)) bla_nil))) (by decide)) bla_nil) (by decide)) (bla_cons (bl_tup S5.nn (bla_cons (bl_tup S5.nn (bla_cons bl_neg (bla_cons bl_str (bla_cons bl_int bla_nil))) (by decide)) bla_nil) (by decide)) (bla_cons (bl_tup S5.nn (bla_cons (bl_tup S5.nn (bla_cons bl_int (bla_cons bl_str (bla_cons bl_int bla_nil))) (by decide)) bla_nil) (by decide)) (bla_cons (bl_tup S5.nn (bla_cons (bl_tup S5.nn (bla_cons bl_int (bla_cons bl_non (bla_cons bl_int bla_nil))) (by decide)) bla_nil) (by decide)) bla_nil))))) (by show 19 + 5 ≤ _; decide) fun H6 vs6 S6 => ?_
  have hlen6 : vs6.length = 24 := S6.da.len
  refine nx_in ?_
  refine seq_in ?_
  refine ⟨_, rfl, _, rfl, p, a, vs6, 6, k, rfl, .inl (.of S6.at_), by omega, by omega, by omega, S6.pot, fun l ys zs H7 hly perm nl hl7 g7 hP7 => ?_⟩
  have T7 : Tabs (T12 PA PB) H7 := Tabs.but S6.tab g7 (potKx S6.pot)
  have vals : ∀ y ∈ ys, ∃ d, DA H7 y d ∧ NoRun d := fun y hy => by
    have hm : y ∈ vs6 := perm.subset (List.mem_append_left _ hy)
    obtain ⟨j, hj, ej⟩ := List.getElem_of_mem hm
    obtain ⟨d, hd, hda⟩ := S6.da.at_ (List.getElem?_eq_some_iff.mpr ⟨hj, ej⟩)
    exact ⟨d, (hda.but (g7.wide fun x hx => by rw [List.mem_singleton.mp hx]; simp)).here, hno d (List.mem_of_getElem? hd)⟩
  have x7 : ButN [p] H H7 := (ButN.of (.of S6.same)).trans (.of g7)
  clear S6 g7 perm
  refine ⟨l, rfl, ⟨_, .of hl7⟩, ?_⟩
  refine for_list (K := K) (a := l) (xs := ys) (fun i σ H' => ∃ u4, σ = [some (.ref p), some (.ref t), some v, some (.ref a), u4] ∧ ExtN H7 H' ∧ Tabs (T12 PA PB) H') ⟨none, rfl, .refl _, T7⟩ ?_ ?_ ?_
  · rintro i σ H' _ ⟨u4, rfl, g, _⟩
    exact .of (g _ _ hl7 (fun _ z => (by cases z)))
  · rintro i x σ H' hx ⟨u4, rfl, g, hT'⟩
    obtain ⟨d, hd, nr⟩ := vals x (List.mem_of_getElem? hx)
    have hd := hd.ext g
    refine g_set ?_
    refine if_not ?_
    refine refN_lam (d := d) (i := 0) (t := fun E => tCall (spRunTxtX (e 0)) [] E (tCons (tVar 4) tNil)) ?L lamB0 ?hb ?hy (by decide) hd nr.sh hT' (fun H1 Q1 g1 q => ⟨_, rfl, q⟩) (fun G Q' E' gk hE => ⟨_, rfl, x, d, rfl, hd.kp gk, nr.kd, nr.sz, nr.bad, fun H' e g he => hE e _ (g.trans (same_new he _)) upd_same⟩) fun H3 g3 hT3 => ?_
    case L => exact lamS_by (by first | rfl | kernel_rfl)
    case hb => exact fun A outer s H E f c' hr => pe_fdE (takes_of rfl rfl rfl rfl) X_run_text (hr.mono (by decide)) rfl (pa_cons (pv 4) pa_nil)
    case hy => decide
    exact ⟨true, rfl, ite_no rfl ⟨_, rfl, g.trans g3, hT3⟩⟩
  rintro σ H8 ⟨u4, rfl, g8, T8⟩
  refine nx_in ?_
  refine ret_in ?_
  refine ⟨szl (by show 1 ≤ _; decide), fun l1 n1 => ⟨szl (by show 0 ≤ _; decide), fun l2 n2 => ⟨szl (by show 5 ≤ _; decide), fun t9 n9 => ?_⟩⟩⟩
  have z1 := same_new n1 (.lst [.str "0 write 1"])
  have z2 := same_new n2 (.tup [])
  have z3 := same_new n9 (.tup [.non, .int 7, .ref l1, .ref l2, .bl true])
  have g9 := (z1.trans z2).trans z3
  have T9 := Tabs.same T8 g9
  have ht9 : upd (upd (upd H8 l1 (.lst [.str "0 write 1"])) l2 (.tup [])) t9 (.tup [.non, .int 7, .ref l1, .ref l2, .bl true]) t9 = some (.tup [.non, .int 7, .ref l1, .ref l2, .bl true]) := upd_same
  have hd9 : DAs (upd (upd (upd H8 l1 (.lst [.str "0 write 1"])) l2 (.tup [])) t9 (.tup [.non, .int 7, .ref l1, .ref l2, .bl true])) [.non, .int 7, .ref l1, .ref l2, .bl true] notext := .cons .non (.cons (.int 7) (.cons (.lst (z3 _ _ (z2 _ _ upd_same)) (.cons (.str _) .nil)) (.cons (.tup (z3 _ _ upd_same) .nil) (.cons (.bl true) .nil))))
  generalize upd (upd (upd H8 l1 (.lst [.str "0 write 1"])) l2 (.tup [])) t9 (.tup [.non, .int 7, .ref l1, .ref l2, .bl true]) = H9 at g9 T9 ht9 hd9 ⊢
  clear z1 z2 z3 n1 n2 n9
  have hl9 : ([.non, .int 7, .ref l1, .ref l2, .bl true] : List V).length = 5 := rfl
  refine ⟨t9, rfl, ⟨_, .of ht9⟩, fun D hD => ?_⟩
  have gD := same_new hD (.lst [])
  refine lc_it (walk_tup (xs := [.non, .int 7, .ref l1, .ref l2, .bl true])) (fun i H' => ExtN H9 H' ∧ Tabs (T12 PA PB) H' ∧ H' D = some (.lst ((List.replicate i true).map V.bl))) ⟨extN_same gD, Tabs.same T9 gD, upd_same⟩ (fun i H' _ z => .of (z.1 _ _ ht9 (fun _ z => (by cases z)))) ?_ ?_
  · rintro i x H1' H2' hi ⟨g, T', hD'⟩ ⟨rfl, hx⟩
    refine ⟨rfl, yes_in (all_in fun s0 H0 C0 cl fp => ?_)⟩
    obtain ⟨d, hdd, hda⟩ := hd9.at_ hx
    have hda := hda.ext g
    have hs : isStr d = false := by
      have hm : d ∈ notext := List.mem_of_getElem? hdd
      unfold notext at hm
      simp only [List.mem_cons, List.not_mem_nil, or_false] at hm
      rcases hm with rfl | rfl | rfl | rfl | rfl <;> rfl
    refine refN_lam (d := .int 0) (i := 1) (t := fun E => tCallKWE ([("text" : Str)]).length (spRunInX (e 1)) kw1 E (tCons (tVar 4) tNil)) ?L lamB0 ?hb ?hy (by decide) (.int 0) (sok (Sm.int (by decide) (by decide))) T' (fun H1 Q1 g1 q => q) (fun G Q' E' gk hE => ⟨_, rfl, rfl, x, 0, rfl, .inl ⟨rfl, d, hda.kp gk, hs⟩, fun H' e g he => hE e _ (g.trans (same_new he _)) upd_same⟩) fun H3 g3 hT3 => ?_
    case L => exact lamS_by (by first | rfl | kernel_rfl)
    case hb => exact fun A outer s H E f c' hr => pe_fdKwE (takes_of rfl rfl rfl rfl) K_run_in (hr.mono (by decide)) rfl (pk_cons (pv 4) pk_nil)
    case hy => decide
    exact das_bools hD (g.trans g3) hT3 (g3 _ _ hD' (fun _ z => (by cases z))) (by omega)
  · rintro H10 ⟨g10, T10, hD10⟩
    refine ⟨D, List.replicate 5 true, rfl, .of hD10, ?_⟩
    rw [show (List.replicate 5 true).all id = true by simp]
    refine q _ ?_ T10
    exact ((x7.trans (.ext g8)).trans (.of (.of g9))).trans (.ext (fun b o q n => g10 b o q n))
end
end Fp
namespace Fp
open PySem PySem.Spec PyProof.Rows L2 LamX
/-- repr of a text -/
def rReprT : List V → Hp → VK → Prop := fun xs H Q => ∃ z : Str, xs = [.str z] ∧ (reprText z).length ≤ sizeLine ∧ Q (.str (reprText z)) H
theorem call_reprT {X : Cx} : CallR X (.builtin "repr") rReprT := by
  intro pins s σ H xs us Q I r h
  obtain ⟨z, rfl, hz, q⟩ := h
  obtain ⟨u, rfl, rx⟩ := vals1 r
  obtain ⟨t, rfl⟩ := rx
  exact PySem.P.repr_of_str ⟨.str (reprText z), H, I.tok _, ⟨_, rfl⟩, q⟩ hz
theorem dn_of {N : List Addr} {H : Hp} {v : V} {d : PyData} (h : DA H v d) (pl : plB d = true) (n : ∀ x ∈ N, ∀ xs, H x ≠ some (.tup xs)) : DN N H v d := h.keepP (fun {a xs} e => out_at (fun m => n a m xs e) e) pl
theorem out_less {N M : List Addr} {H : Hp} (s : ∀ x ∈ M, x ∈ N) : Same (out N H) (out M H) := fun b o e => by
  obtain ⟨n, e⟩ := out_some e
  exact out_at (fun m => n (s b m)) e
theorem st_DN : StN DN := ⟨fun g h => h.but g, fun s h => da_same (out_less s) h, fun hx h => da_same (out_more (fun y hy n => by
  rcases List.mem_cons.mp hy with rfl | hy
  · exact hx
  · exact absurd hy n) fun y hy => List.mem_cons_of_mem _ hy) h⟩
theorem dns_of {N : List Addr} {H : Hp} : ∀ {vs : List V} {ds : List PyData}, Paired (DN N H) vs ds → DNs N H vs ds
  | _, _, .nil => .nil
  | _, _, .cons h t => .cons h (dns_of t)
/-- texts of drawn runs -/
theorem run_len {ds : List PyData} (h : ∀ d ∈ ds, GS d) (hl : ds.length ≤ 11) : ((ds.map stepT).map (·.length)).sum ≤ 33000 := by
  have : ((ds.map stepT).map (·.length)).sum ≤ 3000 * (ds.map stepT).length := sum_len fun y hy => by
    obtain ⟨d, hd, rfl⟩ := List.mem_map.mp hy
    exact (h d hd).len
  rw [List.length_map] at this
  omega
theorem join_tlen {ls : List Str} : (Txt.join "\n" ls).length ≤ (ls.map (·.length)).sum + ls.length := by
  have hj := StrLaws.join_length_le ("\n" : Str) ls
  have e1 : ("\n" : Str).length = 1 := by decide +kernel
  rw [e1] at hj
  rw [TL.join_eq]
  omega
theorem runT_len {ds : List PyData} (h : ∀ d ∈ ds, GS d) (hl : ds.length ≤ 11) : (runT ds).length ≤ 34000 := by
  have h1 := run_len h hl
  have h2 := join_tlen (ls := ds.map stepT)
  rw [List.length_map] at h2
  unfold runT
  omega
theorem runT_repr {ds : List PyData} (h : ∀ d ∈ ds, GS d) (hl : ds.length ≤ 11) : (reprText (runT ds)).length ≤ sizeLine := by
  have h1 := StrLaws.reprText_len (runT ds) fun c hc => by
    have : c < 1000 := join_signs (y := ("\n" : Str)) (S := [10]) (by decide +kernel) (f := fun c => c < 1000) (fun c hc => by rw [List.mem_singleton.mp hc]; decide) (parts := ds.map stepT) (fun p hp c hc => by
      obtain ⟨d, hd, rfl⟩ := List.mem_map.mp hp
      exact (h d hd).lt c hc) c hc
    have e : (16 : Nat) ^ 8 = 4294967296 := by decide
    omega
  have h2 := runT_len h hl
  exact szl (by omega)
theorem split_lines {ls : List Str} (hne : ls ≠ []) (h : ∀ l ∈ ls, 10 ∉ sg l) : Txt.split (Txt.join "\n" ls) "\n" = ls :=
  TL.split_join (s := 10) (S := []) (by decide +kernel) (by decide +kernel) hne h
theorem stepT_ne {d : PyData} (g : GS d) : stepT d ≠ "" := fun z => by
  have h := g.split
  obtain ⟨_, h2, _⟩ := g.toks
  rw [z] at h
  have e : Txt.split ("" : Str) " " = [("" : Str)] := by decide +kernel
  rw [e] at h
  rw [← h] at h2
  simp at h2
theorem runT_ne {ds : List PyData} (h : ∀ d ∈ ds, GS d) (hne : ds ≠ []) : runT ds ≠ "" := fun z => by
  have e : Txt.split (runT ds) "\n" = ds.map stepT := split_lines (by simpa using hne) fun l hl => by
    obtain ⟨d, hd, rfl⟩ := List.mem_map.mp hl
    exact (h d hd).noN
  rw [z] at e
  have e0 : Txt.split ("" : Str) "\n" = [("" : Str)] := by decide +kernel
  rw [e0] at e
  obtain ⟨d, r, rfl⟩ := List.exists_cons_of_ne_nil hne
  rw [List.map_cons] at e
  injection e with e _
  exact stepT_ne (h d List.mem_cons_self) e.symm
theorem run_ok {ds : List PyData} (h : ∀ d ∈ ds, GS d) (hl : ds.length ≤ 11) : (runT ds = "" ∧ ds = []) ∨ (runT ds ≠ "" ∧ (runT ds).length ≤ 5000000 ∧ (Txt.split (runT ds) "\n").length ≤ 1000 ∧ (∀ l ∈ Txt.split (runT ds) "\n", LnW l) ∧ (Txt.split (runT ds) "\n").map stepIn = ds.map some) := by
  by_cases c : ds = []
  · subst c
    exact .inl ⟨by decide +kernel, rfl⟩
  · have e : Txt.split (runT ds) "\n" = ds.map stepT := split_lines (by simpa using c) fun l hl => by
      obtain ⟨d, hd, rfl⟩ := List.mem_map.mp hl
      exact (h d hd).noN
    have hz := runT_len h hl
    rw [e]
    refine .inr ⟨runT_ne h c, by omega, by rw [List.length_map]; omega, fun l hl => ?_, ?_⟩
    · obtain ⟨d, hd, rfl⟩ := List.mem_map.mp hl
      exact (h d hd).lnw
    · rw [List.map_map]
      exact List.map_congr_left fun d hd => (h d hd).back
def bentL (ds : List PyData) (z : Str) (a j : Nat) : List Str := ((ds.map stepT).take a ++ [z]) ++ (ds.map stepT).drop (a + j)
def bentT (ds : List PyData) (z : Str) (a j : Nat) : Str := Txt.join "\n" (bentL ds z a j)
theorem bent_len {ds : List PyData} {z : Str} {a j : Nat} (hl : ds.length ≤ 11) : (bentL ds z a j).length ≤ 23 := by
  unfold bentL
  simp only [List.length_append, List.length_take, List.length_drop, List.length_map, List.length_cons, List.length_nil]
  omega
theorem bent_mem {ds : List PyData} (h : ∀ d ∈ ds, GS d) {z l : Str} {a j : Nat} (hz : z ∈ wrongL) (m : l ∈ bentL ds z a j) : LnW l ∧ 10 ∉ sg l ∧ l.length ≤ 3000 := by
  unfold bentL at m
  have old : l ∈ ds.map stepT → LnW l ∧ 10 ∉ sg l ∧ l.length ≤ 3000 := fun m => by
    obtain ⟨d, hd, rfl⟩ := List.mem_map.mp m
    exact ⟨(h d hd).lnw, (h d hd).noN, (h d hd).len⟩
  rcases List.mem_append.mp m with m | m
  · rcases List.mem_append.mp m with m | m
    · exact old (List.mem_of_mem_take m)
    · rw [List.mem_singleton.mp m]
      have w := wrong_of hz
      exact ⟨w.lnw, w.noN, by have := w.len; omega⟩
  · exact old (List.mem_of_mem_drop m)
theorem bent_sum {ds : List PyData} (h : ∀ d ∈ ds, GS d) {z : Str} {a j : Nat} (hz : z ∈ wrongL) (hl : ds.length ≤ 11) : ((bentL ds z a j).map (·.length)).sum ≤ 69000 := by
  have h1 : ((bentL ds z a j).map (·.length)).sum ≤ 3000 * (bentL ds z a j).length := sum_len fun y hy => (bent_mem h hz hy).2.2
  have := bent_len (z := z) (a := a) (j := j) hl
  omega
theorem bad_at {ds : List PyData} (h : ∀ d ∈ ds, GS d) (hl : ds.length ≤ 11) {z : Str} (hz : z ∈ wrongL) {a j : Nat} (ha : a ≤ ds.length) : (bentT ds z a j).length ≤ 5000000 ∧ (Txt.split (bentT ds z a j) "\n").length ≤ 1000 ∧ (∀ l ∈ (Txt.split (bentT ds z a j) "\n").take (a + 1), LnW l) ∧
    (∀ l ∈ (Txt.split (bentT ds z a j) "\n").take a, stepIn l ≠ none) ∧ (Txt.split (bentT ds z a j) "\n")[a]? = some z ∧ stepIn z = none := by
  have e : Txt.split (bentT ds z a j) "\n" = bentL ds z a j := split_lines (by unfold bentL; simp) fun l m => (bent_mem h hz m).2.1
  have h1 := bent_sum (a := a) (j := j) h hz hl
  have h2 := bent_len (z := z) (a := a) (j := j) hl
  have h3 := join_tlen (ls := bentL ds z a j)
  have ht : ((ds.map stepT).take a).length = a := by rw [List.length_take, List.length_map]; omega
  rw [e]
  refine ⟨by unfold bentT; omega, by omega, fun l m => (bent_mem h hz (List.mem_of_mem_take m)).1, fun l m => ?_, ?_, (wrong_of hz).bad⟩
  · unfold bentL at m
    rw [List.append_assoc, List.take_append_of_le_length (by omega), List.take_of_length_le (by omega)] at m
    obtain ⟨d, hd, rfl⟩ := List.mem_map.mp (List.mem_of_mem_take m)
    rw [(h d hd).back]
    simp
  · unfold bentL
    rw [List.append_assoc, List.getElem?_append_right (by omega), ht]
    simp
/-- what stands in _law_right -/
structure R12 (PA PB p t : Addr) (xs : List V) (ds : List PyData) (H0 H : Hp) (k : Nat) : Prop where
  old : ButN [p] H0 H
  pot : PotAt H p k
  tab : Tabs (T12 PA PB) H
  ne : t ≠ p
  at_ : H t = some (.tup xs)
  da : DNs [p] H xs ds
section
variable {PA PB p t : Addr} {xs : List V} {ds : List PyData} {H0 H H' : Hp} {k k' : Nat}
theorem R12.same (S : R12 PA PB p t xs ds H0 H k) (g : Same H H') : R12 PA PB p t xs ds H0 H' k := ⟨S.old.trans (.of (.of g)), pot_sm g S.pot, Tabs.same S.tab g, S.ne, g _ _ S.at_, das_same (out_same g) S.da⟩
theorem R12.take (S : R12 PA PB p t xs ds H0 H k) (g : But [p] H H') (hP : PotAt H' p k') : R12 PA PB p t xs ds H0 H' k' := ⟨S.old.trans (.of g), hP, Tabs.but S.tab g (potKx S.pot), S.ne, g _ _ (by simpa using S.ne) S.at_, S.da.but g⟩
theorem R12.ext (S : R12 PA PB p t xs ds H0 H k) (g : ExtN H H') (T' : Tabs (T12 PA PB) H') : R12 PA PB p t xs ds H0 H' k := by
  refine ⟨S.old.trans (.ext g), ?_, T', S.ne, g _ _ S.at_ (fun _ z => by cases z), S.da.ext fun b o e n => ?_⟩
  · obtain ⟨a, b, c, e, r⟩ := S.pot
    exact ⟨a, b, c, g _ _ e (fun _ z => by cases z), r⟩
  · obtain ⟨m, e⟩ := out_some e
    exact out_at m (g b o e n)
end
def spRight12 (PA PB : Addr) : Sp := fun vs H Q _ => ∃ p, vs = [.ref p] ∧ PotAt H p 0 ∧ Tabs (T12 PA PB) H ∧ ∀ H', ButN [p] H H' → Tabs (T12 PA PB) H' → Q (.bl true) H'
section
variable {P : Program} {w : World} {K : PySem.W.Frag} {mg : Str → Option Value} {base : Heap} {f : Addr} {fd : FuncData} {C CH PA PB c1 : Addr} {e : Nat → Addr}
abbrev s_law_right : Stmt := top 42
theorem sc_law_right : FnScope ["pot", "lap", "run", "lines", "text", "at", "wrong", "later", "step"] ["pot"] (defScope s_law_right) := ⟨rfl, rfl, rfl, by decide +kernel, rfl, by decide +kernel, by decide +kernel⟩
theorem ok_law_right (F : Fun K "_law_right" "_law_right" s_law_right f fd) (hns : PySem.W.nsIn K mainGlobals "_law_right" = some (some (.ref f))) (hTab : PySem.W.tabIn K "_law_right" = some (c1, PB)) (TB : TabB base mg c1 PB) (tb : PA ≠ PB) (T : LTx mg) (G_law_take : Fd P w K mg base CX0 "_law_take" 1 ["pot", "upto"] spTake)
    (G_law_drawn_step : Fd P w K mg base CX0 "_law_drawn_step" 8 ["pot"] spDStep) (G_law_line : Fd P w K mg base CX0 "_law_line" 6 ["step"] spLine) (G_law_wrong_line : Fd P w K mg base CX0 "_law_wrong_line" 3 ["pot"] spWrong) (G_run_text : Fd P w K mg base CX0 "run_text" 7 ["run"] spRunTxt) (G_run_in : Fd P w K mg base CX0 "run_in" 7 ["text"] spRunIn)
    (G_law_is_refused : FdG P w K mg base CX0 "_law_is_refused" 19 ["call", "word", "value"] (spRefN 2 wo12 P w K mg base e)) (X_run_in : Fd P w K mg base (L2.CX P w) "run_in" 7 ["text"] (spRunInX (e 1))) (G_law_are_refused : FdG P w K mg base CX0 "_law_are_refused" 20 ["pot", "run"] (spAreRef PA PB)) : FnOkG P w K mg base CX0 21 f fd ["pot"] (spRight12 PA PB) := by
  refine fun_okT F hns hTab sc_law_right (fun vs H Q E h => ?_) (fun A outer s H vs Q E hr hgu h => ?_)
  · obtain ⟨p, rfl, _⟩ := h
    rfl
  obtain ⟨p, rfl, hP, hT, q⟩ := h
  refine ⟨_, (pss_cons (ps_set (i := 2) sc_law_right.nd rfl (Or.inl rfl) (pe_callTy call_tuple_of rfl T.tuple (by decide +kernel) (pa_cons (pe_lc (own := [("lap", 1)]) (g := (gName 1)) (tt := tYes) rfl sc_law_right.nd (pi_range1 rfl T.range (pa_cons (pe_fd G_law_take (hr.mono (by first | decide | omega)) rfl (pa_cons (pv 0) (pa_cons pe_int pa_nil))) pa_nil)) (blkOk_by (own := [("lap", 1)]) (N := ["pot", "lap", "run", "lines", "text", "at", "wrong", "later", "step"]) (sc := defScope s_law_right) (by decide +kernel)) (fun _ _ _ _ _ => (pg_name (i := 1) sc_law_right.nd rfl (Or.inl rfl))) (fun _ _ _ _ _ => pts_nil) (fun _ _ _ _ _ => (pe_fd G_law_drawn_step (hr.mono (by first | decide | omega)) rfl (pa_cons (pv 0) pa_nil)))) pa_nil)))
  (pss_cons (ps_setLc (i := 3) (own := [("step", 8)]) (g := (gName 8)) (tt := tYes) rfl sc_law_right.nd rfl rfl (sw_true rfl rfl rfl (by decide +kernel)) (pi_tup (pv 2)) (blkOk_by (own := [("step", 8)]) (N := ["pot", "lap", "run", "lines", "text", "at", "wrong", "later", "step"]) (sc := defScope s_law_right) (by decide +kernel)) (fun _ _ _ _ _ => (pg_name (i := 8) sc_law_right.nd rfl (Or.inl rfl))) (fun _ _ _ _ _ => pts_nil) (fun _ _ _ _ _ => (pe_fd G_law_line (hr.mono (by first | decide | omega)) rfl (pa_cons (pv 8) pa_nil))))
  (pss_cons (ps_set (i := 4) sc_law_right.nd rfl (Or.inl rfl) (pe_join pe_str (pv 3)))
  (pss_cons (ps_if (PW.pt (pw_or (pt_cmpR op_ne (pe_callB call_reprT rfl T.repr (by decide +kernel) (pa_cons (pe_fd G_run_text (hr.mono (by first | decide | omega)) rfl (pa_cons (pv 2) pa_nil)) pa_nil)) (pe_callB call_reprT rfl T.repr (by decide +kernel) (pa_cons (pv 4) pa_nil)) (nomark _)) (pw_or1 (pt_cmpR op_ne (pe_callB (call_reprX hgu (u66 hr)) rfl T.repr (by decide +kernel) (pa_cons (pe_fd G_run_in (hr.mono (by first | decide | omega)) rfl (pa_cons (pv 4) pa_nil)) pa_nil)) (pe_callB (call_reprX hgu (u66 hr)) rfl T.repr (by decide +kernel) (pa_cons (pv 2) pa_nil)) (nomark _))))) (pss_one (ps_ret pe_bl)) pss_nil)
  (pss_cons (ps_for PassesOwn.never rfl (pi_range1 rfl T.range (pa_cons pe_int pa_nil)) (pg_name (i := 1) sc_law_right.nd rfl (Or.inl rfl)) (pss_cons (ps_set (i := 5) sc_law_right.nd rfl (Or.inl rfl) (pe_fd G_law_take (hr.mono (by first | decide | omega)) rfl (pa_cons (pv 0) (pa_cons (pe_op op_add (pe_callB call_len rfl T.len (by decide +kernel) (pa_cons (pv 2) pa_nil)) pe_int) pa_nil))))
  (pss_cons (ps_set (i := 6) sc_law_right.nd rfl (Or.inl rfl) (pe_op op_cat (pe_op op_cat (pe_slice sl_list (pv 3) po_none (po_some (pv 5))) (pe_lst (pa_cons (pe_fd G_law_wrong_line (hr.mono (by first | decide | omega)) rfl (pa_cons (pv 0) pa_nil)) pa_nil))) (pe_slice sl_list (pv 3) (po_some (pe_op op_add (pv 5) (pe_fd G_law_take (hr.mono (by first | decide | omega)) rfl (pa_cons (pv 0) (pa_cons pe_int pa_nil))))) po_none)))
  (pss_cons (ps_set (i := 7) sc_law_right.nd rfl (Or.inr rfl) (pe_join pe_str (pv 6)))
  (pss_one (ps_if (PW.pt (pw_and (pt_cmpR op_ne (pv 7) pe_str (nomark _)) (pw_and1 (pt_not (pt_val (pe_fdC ["later"] (fun y hy => by rcases List.mem_singleton.mp hy with rfl; first | exact Or.inl rfl | exact Or.inr rfl) (noFr_def rfl) G_law_is_refused (hr.mono (by decide)) hgu rfl (pa_cons (pe_lam (T := T12 PA PB) TB rfl (memB12 (by rfl)) (onlyB12 tb (by rfl)) rfl (lamS_by (by first | rfl | kernel_rfl))) (pa_cons pe_str (pa_cons (pe_op op_add (pv 5) pe_int) pa_nil))))))))) (pss_one (ps_ret pe_bl)) pss_nil))))))
  (pss_one (ps_ret (pe_fdG G_law_are_refused hr hgu rfl (pa_cons (pv 0) (pa_cons (pv 2) pa_nil)))))))))), ?_⟩
  refine seq_in ?_
  refine asg_in ?_
  refine ⟨_, rfl, p, 12, 0, rfl, by decide, by decide, by omega, hP, fun n H1 hn g1 hP1 => ⟨_, rfl, by omega, by omega, fun D nD => ?_⟩⟩
  obtain ⟨nDH, Dp⟩ := but_none g1 hP1 nD
  rw [Int.toNat_natCast]
  refine lc_draw (R := DN) (walk_range (lo := 0) (n := n)) st_DN [p] (fun i H => PotAt H p (1 + 120 * i)) (fun i l => l.length = i ∧ i ≤ 11 ∧ ∀ d ∈ l, GS d) (fun _ _ _ _ _ h => pot_upd h Dp) (fun i l h => by have := h.1; have := h.2.1; omega) nD (by simpa using Dp) (fun _ _ => True.intro) ⟨rfl, Nat.zero_le _, fun _ z => by cases z⟩ (pot_upd (by simpa using hP1) Dp) ?_ ?_
  · rintro i x H2 H3 l hi g2 ⟨us, hus⟩ ⟨hl, hl3, hall⟩ hP2 ⟨rfl, rfl⟩ Q4 N k4 _
    refine ⟨rfl, yes_in ?_⟩
    refine ⟨_, rfl, p, 1 + 120 * i, rfl, hP2, by omega, fun v d H4 g4 hP4 gs hd => ?_⟩
    refine k4 d v H4 ⟨by rw [List.length_append, hl]; rfl, by omega, fun x hx => by
      rcases List.mem_append.mp hx with hx | hx
      · exact hall x hx
      · rw [List.mem_singleton.mp hx]; exact gs⟩ g4 (hP4.mono (by omega)) (dn_of hd (step_pl gs.ok.st) fun y hy => ?_)
    simp only [List.mem_cons, List.not_mem_nil, or_false] at hy
    rcases hy with rfl | rfl
    · exact lst_not (g4 _ _ (by simpa using Dp) hus)
    · obtain ⟨ys, e⟩ := hP4.there
      exact lst_not e
  rintro H2 xs ds g2 hP2 ⟨hl, hl3, hGS⟩ hxs hp
  refine ⟨D, xs, rfl, .inl ⟨.of hxs, fun t nt => ?_⟩⟩
  have k5 := same_new nt (.tup xs)
  have np : t ≠ p := fun z => by
    rw [z] at nt
    exact hP2.ne0 nt
  have hT2 : Tabs (T12 PA PB) H2 := Tabs.but (Tabs.but hT g1 (potKx hP)) g2 (potKx hP1)
  have b3 : But [p] H (upd H2 t (.tup xs)) := (g1.trans g2).trans (.of k5)
  have S3 : R12 PA PB p t xs ds H (upd H2 t (.tup xs)) (1 + 120 * n) := ⟨.of b3, pot_sm k5 hP2, Tabs.same hT2 k5, np, upd_same, das_same (out_same k5) (das_same (out_less (fun x hx => List.mem_cons_of_mem _ hx)) (dns_of hp))⟩
  have hdl : ds.length ≤ 11 := by omega
  generalize upd H2 t (.tup xs) = H3 at S3 ⊢
  clear k5 b3 hT2 nt hp hxs hP2 g2 nDH nD
  refine g_set ?_
  refine nx_in ?_
  refine seq_in ?_
  refine asg_in ?_
  refine ⟨_, rfl, t, rfl, ⟨_, .of S3.at_⟩, fun D4 hD4 => ?_⟩
  have hxl := S3.da.len
  refine lc_coll (R := RS) (walk_tup (xs := xs)) (fun i => [stepT (ds.getD i .none)]) hD4 (fun H' g => .of (g _ _ S3.at_)) ?_ ?_
  · rintro j x H4 H5 hj cc ⟨rfl, hx⟩ M hM
    obtain ⟨dx, hdx, vx⟩ := S3.da.at_ hx
    have hmx : dx ∈ ds := List.mem_of_getElem? hdx
    refine ⟨rfl, yes_in ?_⟩
    refine ⟨_, rfl, x, dx, rfl, (vx.here).same cc.1, hGS dx hmx, fun H6 g6 => ?_⟩
    refine coll_app stab_str hD4 cc g6 (a := stepT dx) rfl ?_ ?_
    · rw [fm_one, List.length_map, List.length_range]; omega
    · intro H7 c7
      refine hM H7 ?_
      rw [show ds.getD j .none = dx by rw [List.getD_eq_getElem?_getD, hdx] <;> rfl]
      exact c7
  intro H4 cc
  obtain ⟨g4, hlines⟩ := coll_strs cc
  rw [hxl, fm_getD (fun d => [stepT d]) .none, fm_one] at hlines
  have S4 := S3.same g4
  have hDp : D4 ≠ p := fun z => by rw [z] at hD4; exact S3.pot.ne0 hD4
  refine g_set ?_
  refine nx_in ?_
  refine seq_in ?_
  refine asg_in ?_
  have e1 : ("\n" : Str).length = 1 := by decide +kernel
  have hrl := run_len hGS hdl
  refine ⟨⟨_, rfl⟩, _, rfl, "\n", D4, ds.map stepT, rfl, rfl, .inl (.of hlines), by rw [e1, List.length_map]; omega, ?_⟩
  refine g_set ?_
  refine nx_in ?_
  refine seq_in ?_
  show tIfS _ _ _ _ [some (.ref p), none, some (.ref t), some (.ref D4), some (.str (runT ds)), none, none, none, none] H4
  have hv : vszs ds ≤ 900000 := by have := vszs_run hGS; omega
  have hrp := runT_repr hGS hdl
  refine ⟨_, rfl, t, xs, ds, rfl, S4.at_, S4.da.here, fun d hd => (hGS d hd).ok, by omega, hv, fun H5 g5 => ⟨_, rfl, hrp, _, rfl, _, rfl, hrp, rfl, _, rfl, ?_⟩⟩
  rw [vstr_eq, decide_eq_true rfl]
  refine iteF ?_
  have S5 := S4.same g5
  have hl5 := g5 _ _ hlines
  refine ⟨_, rfl, runT ds, ds, rfl, run_ok hGS hdl, fun t2 xs2 H6 g6 ht2 hd2 => ⟨.ref t2, .tuple ds, rfl, .tup ht2 hd2, sok (run_sms hGS hdl).tup, _, rfl, .ref t, .tuple ds, rfl, .tup (g6 _ _ S5.at_) ((S5.da.here).same g6), sok (run_sms hGS hdl).tup, rfl, _, rfl, ?_⟩⟩
  rw [vstr_eq, decide_eq_true rfl]
  refine iteF ?_
  refine next_in ?_
  refine nx_in ?_
  refine seq_in ?_
  have S6 := S5.same g6
  have hl6 := g6 _ _ hl5
  refine ⟨5, rfl, by decide, by decide, for_range (n := 5) (fun i σ G => ∃ u1 u5 u6 u7, σ = [some (.ref p), u1, some (.ref t), some (.ref D4), some (.str (runT ds)), u5, u6, u7, none] ∧ R12 PA PB p t xs ds H G (2000 + 100 * i) ∧ G D4 = some (.lst ((ds.map stepT).map V.str))) ⟨_, _, _, _, rfl, ⟨S6.old, S6.pot.mono (by omega), S6.tab, S6.ne, S6.at_, S6.da⟩, hl6⟩ ?_ ?_⟩
  · rintro i σ G hi ⟨u1, u5, u6, u7, rfl, S, hl⟩
    refine g_set ?_
    refine seq_in ?_
    refine asg_in ?_
    refine ⟨_, rfl, _, rfl, _, xs.length, rfl, .inr ⟨xs, .of S.at_, rfl⟩, _, _, rfl, rfl, p, (xs.length : Int) + 1, 2000 + 100 * i, rfl, by omega, by omega, by omega, S.pot, fun at_ G1 ha g1 hP1 => ?_⟩
    have T1 := S.take g1 hP1
    have hl1 := g1 _ _ (by simpa using hDp) hl
    refine g_set ?_
    refine nx_in ?_
    refine seq_in ?_
    refine asg_in ?_
    have hca : (at_ : Nat) ≤ ds.length := by have := hxl; omega
    refine ⟨_, rfl, ?_⟩
    refine noP_in ?_
    refine ⟨_, rfl, at_, rfl, D4, _, rfl, .of hl1, fun x1 nx1 => ?_⟩
    rw [cutA_to, ← List.map_take]
    have q1 := same_new nx1 (.lst (((ds.map stepT).take at_).map V.str))
    have hx1 : upd G1 x1 (.lst (((ds.map stepT).take at_).map V.str)) x1 = some (.lst (((ds.map stepT).take at_).map V.str)) := upd_same
    have T2 := T1.same q1
    have hl2 := q1 _ _ hl1
    have x1p : x1 ≠ p := fun z => by rw [z] at nx1; exact T1.pot.ne0 nx1
    generalize upd G1 x1 (.lst (((ds.map stepT).take at_).map V.str)) = G2 at q1 hx1 T2 hl2 ⊢
    refine ⟨_, rfl, p, _, rfl, T2.pot, by omega, fun z G3 hz g3 hP3 => ⟨szl (by show 1 ≤ _; decide), fun x2 nx2 => ?_⟩⟩
    have T3 := T2.take g3 hP3
    have hl3 := g3 _ _ (by simpa using hDp) hl2
    have hx3 := g3 _ _ (by simpa using x1p) hx1
    have q4 := same_new nx2 (.lst [V.str z])
    have T4 := T3.same q4
    have hl4 := q4 _ _ hl3
    refine ⟨x1, x2, _, _, rfl, rfl, q4 _ _ hx3, upd_same, szl (by rw [List.length_map, List.length_take, List.length_map]; show _ + 1 ≤ _; omega), fun x3 nx3 => ?_⟩
    have q5 := same_new nx3 (.lst (((ds.map stepT).take at_ ++ [z]).map V.str))
    have hx5 : upd (upd G3 x2 (.lst [V.str z])) x3 (.lst (((ds.map stepT).take at_ ++ [z]).map V.str)) x3 = some (.lst (((ds.map stepT).take at_ ++ [z]).map V.str)) := upd_same
    have T5 := T4.same q5
    have hl5 := q5 _ _ hl4
    have x3p : x3 ≠ p := fun z => by rw [z] at nx3; exact T4.pot.ne0 nx3
    have em : ((ds.map stepT).take at_).map V.str ++ [V.str z] = ((ds.map stepT).take at_ ++ [z]).map V.str := by rw [List.map_append]; rfl
    rw [em]
    generalize upd (upd G3 x2 (.lst [V.str z])) x3 (.lst (((ds.map stepT).take at_ ++ [z]).map V.str)) = G5 at hx5 T5 hl5 ⊢
    refine ⟨_, rfl, _, rfl, _, rfl, p, 2, _, rfl, by decide, by decide, by omega, T5.pot, fun j G6 hj g6 hP6 => ⟨_, _, rfl, rfl, _, rfl, ?_⟩⟩
    refine noP_in ?_
    have T6 := T5.take g6 hP6
    have hl6 := g6 _ _ (by simpa using hDp) hl5
    have hx6 := g6 _ _ (by simpa using x3p) hx5
    refine ⟨D4, _, rfl, .of hl6, fun x4 nx4 => ?_⟩
    rw [show ((at_ : Int) + (j : Int)) = ((at_ + j : Nat) : Int) by omega, cutA_from, ← List.map_drop]
    have q7 := same_new nx4 (.lst (((ds.map stepT).drop (at_ + j)).map V.str))
    refine ⟨x3, x4, _, _, rfl, rfl, q7 _ _ hx6, upd_same, szl (by simp only [List.length_map, List.length_append, List.length_take, List.length_drop, List.length_cons, List.length_nil]; omega), fun x5 nx5 => ?_⟩
    have T7 := T6.same q7
    have hl7 := q7 _ _ hl6
    rw [← List.map_append]
    have q8 := same_new nx5 (.lst ((bentL ds z at_ j).map V.str))
    have hx8 : upd (upd G6 x4 (.lst (((ds.map stepT).drop (at_ + j)).map V.str))) x5 (.lst ((bentL ds z at_ j).map V.str)) x5 = some (.lst ((bentL ds z at_ j).map V.str)) := upd_same
    have T8 := T7.same q8
    have hl8 := q8 _ _ hl7
    show gName 6 (.ref x5) _ (upd (upd G6 x4 (.lst (((ds.map stepT).drop (at_ + j)).map V.str))) x5 (.lst ((bentL ds z at_ j).map V.str))) _
    generalize upd (upd G6 x4 (.lst (((ds.map stepT).drop (at_ + j)).map V.str))) x5 (.lst ((bentL ds z at_ j).map V.str)) = G8 at hx8 T8 hl8 ⊢
    refine g_set ?_
    refine nx_in ?_
    refine seq_in ?_
    refine asg_in ?_
    have hbs := bent_sum (a := at_) (j := j) hGS hz hdl
    have hbl := bent_len (z := z) (a := at_) (j := j) hdl
    refine ⟨⟨_, rfl⟩, _, rfl, "\n", x5, bentL ds z at_ j, rfl, rfl, .inl (.of hx8), by rw [e1]; omega, ?_⟩
    refine g_set ?_
    refine nx_in ?_
    obtain ⟨c1', c2', c3', c4', c5', c6'⟩ := bad_at hGS hdl hz (a := at_) (j := j) hca
    refine ⟨_, rfl, rfl, _, rfl, ?_⟩
    rw [vstr_eq]
    show if (!decide (bentT ds z at_ j = "")) = true then _ else _
    refine ite2 (fun c => ?_) (fun c => ?_)
    · have c : bentT ds z at_ j ≠ "" := by simpa using c
      refine notb_in ?_
      refine refN_lam (d := .int ((at_ : Int) + 1)) (i := 1) (t := fun E => tCall (spRunInX (e 1)) [] E (tCons (tVar 7) tNil)) ?L lamB0 ?hb ?hy (by decide) (.int ((at_ : Int) + 1)) (sok (Sm.int (by omega) (by omega))) T8.tab (fun H1 Q1 g1 q => ⟨_, rfl, _, _, rfl, rfl, q⟩) (fun G Q' E' gk hE => ⟨_, rfl, .str (bentT ds z at_ j), (at_ : Int) + 1, rfl, .inr ⟨bentT ds z at_ j, at_, z, rfl, c, c1', c2', c3', c4', c5', c6', rfl⟩, fun H' e g he => hE e _ (g.trans (same_new he _)) upd_same⟩) fun H9 g9 hT9 => ?_
      case L => exact lamS_by (by first | rfl | kernel_rfl)
      case hb => exact fun A outer s H E f c' hr => pe_fdE (takes_of rfl rfl rfl rfl) X_run_in (hr.mono (by decide)) rfl (pa_cons (pv 7) pa_nil)
      case hy => decide
      have T9 := T8.ext g9 hT9
      exact ⟨true, rfl, ite_no rfl ⟨_, _, _, _, rfl, ⟨T9.old, T9.pot.mono (by omega), T9.tab, T9.ne, T9.at_, T9.da⟩, g9 _ _ hl8 (fun _ z => by cases z)⟩⟩
    · refine iteF ?_
      exact ⟨_, _, _, _, rfl, ⟨T8.old, T8.pot.mono (by omega), T8.tab, T8.ne, T8.at_, T8.da⟩, hl8⟩
  · rintro σ G ⟨u1, u5, u6, u7, rfl, S, hl⟩
    refine nx_in ?_
    refine ret_in ?_
    exact ⟨_, rfl, _, rfl, p, t, xs, ds, _, rfl, S.pot, by omega, S.at_, S.da, S.ne, hGS, hdl, S.tab, fun H' g hT' => q H' (S.old.trans g) hT'⟩
end
end Fp
namespace Fp
open PySem PySem.Spec PyProof.Rows L2 LamX
theorem ext_put {Hz H : Hp} {a : Addr} {u : HO} (hz : Hz a = none) (g : ExtN Hz H) : ExtN Hz (upd H a u) := fun b o q n => by
  rw [upd_ne (fun z => by rw [z, hz] at q; cases q)]; exact g b o q n
theorem kw1_rel {vs : List V} {us : List Value} (r : Vals vs us) : Vals (kw1 vs) (kw1 us) := r
theorem ExtN.seq {K : PySem.W.Frag} {H H' : Hp} (g : ExtN H H') {a : Addr} {xs : List V} (h : SqL K H a xs) : SqL K H' a xs := by
  rcases h with (h | ⟨o, h⟩) | h
  · exact .inl (.inl (g _ _ h (fun _ z => (by cases z))))
  · exact .inl (.inr ⟨o, g _ _ h (fun _ z => (by cases z))⟩)
  · exact .inr h
def spLawT (K : PySem.W.Frag) (PA PB : Addr) : Sp := fun vs H Q _ => ∃ (a : Addr) (ns : List Int), vs = [.ref a] ∧ SqL K H a (ns.map V.int) ∧ ns.length ≤ 63 ∧ Tabs (T12 PA PB) H ∧ ∀ H', Q (.bl true) H'
section
variable {P : Program} {w : World} {K : PySem.W.Frag} {mg : Str → Option Value} {base : Heap} {f : Addr} {fd : FuncData}
abbrev s_law : Stmt := top 43
theorem sc_law : FnScope ["script", "place"] ["script"] (defScope s_law) := ⟨rfl, rfl, rfl, by decide +kernel, rfl, by decide +kernel, by decide +kernel⟩
theorem ok_law {PA PB : Addr} (F : Fun K "law" "law" s_law f fd) (T : LTx mg) (G_law_cells : Fd P w K mg base CX0 "_law_cells" 1 ["script", "limit"] (spCells K)) (G_law_pot : Fd P w K mg base CX0 "_law_pot" 1 ["script", "place"] (spPot K)) (G_law_right : FdG P w K mg base CX0 "_law_right" 21 ["pot"] (spRight12 PA PB)) : FnOkG P w K mg base CX0 22 f fd ["script"] (spLawT K PA PB) := by
  refine fun_okG F sc_law (fun vs H Q E h => ?_) (fun cdv A outer s H vs Q E hr hgu h => ?_)
  · obtain ⟨a, ns, rfl, _⟩ := h
    rfl
  obtain ⟨a, ns, rfl, hS, hl, hT, k⟩ := h
  refine ⟨_, (pss_one (ps_ret (pe_callB (cr_all rfl) rfl T.all (by decide +kernel) (pa_cons (pe_lc (own := [("place", 1)]) (g := (gName 1)) (tt := tYes) rfl sc_law.nd (pi_list (pe_fd G_law_cells (hr.mono (by first | decide | omega)) rfl (pa_cons (pv 0) (pa_cons pe_int pa_nil)))) (blkOk_by (own := [("place", 1)]) (N := ["script", "place"]) (sc := defScope s_law) (by decide +kernel)) (fun _ _ _ _ _ => (pg_name (i := 1) sc_law.nd rfl (Or.inl rfl))) (fun _ _ _ _ _ => pts_nil) (fun _ _ _ _ _ => (pe_fdG G_law_right hr hgu rfl (pa_cons (pe_fd G_law_pot (hr.mono (by decide)) rfl (pa_cons (pv 0) (pa_cons (pv 1) pa_nil))) pa_nil)))) pa_nil)))), ?_⟩
  refine ⟨_, rfl, a, ns, 2, rfl, hS, hl, by decide, fun l H1 n hn g1 hl0 hl1 => ?_⟩
  refine ⟨l, rfl, ⟨_, .of hl1⟩, fun D hD => ?_⟩
  have hlen : ((List.range n).map fun i => V.int (i : Nat)).length = n := by simp
  have gD := same_new hD (.lst [])
  refine lc_list (K := K) (a := l) (xs := (List.range n).map fun i => V.int (i : Nat)) (fun i H' => ExtN H1 H' ∧ Tabs (T12 PA PB) H' ∧ H' D = some (.lst ((List.replicate i true).map V.bl))) ⟨extN_same gD, Tabs.same hT (g1.trans gD), upd_same⟩ (fun i H' _ z => .of (z.1 _ _ hl1 (fun _ z => (by cases z)))) ?_ ?_
  · rintro i x Hi hx ⟨gi, Ti, hDi⟩
    have hi : i < n := by have := get_lt hx; rw [hlen] at this; exact this
    have hx' : x = .int (i : Nat) := by
      rw [List.getElem?_map, List.getElem?_range hi] at hx
      exact (Option.some.inj hx).symm
    subst hx'
    refine ⟨rfl, _, rfl, _, rfl, a, ns, i, rfl, ExtN.seq gi (g1.seq hS), hl, by omega, fun lp H3 g3 hlp hP => ?_⟩
    have lpD : D ≠ lp := ne_of_none hDi hlp
    refine ⟨lp, rfl, hP, Tabs.same Ti g3, fun H4 g4 T4 => ?_⟩
    have h4 : H4 D = some (.lst ((List.replicate i true).map V.bl)) := g4 _ _ (fun z => lpD (List.mem_singleton.mp z)) (g3 _ _ hDi) (fun _ z => (by cases z))
    refine ⟨_, h4, Nat.lt_of_le_of_lt (show _ ≤ 1000 by rw [List.length_map, List.length_replicate]; omega) (by decide), ext_put hD fun b o q nt => ?_, ?_, ?_⟩
    · have q2 := gi b o q nt
      exact g4 _ _ (fun z => ne_of_none q2 hlp (List.mem_singleton.mp z)) (g3 _ _ q2) nt
    · exact Tabs.but T4 ((But.refl _ _).put (S := [D]) (by simp)) fun x hx o q => by
        rw [List.mem_singleton.mp hx, h4] at q
        cases q
        exact ⟨fun _ z => (by cases z), fun _ z => (by cases z)⟩
    · rw [upd_same, List.replicate_succ', List.map_append]
      rfl
  · rintro Hi ⟨gi, Ti, hDi⟩
    refine ⟨D, List.replicate ((List.range n).map fun i => V.int (i : Nat)).length true, rfl, .of hDi, ?_⟩
    rw [show (List.replicate ((List.range n).map fun i => V.int (i : Nat)).length true).all id = true by simp]
    exact k Hi
end
end Fp
namespace Fp
open PySem PySem.Spec PyProof.Rows L2
theorem kit_selfG (K : PySem.W.Frag) (C : Addr) : PySem.W.kitOne K (.ref C) (.ref C) = some true := by
  unfold PySem.W.kitOne
  rw [if_pos (by simp)]
theorem nf_selfG (K : PySem.W.Frag) (C : Addr) : PySem.W.notFirst K C (.ref C) = true := by
  unfold PySem.W.notFirst
  rw [Bool.or_eq_true]
  exact .inl (beq_self_eq_true _)
def e12 (a0 a1 : Addr) : Nat → Addr
  | 0 => a0
  | _ => a1
theorem kitG {K : PySem.W.Frag} {N : Nat} {e : Nat → Addr} (E : ∀ i j, i < N → j < N → PySem.W.exmOne K (.ref (e i)) (.ref (e j)) = some (decide (i = j))) : ∀ i j, i < N → j < N → PySem.W.kitOne K (.ref (e i)) (.ref (e j)) = some (decide (i = j)) := fun i j hi hj => by
  by_cases h : i = j
  · subst h
    rw [decide_eq_true rfl]
    unfold PySem.W.kitOne
    rw [if_pos (by simp)]
  · have h1 := E i j hi hj
    have ne : ¬ ((Value.ref (e i) == Value.ref (e j)) = true) := fun z => by
      have z' : Value.ref (e i) = Value.ref (e j) := beq_iff_eq.mp z
      have h2 := E i i hi hi
      rw [← z', h2, decide_eq_true rfl, decide_eq_false h] at h1
      cases h1
    unfold PySem.W.exmOne at h1
    unfold PySem.W.kitOne
    rw [if_neg ne]
    split at h1
    · exact h1
    · cases h1
theorem all_mk {l : PySem.W.OpenLaw} {w : World} {K : PySem.W.Frag} {h : Heap} {mg : Str → Option Value} {fa : Addr} (X : K.In h) (G : h.Ns mainGlobals mg) (hfa : mg "law" = some (.ref fa))
    {od_law_are_refused an_law_are_refused : Option Addr} {sl_law_are_refused : Array (Option Value)} {oc_law_are_refused kV_law_are_refused dc_law_are_refused pm_law_are_refused cd_law_are_refused ct_law_are_refused : Value} {f_law_are_refused : Addr}
    (a_law_are_refused : PySem.W.nsIn K mainGlobals "_law_are_refused" = some (some (.ref f_law_are_refused)))
    (l_law_are_refused : K.lookup f_law_are_refused = some ⟨oc_law_are_refused, od_law_are_refused, .func (PySem.W.fnOf "_law_are_refused" "_law_are_refused" (defArgs s_law_are_refused) (defBody s_law_are_refused) (defScope s_law_are_refused) .none kV_law_are_refused dc_law_are_refused pm_law_are_refused an_law_are_refused cd_law_are_refused ct_law_are_refused), sl_law_are_refused⟩)
    (c_law_are_refused : PySem.W.codeIn K cd_law_are_refused "_law_are_refused" = true)
    (k_law_are_refused : PySem.W.keepIn K (.ref f_law_are_refused) = true)
    {cR0 P0 : Addr} {occ0 : Value} {odc0 : Option Addr} {vsc0 : Array Value} {slc0 : Array (Option Value)}
    (hcd0 : cd_law_are_refused = .ref cR0)
    (hco0 : K.lookup cR0 = some ⟨occ0, odc0, .fields vsc0, slc0⟩)
    (h11_0 : (vsc0[11]? : Option Value) = some (.ref P0))
    (nT0 : K.lookup P0 = none)
    {od_law_right an_law_right : Option Addr} {sl_law_right : Array (Option Value)} {oc_law_right kV_law_right dc_law_right pm_law_right cd_law_right ct_law_right : Value} {f_law_right : Addr}
    (a_law_right : PySem.W.nsIn K mainGlobals "_law_right" = some (some (.ref f_law_right)))
    (l_law_right : K.lookup f_law_right = some ⟨oc_law_right, od_law_right, .func (PySem.W.fnOf "_law_right" "_law_right" (defArgs s_law_right) (defBody s_law_right) (defScope s_law_right) .none kV_law_right dc_law_right pm_law_right an_law_right cd_law_right ct_law_right), sl_law_right⟩)
    (c_law_right : PySem.W.codeIn K cd_law_right "_law_right" = true)
    (k_law_right : PySem.W.keepIn K (.ref f_law_right) = true)
    {cR1 P1 : Addr} {occ1 : Value} {odc1 : Option Addr} {vsc1 : Array Value} {slc1 : Array (Option Value)}
    (hcd1 : cd_law_right = .ref cR1)
    (hco1 : K.lookup cR1 = some ⟨occ1, odc1, .fields vsc1, slc1⟩)
    (h11_1 : (vsc1[11]? : Option Value) = some (.ref P1))
    (nT1 : K.lookup P1 = none)
    {od_law an_law : Option Addr} {sl_law : Array (Option Value)} {oc_law kV_law dc_law pm_law cd_law ct_law : Value} {f_law : Addr}
    (a_law : PySem.W.nsIn K mainGlobals "law" = some (some (.ref f_law)))
    (l_law : K.lookup f_law = some ⟨oc_law, od_law, .func (PySem.W.fnOf "law" "law" (defArgs s_law) (defBody s_law) (defScope s_law) .none kV_law dc_law pm_law an_law cd_law ct_law), sl_law⟩)
    (c_law : PySem.W.codeIn K cd_law "law" = true)
    (k_law : PySem.W.keepIn K (.ref f_law) = true)
    (z_len : PySem.W.nsIn K mainGlobals "len" = some none)
    (z_int : PySem.W.nsIn K mainGlobals "int" = some none)
    (z_sum : PySem.W.nsIn K mainGlobals "sum" = some none)
    (z_abs : PySem.W.nsIn K mainGlobals "abs" = some none)
    (z_list : PySem.W.nsIn K mainGlobals "list" = some none)
    (z_tuple : PySem.W.nsIn K mainGlobals "tuple" = some none)
    (z_range : PySem.W.nsIn K mainGlobals "range" = some none)
    (z_max : PySem.W.nsIn K mainGlobals "max" = some none)
    (z_min : PySem.W.nsIn K mainGlobals "min" = some none)
    (z_repr : PySem.W.nsIn K mainGlobals "repr" = some none)
    (z_all : PySem.W.nsIn K mainGlobals "all" = some none)
    (z_enumerate : PySem.W.nsIn K mainGlobals "enumerate" = some none)
    {od_law_cells an_law_cells : Option Addr} {sl_law_cells : Array (Option Value)} {oc_law_cells kV_law_cells dc_law_cells pm_law_cells cd_law_cells ct_law_cells : Value} {f_law_cells : Addr}
    (a_law_cells : PySem.W.nsIn K mainGlobals "_law_cells" = some (some (.ref f_law_cells)))
    (l_law_cells : K.lookup f_law_cells = some ⟨oc_law_cells, od_law_cells, .func (PySem.W.fnOf "_law_cells" "_law_cells" (defArgs s_law_cells) (defBody s_law_cells) (defScope s_law_cells) .none kV_law_cells dc_law_cells pm_law_cells an_law_cells cd_law_cells ct_law_cells), sl_law_cells⟩)
    (c_law_cells : PySem.W.codeIn K cd_law_cells "_law_cells" = true)
    (k_law_cells : PySem.W.keepIn K (.ref f_law_cells) = true)
    {od_law_pot an_law_pot : Option Addr} {sl_law_pot : Array (Option Value)} {oc_law_pot kV_law_pot dc_law_pot pm_law_pot cd_law_pot ct_law_pot : Value} {f_law_pot : Addr}
    (a_law_pot : PySem.W.nsIn K mainGlobals "_law_pot" = some (some (.ref f_law_pot)))
    (l_law_pot : K.lookup f_law_pot = some ⟨oc_law_pot, od_law_pot, .func (PySem.W.fnOf "_law_pot" "_law_pot" (defArgs s_law_pot) (defBody s_law_pot) (defScope s_law_pot) .none kV_law_pot dc_law_pot pm_law_pot an_law_pot cd_law_pot ct_law_pot), sl_law_pot⟩)
    (c_law_pot : PySem.W.codeIn K cd_law_pot "_law_pot" = true)
    (k_law_pot : PySem.W.keepIn K (.ref f_law_pot) = true)
    (hP0_1 : P0 ≠ P1)
    {od_law_take an_law_take : Option Addr} {sl_law_take : Array (Option Value)} {oc_law_take kV_law_take dc_law_take pm_law_take cd_law_take ct_law_take : Value} {f_law_take : Addr}
    (a_law_take : PySem.W.nsIn K mainGlobals "_law_take" = some (some (.ref f_law_take)))
    (l_law_take : K.lookup f_law_take = some ⟨oc_law_take, od_law_take, .func (PySem.W.fnOf "_law_take" "_law_take" (defArgs s_law_take) (defBody s_law_take) (defScope s_law_take) .none kV_law_take dc_law_take pm_law_take an_law_take cd_law_take ct_law_take), sl_law_take⟩)
    (c_law_take : PySem.W.codeIn K cd_law_take "_law_take" = true)
    (k_law_take : PySem.W.keepIn K (.ref f_law_take) = true)
    {od_law_drawn_step an_law_drawn_step : Option Addr} {sl_law_drawn_step : Array (Option Value)} {oc_law_drawn_step kV_law_drawn_step dc_law_drawn_step pm_law_drawn_step cd_law_drawn_step ct_law_drawn_step : Value} {f_law_drawn_step : Addr}
    (a_law_drawn_step : PySem.W.nsIn K mainGlobals "_law_drawn_step" = some (some (.ref f_law_drawn_step)))
    (l_law_drawn_step : K.lookup f_law_drawn_step = some ⟨oc_law_drawn_step, od_law_drawn_step, .func (PySem.W.fnOf "_law_drawn_step" "_law_drawn_step" (defArgs s_law_drawn_step) (defBody s_law_drawn_step) (defScope s_law_drawn_step) .none kV_law_drawn_step dc_law_drawn_step pm_law_drawn_step an_law_drawn_step cd_law_drawn_step ct_law_drawn_step), sl_law_drawn_step⟩)
    (c_law_drawn_step : PySem.W.codeIn K cd_law_drawn_step "_law_drawn_step" = true)
    (k_law_drawn_step : PySem.W.keepIn K (.ref f_law_drawn_step) = true)
    (z_isinstance : PySem.W.nsIn K mainGlobals "isinstance" = some none)
    (z_bool : PySem.W.nsIn K mainGlobals "bool" = some none)
    (z_str : PySem.W.nsIn K mainGlobals "str" = some none)
    {t_FIGURES : Tok}
    (v_FIGURES : PySem.W.nsIn K mainGlobals "FIGURES" = some (some (.str "0123456789" t_FIGURES)))
    {t_MOST_FIGURES : Tok}
    (v_MOST_FIGURES : PySem.W.nsIn K mainGlobals "MOST_FIGURES" = some (some (.int 4000 t_MOST_FIGURES)))
    {t_MOST_HANDS : Tok}
    (v_MOST_HANDS : PySem.W.nsIn K mainGlobals "MOST_HANDS" = some (some (.int 6 t_MOST_HANDS)))
    {od_law_of an_law_of : Option Addr} {sl_law_of : Array (Option Value)} {oc_law_of kV_law_of dc_law_of pm_law_of cd_law_of ct_law_of : Value} {f_law_of : Addr}
    (a_law_of : PySem.W.nsIn K mainGlobals "_law_of" = some (some (.ref f_law_of)))
    (l_law_of : K.lookup f_law_of = some ⟨oc_law_of, od_law_of, .func (PySem.W.fnOf "_law_of" "_law_of" (defArgs s_law_of) (defBody s_law_of) (defScope s_law_of) .none kV_law_of dc_law_of pm_law_of an_law_of cd_law_of ct_law_of), sl_law_of⟩)
    (c_law_of : PySem.W.codeIn K cd_law_of "_law_of" = true)
    (k_law_of : PySem.W.keepIn K (.ref f_law_of) = true)
    {od_law_drawn_value an_law_drawn_value : Option Addr} {sl_law_drawn_value : Array (Option Value)} {oc_law_drawn_value kV_law_drawn_value dc_law_drawn_value pm_law_drawn_value cd_law_drawn_value ct_law_drawn_value : Value} {f_law_drawn_value : Addr}
    (a_law_drawn_value : PySem.W.nsIn K mainGlobals "_law_drawn_value" = some (some (.ref f_law_drawn_value)))
    (l_law_drawn_value : K.lookup f_law_drawn_value = some ⟨oc_law_drawn_value, od_law_drawn_value, .func (PySem.W.fnOf "_law_drawn_value" "_law_drawn_value" (defArgs s_law_drawn_value) (defBody s_law_drawn_value) (defScope s_law_drawn_value) .none kV_law_drawn_value dc_law_drawn_value pm_law_drawn_value an_law_drawn_value cd_law_drawn_value ct_law_drawn_value), sl_law_drawn_value⟩)
    (c_law_drawn_value : PySem.W.codeIn K cd_law_drawn_value "_law_drawn_value" = true)
    (k_law_drawn_value : PySem.W.keepIn K (.ref f_law_drawn_value) = true)
    {od_law_line an_law_line : Option Addr} {sl_law_line : Array (Option Value)} {oc_law_line kV_law_line dc_law_line pm_law_line cd_law_line ct_law_line : Value} {f_law_line : Addr}
    (a_law_line : PySem.W.nsIn K mainGlobals "_law_line" = some (some (.ref f_law_line)))
    (l_law_line : K.lookup f_law_line = some ⟨oc_law_line, od_law_line, .func (PySem.W.fnOf "_law_line" "_law_line" (defArgs s_law_line) (defBody s_law_line) (defScope s_law_line) .none kV_law_line dc_law_line pm_law_line an_law_line cd_law_line ct_law_line), sl_law_line⟩)
    (c_law_line : PySem.W.codeIn K cd_law_line "_law_line" = true)
    (k_law_line : PySem.W.keepIn K (.ref f_law_line) = true)
    {od_law_value_text an_law_value_text : Option Addr} {sl_law_value_text : Array (Option Value)} {oc_law_value_text kV_law_value_text dc_law_value_text pm_law_value_text cd_law_value_text ct_law_value_text : Value} {f_law_value_text : Addr}
    (a_law_value_text : PySem.W.nsIn K mainGlobals "_law_value_text" = some (some (.ref f_law_value_text)))
    (l_law_value_text : K.lookup f_law_value_text = some ⟨oc_law_value_text, od_law_value_text, .func (PySem.W.fnOf "_law_value_text" "_law_value_text" (defArgs s_law_value_text) (defBody s_law_value_text) (defScope s_law_value_text) .none kV_law_value_text dc_law_value_text pm_law_value_text an_law_value_text cd_law_value_text ct_law_value_text), sl_law_value_text⟩)
    (c_law_value_text : PySem.W.codeIn K cd_law_value_text "_law_value_text" = true)
    (k_law_value_text : PySem.W.keepIn K (.ref f_law_value_text) = true)
    {od_law_wrong_line an_law_wrong_line : Option Addr} {sl_law_wrong_line : Array (Option Value)} {oc_law_wrong_line kV_law_wrong_line dc_law_wrong_line pm_law_wrong_line cd_law_wrong_line ct_law_wrong_line : Value} {f_law_wrong_line : Addr}
    (a_law_wrong_line : PySem.W.nsIn K mainGlobals "_law_wrong_line" = some (some (.ref f_law_wrong_line)))
    (l_law_wrong_line : K.lookup f_law_wrong_line = some ⟨oc_law_wrong_line, od_law_wrong_line, .func (PySem.W.fnOf "_law_wrong_line" "_law_wrong_line" (defArgs s_law_wrong_line) (defBody s_law_wrong_line) (defScope s_law_wrong_line) .none kV_law_wrong_line dc_law_wrong_line pm_law_wrong_line an_law_wrong_line cd_law_wrong_line ct_law_wrong_line), sl_law_wrong_line⟩)
    (c_law_wrong_line : PySem.W.codeIn K cd_law_wrong_line "_law_wrong_line" = true)
    (k_law_wrong_line : PySem.W.keepIn K (.ref f_law_wrong_line) = true)
    {od_run_text an_run_text : Option Addr} {sl_run_text : Array (Option Value)} {oc_run_text kV_run_text dc_run_text pm_run_text cd_run_text ct_run_text : Value} {f_run_text : Addr}
    (a_run_text : PySem.W.nsIn K mainGlobals "run_text" = some (some (.ref f_run_text)))
    (l_run_text : K.lookup f_run_text = some ⟨oc_run_text, od_run_text, .func (PySem.W.fnOf "run_text" "run_text" (defArgs s_run_text) (defBody s_run_text) (defScope s_run_text) .none kV_run_text dc_run_text pm_run_text an_run_text cd_run_text ct_run_text), sl_run_text⟩)
    (c_run_text : PySem.W.codeIn K cd_run_text "run_text" = true)
    (k_run_text : PySem.W.keepIn K (.ref f_run_text) = true)
    {od_are_steps an_are_steps : Option Addr} {sl_are_steps : Array (Option Value)} {oc_are_steps kV_are_steps dc_are_steps pm_are_steps cd_are_steps ct_are_steps : Value} {f_are_steps : Addr}
    (a_are_steps : PySem.W.nsIn K mainGlobals "are_steps" = some (some (.ref f_are_steps)))
    (l_are_steps : K.lookup f_are_steps = some ⟨oc_are_steps, od_are_steps, .func (PySem.W.fnOf "are_steps" "are_steps" (defArgs s_are_steps) (defBody s_are_steps) (defScope s_are_steps) .none kV_are_steps dc_are_steps pm_are_steps an_are_steps cd_are_steps ct_are_steps), sl_are_steps⟩)
    (c_are_steps : PySem.W.codeIn K cd_are_steps "are_steps" = true)
    (k_are_steps : PySem.W.keepIn K (.ref f_are_steps) = true)
    {od_is_step an_is_step : Option Addr} {sl_is_step : Array (Option Value)} {oc_is_step kV_is_step dc_is_step pm_is_step cd_is_step ct_is_step : Value} {f_is_step : Addr}
    (a_is_step : PySem.W.nsIn K mainGlobals "is_step" = some (some (.ref f_is_step)))
    (l_is_step : K.lookup f_is_step = some ⟨oc_is_step, od_is_step, .func (PySem.W.fnOf "is_step" "is_step" (defArgs s_is_step) (defBody s_is_step) (defScope s_is_step) .none kV_is_step dc_is_step pm_is_step an_is_step cd_is_step ct_is_step), sl_is_step⟩)
    (c_is_step : PySem.W.codeIn K cd_is_step "is_step" = true)
    (k_is_step : PySem.W.keepIn K (.ref f_is_step) = true)
    {od_is_below an_is_below : Option Addr} {sl_is_below : Array (Option Value)} {oc_is_below kV_is_below dc_is_below pm_is_below cd_is_below ct_is_below : Value} {f_is_below : Addr}
    (a_is_below : PySem.W.nsIn K mainGlobals "is_below" = some (some (.ref f_is_below)))
    (l_is_below : K.lookup f_is_below = some ⟨oc_is_below, od_is_below, .func (PySem.W.fnOf "is_below" "is_below" (defArgs s_is_below) (defBody s_is_below) (defScope s_is_below) .none kV_is_below dc_is_below pm_is_below an_is_below cd_is_below ct_is_below), sl_is_below⟩)
    (c_is_below : PySem.W.codeIn K cd_is_below "is_below" = true)
    (k_is_below : PySem.W.keepIn K (.ref f_is_below) = true)
    {od_is_whole an_is_whole : Option Addr} {sl_is_whole : Array (Option Value)} {oc_is_whole kV_is_whole dc_is_whole pm_is_whole cd_is_whole ct_is_whole : Value} {f_is_whole : Addr}
    (a_is_whole : PySem.W.nsIn K mainGlobals "is_whole" = some (some (.ref f_is_whole)))
    (l_is_whole : K.lookup f_is_whole = some ⟨oc_is_whole, od_is_whole, .func (PySem.W.fnOf "is_whole" "is_whole" (defArgs s_is_whole) (defBody s_is_whole) (defScope s_is_whole) .none kV_is_whole dc_is_whole pm_is_whole an_is_whole cd_is_whole ct_is_whole), sl_is_whole⟩)
    (c_is_whole : PySem.W.codeIn K cd_is_whole "is_whole" = true)
    (k_is_whole : PySem.W.keepIn K (.ref f_is_whole) = true)
    {od_is_matter an_is_matter : Option Addr} {sl_is_matter : Array (Option Value)} {oc_is_matter kV_is_matter dc_is_matter pm_is_matter cd_is_matter ct_is_matter : Value} {f_is_matter : Addr}
    (a_is_matter : PySem.W.nsIn K mainGlobals "is_matter" = some (some (.ref f_is_matter)))
    (l_is_matter : K.lookup f_is_matter = some ⟨oc_is_matter, od_is_matter, .func (PySem.W.fnOf "is_matter" "is_matter" (defArgs s_is_matter) (defBody s_is_matter) (defScope s_is_matter) .none kV_is_matter dc_is_matter pm_is_matter an_is_matter cd_is_matter ct_is_matter), sl_is_matter⟩)
    (c_is_matter : PySem.W.codeIn K cd_is_matter "is_matter" = true)
    (k_is_matter : PySem.W.keepIn K (.ref f_is_matter) = true)
    {od_is_value an_is_value : Option Addr} {sl_is_value : Array (Option Value)} {oc_is_value kV_is_value dc_is_value pm_is_value cd_is_value ct_is_value : Value} {f_is_value : Addr}
    (a_is_value : PySem.W.nsIn K mainGlobals "is_value" = some (some (.ref f_is_value)))
    (l_is_value : K.lookup f_is_value = some ⟨oc_is_value, od_is_value, .func (PySem.W.fnOf "is_value" "is_value" (defArgs s_is_value) (defBody s_is_value) (defScope s_is_value) .none kV_is_value dc_is_value pm_is_value an_is_value cd_is_value ct_is_value), sl_is_value⟩)
    (c_is_value : PySem.W.codeIn K cd_is_value "is_value" = true)
    (k_is_value : PySem.W.keepIn K (.ref f_is_value) = true)
    {od_is_word an_is_word : Option Addr} {sl_is_word : Array (Option Value)} {oc_is_word kV_is_word dc_is_word pm_is_word cd_is_word ct_is_word : Value} {f_is_word : Addr}
    (a_is_word : PySem.W.nsIn K mainGlobals "is_word" = some (some (.ref f_is_word)))
    (l_is_word : K.lookup f_is_word = some ⟨oc_is_word, od_is_word, .func (PySem.W.fnOf "is_word" "is_word" (defArgs s_is_word) (defBody s_is_word) (defScope s_is_word) .none kV_is_word dc_is_word pm_is_word an_is_word cd_is_word ct_is_word), sl_is_word⟩)
    (c_is_word : PySem.W.codeIn K cd_is_word "is_word" = true)
    (k_is_word : PySem.W.keepIn K (.ref f_is_word) = true)
    {od_is_box_word an_is_box_word : Option Addr} {sl_is_box_word : Array (Option Value)} {oc_is_box_word kV_is_box_word dc_is_box_word pm_is_box_word cd_is_box_word ct_is_box_word : Value} {f_is_box_word : Addr}
    (a_is_box_word : PySem.W.nsIn K mainGlobals "is_box_word" = some (some (.ref f_is_box_word)))
    (l_is_box_word : K.lookup f_is_box_word = some ⟨oc_is_box_word, od_is_box_word, .func (PySem.W.fnOf "is_box_word" "is_box_word" (defArgs s_is_box_word) (defBody s_is_box_word) (defScope s_is_box_word) .none kV_is_box_word dc_is_box_word pm_is_box_word an_is_box_word cd_is_box_word ct_is_box_word), sl_is_box_word⟩)
    (c_is_box_word : PySem.W.codeIn K cd_is_box_word "is_box_word" = true)
    (k_is_box_word : PySem.W.keepIn K (.ref f_is_box_word) = true)
    {od_step_text an_step_text : Option Addr} {sl_step_text : Array (Option Value)} {oc_step_text kV_step_text dc_step_text pm_step_text cd_step_text ct_step_text : Value} {f_step_text : Addr}
    (a_step_text : PySem.W.nsIn K mainGlobals "step_text" = some (some (.ref f_step_text)))
    (l_step_text : K.lookup f_step_text = some ⟨oc_step_text, od_step_text, .func (PySem.W.fnOf "step_text" "step_text" (defArgs s_step_text) (defBody s_step_text) (defScope s_step_text) .none kV_step_text dc_step_text pm_step_text an_step_text cd_step_text ct_step_text), sl_step_text⟩)
    (c_step_text : PySem.W.codeIn K cd_step_text "step_text" = true)
    (k_step_text : PySem.W.keepIn K (.ref f_step_text) = true)
    {od_value_text an_value_text : Option Addr} {sl_value_text : Array (Option Value)} {oc_value_text kV_value_text dc_value_text pm_value_text cd_value_text ct_value_text : Value} {f_value_text : Addr}
    (a_value_text : PySem.W.nsIn K mainGlobals "value_text" = some (some (.ref f_value_text)))
    (l_value_text : K.lookup f_value_text = some ⟨oc_value_text, od_value_text, .func (PySem.W.fnOf "value_text" "value_text" (defArgs s_value_text) (defBody s_value_text) (defScope s_value_text) .none kV_value_text dc_value_text pm_value_text an_value_text cd_value_text ct_value_text), sl_value_text⟩)
    (c_value_text : PySem.W.codeIn K cd_value_text "value_text" = true)
    (k_value_text : PySem.W.keepIn K (.ref f_value_text) = true)
    {od_run_in an_run_in : Option Addr} {sl_run_in : Array (Option Value)} {oc_run_in kV_run_in dc_run_in pm_run_in cd_run_in ct_run_in : Value} {f_run_in : Addr}
    (a_run_in : PySem.W.nsIn K mainGlobals "run_in" = some (some (.ref f_run_in)))
    (l_run_in : K.lookup f_run_in = some ⟨oc_run_in, od_run_in, .func (PySem.W.fnOf "run_in" "run_in" (defArgs s_run_in) (defBody s_run_in) (defScope s_run_in) .none kV_run_in dc_run_in pm_run_in an_run_in cd_run_in ct_run_in), sl_run_in⟩)
    (c_run_in : PySem.W.codeIn K cd_run_in "run_in" = true)
    (k_run_in : PySem.W.keepIn K (.ref f_run_in) = true)
    {od_step_in an_step_in : Option Addr} {sl_step_in : Array (Option Value)} {oc_step_in kV_step_in dc_step_in pm_step_in cd_step_in ct_step_in : Value} {f_step_in : Addr}
    (a_step_in : PySem.W.nsIn K mainGlobals "step_in" = some (some (.ref f_step_in)))
    (l_step_in : K.lookup f_step_in = some ⟨oc_step_in, od_step_in, .func (PySem.W.fnOf "step_in" "step_in" (defArgs s_step_in) (defBody s_step_in) (defScope s_step_in) .none kV_step_in dc_step_in pm_step_in an_step_in cd_step_in ct_step_in), sl_step_in⟩)
    (c_step_in : PySem.W.codeIn K cd_step_in "step_in" = true)
    (k_step_in : PySem.W.keepIn K (.ref f_step_in) = true)
    {od_values_in an_values_in : Option Addr} {sl_values_in : Array (Option Value)} {oc_values_in kV_values_in dc_values_in pm_values_in cd_values_in ct_values_in : Value} {f_values_in : Addr}
    (a_values_in : PySem.W.nsIn K mainGlobals "values_in" = some (some (.ref f_values_in)))
    (l_values_in : K.lookup f_values_in = some ⟨oc_values_in, od_values_in, .func (PySem.W.fnOf "values_in" "values_in" (defArgs s_values_in) (defBody s_values_in) (defScope s_values_in) .none kV_values_in dc_values_in pm_values_in an_values_in cd_values_in ct_values_in), sl_values_in⟩)
    (c_values_in : PySem.W.codeIn K cd_values_in "values_in" = true)
    (k_values_in : PySem.W.keepIn K (.ref f_values_in) = true)
    {od_integer_in an_integer_in : Option Addr} {sl_integer_in : Array (Option Value)} {oc_integer_in kV_integer_in dc_integer_in pm_integer_in cd_integer_in ct_integer_in : Value} {f_integer_in : Addr}
    (a_integer_in : PySem.W.nsIn K mainGlobals "integer_in" = some (some (.ref f_integer_in)))
    (l_integer_in : K.lookup f_integer_in = some ⟨oc_integer_in, od_integer_in, .func (PySem.W.fnOf "integer_in" "integer_in" (defArgs s_integer_in) (defBody s_integer_in) (defScope s_integer_in) .none kV_integer_in dc_integer_in pm_integer_in an_integer_in cd_integer_in ct_integer_in), sl_integer_in⟩)
    (c_integer_in : PySem.W.codeIn K cd_integer_in "integer_in" = true)
    (k_integer_in : PySem.W.keepIn K (.ref f_integer_in) = true)
    {od_matter_of an_matter_of : Option Addr} {sl_matter_of : Array (Option Value)} {oc_matter_of kV_matter_of dc_matter_of pm_matter_of cd_matter_of ct_matter_of : Value} {f_matter_of : Addr}
    (a_matter_of : PySem.W.nsIn K mainGlobals "matter_of" = some (some (.ref f_matter_of)))
    (l_matter_of : K.lookup f_matter_of = some ⟨oc_matter_of, od_matter_of, .func (PySem.W.fnOf "matter_of" "matter_of" (defArgs s_matter_of) (defBody s_matter_of) (defScope s_matter_of) .none kV_matter_of dc_matter_of pm_matter_of an_matter_of cd_matter_of ct_matter_of), sl_matter_of⟩)
    (c_matter_of : PySem.W.codeIn K cd_matter_of "matter_of" = true)
    (k_matter_of : PySem.W.keepIn K (.ref f_matter_of) = true)
    {od_law_is_refused an_law_is_refused : Option Addr} {sl_law_is_refused : Array (Option Value)} {oc_law_is_refused kV_law_is_refused dc_law_is_refused pm_law_is_refused cd_law_is_refused ct_law_is_refused : Value} {f_law_is_refused : Addr}
    (a_law_is_refused : PySem.W.nsIn K mainGlobals "_law_is_refused" = some (some (.ref f_law_is_refused)))
    (l_law_is_refused : K.lookup f_law_is_refused = some ⟨oc_law_is_refused, od_law_is_refused, .func (PySem.W.fnOf "_law_is_refused" "_law_is_refused" (defArgs s_law_is_refused) (defBody s_law_is_refused) (defScope s_law_is_refused) .none kV_law_is_refused dc_law_is_refused pm_law_is_refused an_law_is_refused cd_law_is_refused ct_law_is_refused), sl_law_is_refused⟩)
    (c_law_is_refused : PySem.W.codeIn K cd_law_is_refused "_law_is_refused" = true)
    (k_law_is_refused : PySem.W.keepIn K (.ref f_law_is_refused) = true)
    {C_HandError : Addr}
    (a_HandError : PySem.W.nsIn K mainGlobals "HandError" = some (some (.ref C_HandError)))
    (hne : PySem.W.specialIn K (.builtin "object.__class__") "__get__" = some (some (.builtin "getset_descriptor.__get__")))
    (htke : PySem.W.takesIn K (.builtin "object.__class__") = some true)
    {C_BadRun N_BadRun : Addr} {nm_BadRun q_BadRun : Str} {bs_BadRun bm_BadRun sub_BadRun : List Value} {sn_BadRun : List Str} {ab_BadRun : Bool} {col_BadRun : Option Bool} {dd_BadRun : Option Addr} {m0_BadRun m1_BadRun m2_BadRun m3_BadRun m5_BadRun : Option Value}
    (a_BadRun : PySem.W.nsIn K mainGlobals "BadRun" = some (some (.ref C_BadRun)))
    {od_HandError_init an_HandError_init : Option Addr} {sl_HandError_init : Array (Option Value)} {oc_HandError_init kV_HandError_init dc_HandError_init pm_HandError_init cd_HandError_init ct_HandError_init : Value} {f_HandError_init : Addr}
    (x_BadRun : K.lookup C_BadRun = some (PySem.excClassObj nm_BadRun q_BadRun C_BadRun N_BadRun bs_BadRun bm_BadRun true sn_BadRun sub_BadRun ab_BadRun col_BadRun dd_BadRun m0_BadRun m1_BadRun m2_BadRun m3_BadRun m5_BadRun "ValueError.__new__"))
    (rv_BadRun : PySem.HandSPX.refsVE bm_BadRun = true)
    (sae_BadRun : PySem.W.findIn K (.ref C_BadRun) "__setattr__" = some (some (.builtin "object.__setattr__")))
    (gae_BadRun : PySem.W.findIn K (.ref C_BadRun) "__getattribute__" = some (some (.builtin "BaseException.__getattribute__")))
    (gge_BadRun : PySem.W.findIn K (.ref C_BadRun) "__getattr__" = some none)
    (nve_BadRun : PySem.W.findIn K (.ref C_BadRun) "value" = some none)
    (ine_BadRun : PySem.W.findIn K (.ref C_BadRun) "__init__" = some (some (.ref f_HandError_init)))
    (cce_BadRun : PySem.W.findIn K (.ref C_BadRun) "__class__" = some (some (.builtin "object.__class__")))
    (l_HandError_init : K.lookup f_HandError_init = some ⟨oc_HandError_init, od_HandError_init, .func (PySem.W.fnOf "__init__" "HandError.__init__" (defArgs s_HandError_init) (defBody s_HandError_init) (defScope s_HandError_init) .none kV_HandError_init dc_HandError_init pm_HandError_init an_HandError_init cd_HandError_init ct_HandError_init), sl_HandError_init⟩)
    (c_HandError_init : PySem.W.codeIn K cd_HandError_init "HandError.__init__" = true)
    (k_HandError_init : PySem.W.keepIn K (.ref f_HandError_init) = true)
    (kCe_BadRun : PySem.W.keepIn K (.ref C_BadRun) = true)
    (eCe_BadRun : PySem.W.subIn K (.ref C_BadRun) (.type "BaseException") = some true)
    (tCe_BadRun : PySem.W.typeIn K (.ref C_BadRun) = some (.type "type"))
    (hCe_BadRun : PySem.W.hasDictIn K C_BadRun = true)
    (mre_BadRun : PySem.W.mroIn K C_BadRun (.type "object") = some true)
    (ti_HandError_init : PySem.W.typeIn K (.ref f_HandError_init) = some (.type "function"))
    {C_BadText N_BadText : Addr} {nm_BadText q_BadText : Str} {bs_BadText bm_BadText sub_BadText : List Value} {sn_BadText : List Str} {ab_BadText : Bool} {col_BadText : Option Bool} {dd_BadText : Option Addr} {m0_BadText m1_BadText m2_BadText m3_BadText m5_BadText : Option Value}
    (a_BadText : PySem.W.nsIn K mainGlobals "BadText" = some (some (.ref C_BadText)))
    (x_BadText : K.lookup C_BadText = some (PySem.excClassObj nm_BadText q_BadText C_BadText N_BadText bs_BadText bm_BadText true sn_BadText sub_BadText ab_BadText col_BadText dd_BadText m0_BadText m1_BadText m2_BadText m3_BadText m5_BadText "ValueError.__new__"))
    (rv_BadText : PySem.HandSPX.refsVE bm_BadText = true)
    (sae_BadText : PySem.W.findIn K (.ref C_BadText) "__setattr__" = some (some (.builtin "object.__setattr__")))
    (gae_BadText : PySem.W.findIn K (.ref C_BadText) "__getattribute__" = some (some (.builtin "BaseException.__getattribute__")))
    (gge_BadText : PySem.W.findIn K (.ref C_BadText) "__getattr__" = some none)
    (nve_BadText : PySem.W.findIn K (.ref C_BadText) "value" = some none)
    (ine_BadText : PySem.W.findIn K (.ref C_BadText) "__init__" = some (some (.ref f_HandError_init)))
    (cce_BadText : PySem.W.findIn K (.ref C_BadText) "__class__" = some (some (.builtin "object.__class__")))
    (kCe_BadText : PySem.W.keepIn K (.ref C_BadText) = true)
    (eCe_BadText : PySem.W.subIn K (.ref C_BadText) (.type "BaseException") = some true)
    (tCe_BadText : PySem.W.typeIn K (.ref C_BadText) = some (.type "type"))
    (hCe_BadText : PySem.W.hasDictIn K C_BadText = true)
    (mre_BadText : PySem.W.mroIn K C_BadText (.type "object") = some true)
    (eh_0 : PySem.W.exmOne K (.ref C_BadRun) (.ref C_HandError) = some true)
    (e_0_0 : PySem.W.exmOne K (.ref C_BadRun) (.ref C_BadRun) = some true)
    (e_0_1 : PySem.W.exmOne K (.ref C_BadRun) (.ref C_BadText) = some false)
    (eh_1 : PySem.W.exmOne K (.ref C_BadText) (.ref C_HandError) = some true)
    (e_1_0 : PySem.W.exmOne K (.ref C_BadText) (.ref C_BadRun) = some false)
    (e_1_1 : PySem.W.exmOne K (.ref C_BadText) (.ref C_BadText) = some true)
    {od_law_caught an_law_caught : Option Addr} {sl_law_caught : Array (Option Value)} {oc_law_caught kV_law_caught dc_law_caught pm_law_caught cd_law_caught ct_law_caught : Value} {f_law_caught : Addr}
    (a_law_caught : PySem.W.nsIn K mainGlobals "_law_caught" = some (some (.ref f_law_caught)))
    (l_law_caught : K.lookup f_law_caught = some ⟨oc_law_caught, od_law_caught, .func (PySem.W.fnOf "_law_caught" "_law_caught" (defArgs s_law_caught) (defBody s_law_caught) (defScope s_law_caught) .none kV_law_caught dc_law_caught pm_law_caught an_law_caught cd_law_caught ct_law_caught), sl_law_caught⟩)
    (c_law_caught : PySem.W.codeIn K cd_law_caught "_law_caught" = true)
    (k_law_caught : PySem.W.keepIn K (.ref f_law_caught) = true)
    {od_law_word an_law_word : Option Addr} {sl_law_word : Array (Option Value)} {oc_law_word kV_law_word dc_law_word pm_law_word cd_law_word ct_law_word : Value} {f_law_word : Addr}
    (a_law_word : PySem.W.nsIn K mainGlobals "_law_word" = some (some (.ref f_law_word)))
    (l_law_word : K.lookup f_law_word = some ⟨oc_law_word, od_law_word, .func (PySem.W.fnOf "_law_word" "_law_word" (defArgs s_law_word) (defBody s_law_word) (defScope s_law_word) .none kV_law_word dc_law_word pm_law_word an_law_word cd_law_word ct_law_word), sl_law_word⟩)
    (c_law_word : PySem.W.codeIn K cd_law_word "_law_word" = true)
    (k_law_word : PySem.W.keepIn K (.ref f_law_word) = true)
    {od_law_some an_law_some : Option Addr} {sl_law_some : Array (Option Value)} {oc_law_some kV_law_some dc_law_some pm_law_some cd_law_some ct_law_some : Value} {f_law_some : Addr}
    (a_law_some : PySem.W.nsIn K mainGlobals "_law_some" = some (some (.ref f_law_some)))
    (l_law_some : K.lookup f_law_some = some ⟨oc_law_some, od_law_some, .func (PySem.W.fnOf "_law_some" "_law_some" (defArgs s_law_some) (defBody s_law_some) (defScope s_law_some) .none kV_law_some dc_law_some pm_law_some an_law_some cd_law_some ct_law_some), sl_law_some⟩)
    (c_law_some : PySem.W.codeIn K cd_law_some "_law_some" = true)
    (k_law_some : PySem.W.keepIn K (.ref f_law_some) = true) :
    LawAtT l w K CX0 22 63 "script" ["_law_are_refused", "_law_right"] mg fa := by
  have e := hfa.symm.trans (PySem.W.mg_of X G a_law)
  cases e
  have F_law_are_refused := fun_mk (st := s_law_are_refused) l_law_are_refused c_law_are_refused k_law_are_refused
  have b_law_are_refused := F_law_are_refused.binds (ps := ["pot", "run"]) fun _ _ _ _ _ _ us hl => match us, hl with | [_, _], _ => rfl
  have F_law_right := fun_mk (st := s_law_right) l_law_right c_law_right k_law_right
  have b_law_right := F_law_right.binds (ps := ["pot"]) fun _ _ _ _ _ _ us hl => match us, hl with | [_], _ => rfl
  have F_law := fun_mk (st := s_law) l_law c_law k_law
  have b_law := F_law.binds (ps := ["script"]) fun _ _ _ _ _ _ us hl => match us, hl with | [_], _ => rfl
  have F_law_cells := fun_mk (st := s_law_cells) l_law_cells c_law_cells k_law_cells
  have b_law_cells := F_law_cells.binds (ps := ["script", "limit"]) fun _ _ _ _ _ _ us hl => match us, hl with | [_, _], _ => rfl
  have F_law_pot := fun_mk (st := s_law_pot) l_law_pot c_law_pot k_law_pot
  have b_law_pot := F_law_pot.binds (ps := ["script", "place"]) fun _ _ _ _ _ _ us hl => match us, hl with | [_, _], _ => rfl
  have F_law_take := fun_mk (st := s_law_take) l_law_take c_law_take k_law_take
  have b_law_take := F_law_take.binds (ps := ["pot", "upto"]) fun _ _ _ _ _ _ us hl => match us, hl with | [_, _], _ => rfl
  have F_law_drawn_step := fun_mk (st := s_law_drawn_step) l_law_drawn_step c_law_drawn_step k_law_drawn_step
  have b_law_drawn_step := F_law_drawn_step.binds (ps := ["pot"]) fun _ _ _ _ _ _ us hl => match us, hl with | [_], _ => rfl
  have F_law_of := fun_mk (st := s_law_of) l_law_of c_law_of k_law_of
  have b_law_of := F_law_of.binds (ps := ["pot", "some"]) fun _ _ _ _ _ _ us hl => match us, hl with | [_, _], _ => rfl
  have F_law_drawn_value := fun_mk (st := s_law_drawn_value) l_law_drawn_value c_law_drawn_value k_law_drawn_value
  have b_law_drawn_value := F_law_drawn_value.binds (ps := ["pot", "deep"]) fun _ _ _ _ _ _ us hl => match us, hl with | [_, _], _ => rfl
  have F_law_line := fun_mk (st := s_law_line) l_law_line c_law_line k_law_line
  have b_law_line := F_law_line.binds (ps := ["step"]) fun _ _ _ _ _ _ us hl => match us, hl with | [_], _ => rfl
  have F_law_value_text := fun_mk (st := s_law_value_text) l_law_value_text c_law_value_text k_law_value_text
  have b_law_value_text := F_law_value_text.binds (ps := ["value"]) fun _ _ _ _ _ _ us hl => match us, hl with | [_], _ => rfl
  have F_law_wrong_line := fun_mk (st := s_law_wrong_line) l_law_wrong_line c_law_wrong_line k_law_wrong_line
  have b_law_wrong_line := F_law_wrong_line.binds (ps := ["pot"]) fun _ _ _ _ _ _ us hl => match us, hl with | [_], _ => rfl
  have F_run_text := fun_mk (st := s_run_text) l_run_text c_run_text k_run_text
  have b_run_text := F_run_text.binds (ps := ["run"]) fun _ _ _ _ _ _ us hl => match us, hl with | [_], _ => rfl
  have F_are_steps := fun_mk (st := s_are_steps) l_are_steps c_are_steps k_are_steps
  have b_are_steps := F_are_steps.binds (ps := ["value"]) fun _ _ _ _ _ _ us hl => match us, hl with | [_], _ => rfl
  have F_is_step := fun_mk (st := s_is_step) l_is_step c_is_step k_is_step
  have b_is_step := F_is_step.binds (ps := ["value"]) fun _ _ _ _ _ _ us hl => match us, hl with | [_], _ => rfl
  have F_is_below := fun_mk (st := s_is_below) l_is_below c_is_below k_is_below
  have b_is_below := F_is_below.binds (ps := ["value", "many"]) fun _ _ _ _ _ _ us hl => match us, hl with | [_, _], _ => rfl
  have F_is_whole := fun_mk (st := s_is_whole) l_is_whole c_is_whole k_is_whole
  have b_is_whole := F_is_whole.binds (ps := ["value"]) fun _ _ _ _ _ _ us hl => match us, hl with | [_], _ => rfl
  have F_is_matter := fun_mk (st := s_is_matter) l_is_matter c_is_matter k_is_matter
  have b_is_matter := F_is_matter.binds (ps := ["kind", "matter"]) fun _ _ _ _ _ _ us hl => match us, hl with | [_, _], _ => rfl
  have F_is_value := fun_mk (st := s_is_value) l_is_value c_is_value k_is_value
  have b_is_value := F_is_value.binds (ps := ["value"]) fun _ _ _ _ _ _ us hl => match us, hl with | [_], _ => rfl
  have F_is_word := fun_mk (st := s_is_word) l_is_word c_is_word k_is_word
  have b_is_word := F_is_word.binds (ps := ["value"]) fun _ _ _ _ _ _ us hl => match us, hl with | [_], _ => rfl
  have F_is_box_word := fun_mk (st := s_is_box_word) l_is_box_word c_is_box_word k_is_box_word
  have b_is_box_word := F_is_box_word.binds (ps := ["matter"]) fun _ _ _ _ _ _ us hl => match us, hl with | [_], _ => rfl
  have F_step_text := fun_mk (st := s_step_text) l_step_text c_step_text k_step_text
  have b_step_text := F_step_text.binds (ps := ["step"]) fun _ _ _ _ _ _ us hl => match us, hl with | [_], _ => rfl
  have F_value_text := fun_mk (st := s_value_text) l_value_text c_value_text k_value_text
  have b_value_text := F_value_text.binds (ps := ["value"]) fun _ _ _ _ _ _ us hl => match us, hl with | [_], _ => rfl
  have F_run_in := fun_mk (st := s_run_in) l_run_in c_run_in k_run_in
  have b_run_in := F_run_in.binds (ps := ["text"]) fun _ _ _ _ _ _ us hl => match us, hl with | [_], _ => rfl
  have F_step_in := fun_mk (st := s_step_in) l_step_in c_step_in k_step_in
  have b_step_in := F_step_in.binds (ps := ["line"]) fun _ _ _ _ _ _ us hl => match us, hl with | [_], _ => rfl
  have F_values_in := fun_mk (st := s_values_in) l_values_in c_values_in k_values_in
  have b_values_in := F_values_in.binds (ps := ["words"]) fun _ _ _ _ _ _ us hl => match us, hl with | [_], _ => rfl
  have F_integer_in := fun_mk (st := s_integer_in) l_integer_in c_integer_in k_integer_in
  have b_integer_in := F_integer_in.binds (ps := ["word"]) fun _ _ _ _ _ _ us hl => match us, hl with | [_], _ => rfl
  have F_matter_of := fun_mk (st := s_matter_of) l_matter_of c_matter_of k_matter_of
  have b_matter_of := F_matter_of.binds (ps := ["kind", "things"]) fun _ _ _ _ _ _ us hl => match us, hl with | [_, _], _ => rfl
  have F_law_is_refused := fun_mk (st := s_law_is_refused) l_law_is_refused c_law_is_refused k_law_is_refused
  have b_law_is_refused := F_law_is_refused.binds (ps := ["call", "word", "value"]) fun _ _ _ _ _ _ us hl => match us, hl with | [_, _, _], _ => rfl
  have F_HandError_init := fun_mk (st := s_HandError_init) l_HandError_init c_HandError_init k_HandError_init
  have b_HandError_init := F_HandError_init.binds (ps := ["self", "value"]) fun _ _ _ _ _ _ us hl => match us, hl with | [_, _], _ => rfl
  have F_law_caught := fun_mk (st := s_law_caught) l_law_caught c_law_caught k_law_caught
  have b_law_caught := F_law_caught.binds (ps := ["call"]) fun _ _ _ _ _ _ us hl => match us, hl with | [_], _ => rfl
  have F_law_word := fun_mk (st := s_law_word) l_law_word c_law_word k_law_word
  have b_law_word := F_law_word.binds (ps := ["error"]) fun _ _ _ _ _ _ us hl => match us, hl with | [_], _ => rfl
  have F_law_some := fun_mk (st := s_law_some) l_law_some c_law_some k_law_some
  have b_law_some := F_law_some.binds (ps := ["pot", "pool", "many"]) fun _ _ _ _ _ _ us hl => match us, hl with | [_, _, _], _ => rfl
  have hTab0 : PySem.W.tabIn K "_law_are_refused" = some (cR0, P0) := by
    unfold PySem.W.tabIn
    rw [a_law_are_refused]
    dsimp only
    rw [l_law_are_refused]
    dsimp only [PySem.W.fnOf]
    rw [hcd0]
    dsimp only
    rw [hco0]
    dsimp only
    rw [h11_0]
  have hTab1 : PySem.W.tabIn K "_law_right" = some (cR1, P1) := by
    unfold PySem.W.tabIn
    rw [a_law_right]
    dsimp only
    rw [l_law_right]
    dsimp only [PySem.W.fnOf]
    rw [hcd1]
    dsimp only
    rw [hco1]
    dsimp only
    rw [h11_1]
  refine ⟨PySem.W.fnOf "law" "law" (defArgs s_law) (defBody s_law) (defScope s_law) .none kV_law dc_law pm_law an_law cd_law ct_law, [(cR0, P0), (cR1, P1)], (spLawT K P0 P1), fun p hp => ?_, fun p hp => ?_, fun s v => .of_eq rfl,
    fun H a ns hl hH _ hS => ⟨a, ns, rfl, hS, hl, fun p hp => ?_, fun _ => rfl⟩, fun base _ _ hTB => ?_⟩
  · simp only [List.mem_cons, List.not_mem_nil, or_false] at hp
    rcases hp with rfl | rfl
    · exact ⟨"_law_are_refused", by simp, hTab0⟩
    · exact ⟨"_law_right", by simp, hTab1⟩
  · simp only [List.mem_cons, List.not_mem_nil, or_false] at hp
    rcases hp with rfl | rfl
    · exact nT0
    · exact nT1
  · simp only [T12, List.mem_cons, List.not_mem_nil, or_false] at hp
    rcases hp with rfl | rfl
    · exact LamX.TabS.nil (hH (cR0, P0) (by simp))
    · exact LamX.TabS.nil (hH (cR1, P1) (by simp))
  have g1 : Fd l.prog w K mg base CX0 "_law_cells" 1 ["script", "limit"] (spCells K) := ⟨_, _, (PySem.W.mg_of X G a_law_cells), k_law_cells, b_law_cells, ok_law_cells F_law_cells ⟨(PySem.W.mg_none_of X G z_len), (PySem.W.mg_none_of X G z_int), (PySem.W.mg_none_of X G z_sum), (PySem.W.mg_none_of X G z_abs), (PySem.W.mg_none_of X G z_list), (PySem.W.mg_none_of X G z_tuple), (PySem.W.mg_none_of X G z_range), (PySem.W.mg_none_of X G z_max), (PySem.W.mg_none_of X G z_min), (PySem.W.mg_none_of X G z_repr), (PySem.W.mg_none_of X G z_all), (PySem.W.mg_none_of X G z_enumerate)⟩⟩
  have g2 : Fd l.prog w K mg base CX0 "_law_pot" 1 ["script", "place"] (spPot K) := ⟨_, _, (PySem.W.mg_of X G a_law_pot), k_law_pot, b_law_pot, ok_law_pot F_law_pot ⟨(PySem.W.mg_none_of X G z_len), (PySem.W.mg_none_of X G z_int), (PySem.W.mg_none_of X G z_sum), (PySem.W.mg_none_of X G z_abs), (PySem.W.mg_none_of X G z_list), (PySem.W.mg_none_of X G z_tuple), (PySem.W.mg_none_of X G z_range), (PySem.W.mg_none_of X G z_max), (PySem.W.mg_none_of X G z_min), (PySem.W.mg_none_of X G z_repr), (PySem.W.mg_none_of X G z_all), (PySem.W.mg_none_of X G z_enumerate)⟩⟩
  have g3 : Fd l.prog w K mg base CX0 "_law_take" 1 ["pot", "upto"] spTake := ⟨_, _, (PySem.W.mg_of X G a_law_take), k_law_take, b_law_take, ok_law_take F_law_take ⟨(PySem.W.mg_none_of X G z_len), (PySem.W.mg_none_of X G z_int), (PySem.W.mg_none_of X G z_sum), (PySem.W.mg_none_of X G z_abs), (PySem.W.mg_none_of X G z_list), (PySem.W.mg_none_of X G z_tuple), (PySem.W.mg_none_of X G z_range), (PySem.W.mg_none_of X G z_max), (PySem.W.mg_none_of X G z_min), (PySem.W.mg_none_of X G z_repr), (PySem.W.mg_none_of X G z_all), (PySem.W.mg_none_of X G z_enumerate)⟩⟩
  have g4 : Fd l.prog w K mg base CX0 "_law_of" 2 ["pot", "some"] (spOf K) := ⟨_, _, (PySem.W.mg_of X G a_law_of), k_law_of, b_law_of, ok_law_of F_law_of ⟨(PySem.W.mg_none_of X G z_len), (PySem.W.mg_none_of X G z_int), (PySem.W.mg_none_of X G z_sum), (PySem.W.mg_none_of X G z_abs), (PySem.W.mg_none_of X G z_list), (PySem.W.mg_none_of X G z_tuple), (PySem.W.mg_none_of X G z_range), (PySem.W.mg_none_of X G z_max), (PySem.W.mg_none_of X G z_min), (PySem.W.mg_none_of X G z_repr), (PySem.W.mg_none_of X G z_all), (PySem.W.mg_none_of X G z_enumerate)⟩ g3⟩
  have g5 : Fd l.prog w K mg base CX0 "_law_drawn_value" 7 ["pot", "deep"] (spDV 4) := all_law_drawn_value F_law_drawn_value b_law_drawn_value (PySem.W.mg_of X G a_law_drawn_value) ⟨(PySem.W.mg_none_of X G z_isinstance), (PySem.W.mg_none_of X G z_int), (PySem.W.mg_none_of X G z_bool), (PySem.W.mg_none_of X G z_tuple), (PySem.W.mg_none_of X G z_list), (PySem.W.mg_none_of X G z_all), (PySem.W.mg_none_of X G z_len), (PySem.W.mg_none_of X G z_range), (PySem.W.mg_none_of X G z_repr), (PySem.W.mg_none_of X G z_enumerate), (PySem.W.mg_none_of X G z_str), ⟨_, (PySem.W.mg_of X G v_FIGURES)⟩, ⟨_, (PySem.W.mg_of X G v_MOST_FIGURES)⟩, ⟨_, (PySem.W.mg_of X G v_MOST_HANDS)⟩⟩ g3 g4 4
  have g6 : Fd l.prog w K mg base CX0 "_law_drawn_step" 8 ["pot"] spDStep := ⟨_, _, (PySem.W.mg_of X G a_law_drawn_step), k_law_drawn_step, b_law_drawn_step, ok_law_drawn_step F_law_drawn_step ⟨(PySem.W.mg_none_of X G z_isinstance), (PySem.W.mg_none_of X G z_int), (PySem.W.mg_none_of X G z_bool), (PySem.W.mg_none_of X G z_tuple), (PySem.W.mg_none_of X G z_list), (PySem.W.mg_none_of X G z_all), (PySem.W.mg_none_of X G z_len), (PySem.W.mg_none_of X G z_range), (PySem.W.mg_none_of X G z_repr), (PySem.W.mg_none_of X G z_enumerate), (PySem.W.mg_none_of X G z_str), ⟨_, (PySem.W.mg_of X G v_FIGURES)⟩, ⟨_, (PySem.W.mg_of X G v_MOST_FIGURES)⟩, ⟨_, (PySem.W.mg_of X G v_MOST_HANDS)⟩⟩ g3 g4 g5⟩
  have g7 : Fd l.prog w K mg base CX0 "_law_value_text" 5 ["value"] (spVT 4) := all_law_value_text F_law_value_text b_law_value_text (PySem.W.mg_of X G a_law_value_text) ⟨(PySem.W.mg_none_of X G z_isinstance), (PySem.W.mg_none_of X G z_int), (PySem.W.mg_none_of X G z_bool), (PySem.W.mg_none_of X G z_tuple), (PySem.W.mg_none_of X G z_list), (PySem.W.mg_none_of X G z_all), (PySem.W.mg_none_of X G z_len), (PySem.W.mg_none_of X G z_range), (PySem.W.mg_none_of X G z_repr), (PySem.W.mg_none_of X G z_enumerate), (PySem.W.mg_none_of X G z_str), ⟨_, (PySem.W.mg_of X G v_FIGURES)⟩, ⟨_, (PySem.W.mg_of X G v_MOST_FIGURES)⟩, ⟨_, (PySem.W.mg_of X G v_MOST_HANDS)⟩⟩ 4
  have g8 : Fd l.prog w K mg base CX0 "_law_line" 6 ["step"] spLine := ⟨_, _, (PySem.W.mg_of X G a_law_line), k_law_line, b_law_line, ok_law_line F_law_line ⟨(PySem.W.mg_none_of X G z_isinstance), (PySem.W.mg_none_of X G z_int), (PySem.W.mg_none_of X G z_bool), (PySem.W.mg_none_of X G z_tuple), (PySem.W.mg_none_of X G z_list), (PySem.W.mg_none_of X G z_all), (PySem.W.mg_none_of X G z_len), (PySem.W.mg_none_of X G z_range), (PySem.W.mg_none_of X G z_repr), (PySem.W.mg_none_of X G z_enumerate), (PySem.W.mg_none_of X G z_str), ⟨_, (PySem.W.mg_of X G v_FIGURES)⟩, ⟨_, (PySem.W.mg_of X G v_MOST_FIGURES)⟩, ⟨_, (PySem.W.mg_of X G v_MOST_HANDS)⟩⟩ g7⟩
  have g9 : Fd l.prog w K mg base CX0 "_law_wrong_line" 3 ["pot"] spWrong := ⟨_, _, (PySem.W.mg_of X G a_law_wrong_line), k_law_wrong_line, b_law_wrong_line, ok_law_wrong_line F_law_wrong_line ⟨(PySem.W.mg_none_of X G z_isinstance), (PySem.W.mg_none_of X G z_int), (PySem.W.mg_none_of X G z_bool), (PySem.W.mg_none_of X G z_tuple), (PySem.W.mg_none_of X G z_list), (PySem.W.mg_none_of X G z_all), (PySem.W.mg_none_of X G z_len), (PySem.W.mg_none_of X G z_range), (PySem.W.mg_none_of X G z_repr), (PySem.W.mg_none_of X G z_enumerate), (PySem.W.mg_none_of X G z_str), ⟨_, (PySem.W.mg_of X G v_FIGURES)⟩, ⟨_, (PySem.W.mg_of X G v_MOST_FIGURES)⟩, ⟨_, (PySem.W.mg_of X G v_MOST_HANDS)⟩⟩ g4⟩
  have g10 : Fd l.prog w K mg base CX0 "is_whole" 1 ["value"] spWhA := ⟨_, _, (PySem.W.mg_of X G a_is_whole), k_is_whole, b_is_whole, ok_is_whole F_is_whole ⟨(PySem.W.mg_none_of X G z_isinstance), (PySem.W.mg_none_of X G z_int), (PySem.W.mg_none_of X G z_bool), (PySem.W.mg_none_of X G z_tuple), (PySem.W.mg_none_of X G z_list), (PySem.W.mg_none_of X G z_all), (PySem.W.mg_none_of X G z_len), (PySem.W.mg_none_of X G z_range), (PySem.W.mg_none_of X G z_repr), (PySem.W.mg_none_of X G z_enumerate), (PySem.W.mg_none_of X G z_str), ⟨_, (PySem.W.mg_of X G v_FIGURES)⟩, ⟨_, (PySem.W.mg_of X G v_MOST_FIGURES)⟩, ⟨_, (PySem.W.mg_of X G v_MOST_HANDS)⟩⟩⟩
  have g11 : Fd l.prog w K mg base CX0 "is_below" 2 ["value", "many"] spBelA := ⟨_, _, (PySem.W.mg_of X G a_is_below), k_is_below, b_is_below, ok_is_below F_is_below g10⟩
  have g12 : Fd l.prog w K mg base CX0 "is_value" 2 ["value"] spValA := ⟨_, _, (PySem.W.mg_of X G a_is_value), k_is_value, b_is_value, ok_is_value F_is_value ⟨(PySem.W.mg_none_of X G z_isinstance), (PySem.W.mg_none_of X G z_int), (PySem.W.mg_none_of X G z_bool), (PySem.W.mg_none_of X G z_tuple), (PySem.W.mg_none_of X G z_list), (PySem.W.mg_none_of X G z_all), (PySem.W.mg_none_of X G z_len), (PySem.W.mg_none_of X G z_range), (PySem.W.mg_none_of X G z_repr), (PySem.W.mg_none_of X G z_enumerate), (PySem.W.mg_none_of X G z_str), ⟨_, (PySem.W.mg_of X G v_FIGURES)⟩, ⟨_, (PySem.W.mg_of X G v_MOST_FIGURES)⟩, ⟨_, (PySem.W.mg_of X G v_MOST_HANDS)⟩⟩ g10⟩
  have g13 : Fd l.prog w K mg base CX0 "is_word" 2 ["value"] spWordA := ⟨_, _, (PySem.W.mg_of X G a_is_word), k_is_word, b_is_word, ok_is_word F_is_word g10⟩
  have g14 : Fd l.prog w K mg base CX0 "is_box_word" 3 ["matter"] spBoxA := ⟨_, _, (PySem.W.mg_of X G a_is_box_word), k_is_box_word, b_is_box_word, ok_is_box_word F_is_box_word ⟨(PySem.W.mg_none_of X G z_isinstance), (PySem.W.mg_none_of X G z_int), (PySem.W.mg_none_of X G z_bool), (PySem.W.mg_none_of X G z_tuple), (PySem.W.mg_none_of X G z_list), (PySem.W.mg_none_of X G z_all), (PySem.W.mg_none_of X G z_len), (PySem.W.mg_none_of X G z_range), (PySem.W.mg_none_of X G z_repr), (PySem.W.mg_none_of X G z_enumerate), (PySem.W.mg_none_of X G z_str), ⟨_, (PySem.W.mg_of X G v_FIGURES)⟩, ⟨_, (PySem.W.mg_of X G v_MOST_FIGURES)⟩, ⟨_, (PySem.W.mg_of X G v_MOST_HANDS)⟩⟩ g11 g13⟩
  have g15 : Fd l.prog w K mg base CX0 "is_matter" 4 ["kind", "matter"] spMatA := ⟨_, _, (PySem.W.mg_of X G a_is_matter), k_is_matter, b_is_matter, ok_is_matter F_is_matter ⟨(PySem.W.mg_none_of X G z_isinstance), (PySem.W.mg_none_of X G z_int), (PySem.W.mg_none_of X G z_bool), (PySem.W.mg_none_of X G z_tuple), (PySem.W.mg_none_of X G z_list), (PySem.W.mg_none_of X G z_all), (PySem.W.mg_none_of X G z_len), (PySem.W.mg_none_of X G z_range), (PySem.W.mg_none_of X G z_repr), (PySem.W.mg_none_of X G z_enumerate), (PySem.W.mg_none_of X G z_str), ⟨_, (PySem.W.mg_of X G v_FIGURES)⟩, ⟨_, (PySem.W.mg_of X G v_MOST_FIGURES)⟩, ⟨_, (PySem.W.mg_of X G v_MOST_HANDS)⟩⟩ g12 g13 g14⟩
  have g16 : Fd l.prog w K mg base CX0 "is_step" 5 ["value"] spStepA := ⟨_, _, (PySem.W.mg_of X G a_is_step), k_is_step, b_is_step, ok_is_step F_is_step ⟨(PySem.W.mg_none_of X G z_isinstance), (PySem.W.mg_none_of X G z_int), (PySem.W.mg_none_of X G z_bool), (PySem.W.mg_none_of X G z_tuple), (PySem.W.mg_none_of X G z_list), (PySem.W.mg_none_of X G z_all), (PySem.W.mg_none_of X G z_len), (PySem.W.mg_none_of X G z_range), (PySem.W.mg_none_of X G z_repr), (PySem.W.mg_none_of X G z_enumerate), (PySem.W.mg_none_of X G z_str), ⟨_, (PySem.W.mg_of X G v_FIGURES)⟩, ⟨_, (PySem.W.mg_of X G v_MOST_FIGURES)⟩, ⟨_, (PySem.W.mg_of X G v_MOST_HANDS)⟩⟩ g11 g15⟩
  have g17 : Fd l.prog w K mg base CX0 "are_steps" 6 ["value"] spStepsA := ⟨_, _, (PySem.W.mg_of X G a_are_steps), k_are_steps, b_are_steps, ok_are_steps F_are_steps ⟨(PySem.W.mg_none_of X G z_isinstance), (PySem.W.mg_none_of X G z_int), (PySem.W.mg_none_of X G z_bool), (PySem.W.mg_none_of X G z_tuple), (PySem.W.mg_none_of X G z_list), (PySem.W.mg_none_of X G z_all), (PySem.W.mg_none_of X G z_len), (PySem.W.mg_none_of X G z_range), (PySem.W.mg_none_of X G z_repr), (PySem.W.mg_none_of X G z_enumerate), (PySem.W.mg_none_of X G z_str), ⟨_, (PySem.W.mg_of X G v_FIGURES)⟩, ⟨_, (PySem.W.mg_of X G v_MOST_FIGURES)⟩, ⟨_, (PySem.W.mg_of X G v_MOST_HANDS)⟩⟩ g16⟩
  have g18 : Fd l.prog w K mg base CX0 "value_text" 1 ["value"] spValTxt := ⟨_, _, (PySem.W.mg_of X G a_value_text), k_value_text, b_value_text, ok_value_text F_value_text ⟨(PySem.W.mg_none_of X G z_isinstance), (PySem.W.mg_none_of X G z_int), (PySem.W.mg_none_of X G z_bool), (PySem.W.mg_none_of X G z_tuple), (PySem.W.mg_none_of X G z_list), (PySem.W.mg_none_of X G z_all), (PySem.W.mg_none_of X G z_len), (PySem.W.mg_none_of X G z_range), (PySem.W.mg_none_of X G z_repr), (PySem.W.mg_none_of X G z_enumerate), (PySem.W.mg_none_of X G z_str), ⟨_, (PySem.W.mg_of X G v_FIGURES)⟩, ⟨_, (PySem.W.mg_of X G v_MOST_FIGURES)⟩, ⟨_, (PySem.W.mg_of X G v_MOST_HANDS)⟩⟩⟩
  have g19 : Fd l.prog w K mg base CX0 "step_text" 2 ["step"] spStepTxt := ⟨_, _, (PySem.W.mg_of X G a_step_text), k_step_text, b_step_text, ok_step_text F_step_text ⟨(PySem.W.mg_none_of X G z_isinstance), (PySem.W.mg_none_of X G z_int), (PySem.W.mg_none_of X G z_bool), (PySem.W.mg_none_of X G z_tuple), (PySem.W.mg_none_of X G z_list), (PySem.W.mg_none_of X G z_all), (PySem.W.mg_none_of X G z_len), (PySem.W.mg_none_of X G z_range), (PySem.W.mg_none_of X G z_repr), (PySem.W.mg_none_of X G z_enumerate), (PySem.W.mg_none_of X G z_str), ⟨_, (PySem.W.mg_of X G v_FIGURES)⟩, ⟨_, (PySem.W.mg_of X G v_MOST_FIGURES)⟩, ⟨_, (PySem.W.mg_of X G v_MOST_HANDS)⟩⟩ g18⟩
  have g20 : Fd l.prog w K mg base CX0 "run_text" 7 ["run"] spRunTxt := ⟨_, _, (PySem.W.mg_of X G a_run_text), k_run_text, b_run_text, ok_run_text F_run_text ⟨(PySem.W.mg_none_of X G z_isinstance), (PySem.W.mg_none_of X G z_int), (PySem.W.mg_none_of X G z_bool), (PySem.W.mg_none_of X G z_tuple), (PySem.W.mg_none_of X G z_list), (PySem.W.mg_none_of X G z_all), (PySem.W.mg_none_of X G z_len), (PySem.W.mg_none_of X G z_range), (PySem.W.mg_none_of X G z_repr), (PySem.W.mg_none_of X G z_enumerate), (PySem.W.mg_none_of X G z_str), ⟨_, (PySem.W.mg_of X G v_FIGURES)⟩, ⟨_, (PySem.W.mg_of X G v_MOST_FIGURES)⟩, ⟨_, (PySem.W.mg_of X G v_MOST_HANDS)⟩⟩ g17 g19⟩
  have g21 : Fd l.prog w K mg base CX0 "integer_in" 1 ["word"] spIntIn := ⟨_, _, (PySem.W.mg_of X G a_integer_in), k_integer_in, b_integer_in, ok_integer_in F_integer_in ⟨(PySem.W.mg_none_of X G z_isinstance), (PySem.W.mg_none_of X G z_int), (PySem.W.mg_none_of X G z_bool), (PySem.W.mg_none_of X G z_tuple), (PySem.W.mg_none_of X G z_list), (PySem.W.mg_none_of X G z_all), (PySem.W.mg_none_of X G z_len), (PySem.W.mg_none_of X G z_range), (PySem.W.mg_none_of X G z_repr), (PySem.W.mg_none_of X G z_enumerate), (PySem.W.mg_none_of X G z_str), ⟨_, (PySem.W.mg_of X G v_FIGURES)⟩, ⟨_, (PySem.W.mg_of X G v_MOST_FIGURES)⟩, ⟨_, (PySem.W.mg_of X G v_MOST_HANDS)⟩⟩⟩
  have g22 : Fd l.prog w K mg base CX0 "values_in" 2 ["words"] spValsIn := ⟨_, _, (PySem.W.mg_of X G a_values_in), k_values_in, b_values_in, ok_values_in F_values_in ⟨(PySem.W.mg_none_of X G z_isinstance), (PySem.W.mg_none_of X G z_int), (PySem.W.mg_none_of X G z_bool), (PySem.W.mg_none_of X G z_tuple), (PySem.W.mg_none_of X G z_list), (PySem.W.mg_none_of X G z_all), (PySem.W.mg_none_of X G z_len), (PySem.W.mg_none_of X G z_range), (PySem.W.mg_none_of X G z_repr), (PySem.W.mg_none_of X G z_enumerate), (PySem.W.mg_none_of X G z_str), ⟨_, (PySem.W.mg_of X G v_FIGURES)⟩, ⟨_, (PySem.W.mg_of X G v_MOST_FIGURES)⟩, ⟨_, (PySem.W.mg_of X G v_MOST_HANDS)⟩⟩ g21⟩
  have g23 : Fd l.prog w K mg base CX0 "matter_of" 1 ["kind", "things"] spMatOf := ⟨_, _, (PySem.W.mg_of X G a_matter_of), k_matter_of, b_matter_of, ok_matter_of F_matter_of ⟨(PySem.W.mg_none_of X G z_isinstance), (PySem.W.mg_none_of X G z_int), (PySem.W.mg_none_of X G z_bool), (PySem.W.mg_none_of X G z_tuple), (PySem.W.mg_none_of X G z_list), (PySem.W.mg_none_of X G z_all), (PySem.W.mg_none_of X G z_len), (PySem.W.mg_none_of X G z_range), (PySem.W.mg_none_of X G z_repr), (PySem.W.mg_none_of X G z_enumerate), (PySem.W.mg_none_of X G z_str), ⟨_, (PySem.W.mg_of X G v_FIGURES)⟩, ⟨_, (PySem.W.mg_of X G v_MOST_FIGURES)⟩, ⟨_, (PySem.W.mg_of X G v_MOST_HANDS)⟩⟩⟩
  have g24 : Fd l.prog w K mg base CX0 "step_in" 6 ["line"] spStepIn := ⟨_, _, (PySem.W.mg_of X G a_step_in), k_step_in, b_step_in, ok_step_in F_step_in ⟨(PySem.W.mg_none_of X G z_isinstance), (PySem.W.mg_none_of X G z_int), (PySem.W.mg_none_of X G z_bool), (PySem.W.mg_none_of X G z_tuple), (PySem.W.mg_none_of X G z_list), (PySem.W.mg_none_of X G z_all), (PySem.W.mg_none_of X G z_len), (PySem.W.mg_none_of X G z_range), (PySem.W.mg_none_of X G z_repr), (PySem.W.mg_none_of X G z_enumerate), (PySem.W.mg_none_of X G z_str), ⟨_, (PySem.W.mg_of X G v_FIGURES)⟩, ⟨_, (PySem.W.mg_of X G v_MOST_FIGURES)⟩, ⟨_, (PySem.W.mg_of X G v_MOST_HANDS)⟩⟩ g22 g21 g23 g16 g19⟩
  have g25 : Fd l.prog w K mg base CX0 "run_in" 7 ["text"] spRunIn := ⟨_, _, (PySem.W.mg_of X G a_run_in), k_run_in, b_run_in, ok_run_in F_run_in ⟨(PySem.W.mg_none_of X G z_isinstance), (PySem.W.mg_none_of X G z_int), (PySem.W.mg_none_of X G z_bool), (PySem.W.mg_none_of X G z_tuple), (PySem.W.mg_none_of X G z_list), (PySem.W.mg_none_of X G z_all), (PySem.W.mg_none_of X G z_len), (PySem.W.mg_none_of X G z_range), (PySem.W.mg_none_of X G z_repr), (PySem.W.mg_none_of X G z_enumerate), (PySem.W.mg_none_of X G z_str), ⟨_, (PySem.W.mg_of X G v_FIGURES)⟩, ⟨_, (PySem.W.mg_of X G v_MOST_FIGURES)⟩, ⟨_, (PySem.W.mg_of X G v_MOST_HANDS)⟩⟩ g24⟩
  have E_BadRun : ErrC l.prog w K mg base "BadRun" C_BadRun := ⟨⟨⟨_, _, _, _, _, _, _, _, _, _, _, _, _, _, _, x_BadRun, rv_BadRun⟩, sae_BadRun, eCe_BadRun, tCe_BadRun, kCe_BadRun⟩, (PySem.W.mg_of X G a_BadRun), nve_BadRun, f_HandError_init, _, ine_BadRun, ti_HandError_init, b_HandError_init, ok_HandError_init F_HandError_init⟩
  have E_BadText : ErrC l.prog w K mg base "BadText" C_BadText := ⟨⟨⟨_, _, _, _, _, _, _, _, _, _, _, _, _, _, _, x_BadText, rv_BadText⟩, sae_BadText, eCe_BadText, tCe_BadText, kCe_BadText⟩, (PySem.W.mg_of X G a_BadText), nve_BadText, f_HandError_init, _, ine_BadText, ti_HandError_init, b_HandError_init, ok_HandError_init F_HandError_init⟩
  have EX : ∀ i j, i < 2 → j < 2 → PySem.W.exmOne K (.ref ((e12 C_BadRun C_BadText) i)) (.ref ((e12 C_BadRun C_BadText) j)) = some (decide (i = j)) := fun i j hi hj => by
    rcases (show i = 0 ∨ i = 1 by omega) with rfl | rfl <;> rcases (show j = 0 ∨ j = 1 by omega) with rfl | rfl
    · exact e_0_0
    · exact e_0_1
    · exact e_1_0
    · exact e_1_1
  have EC : ∀ i, i < 2 → ExcC K ((e12 C_BadRun C_BadText) i) := fun i hi => by
    rcases (show i = 0 ∨ i = 1 by omega) with rfl | rfl
    · exact ⟨gae_BadRun, gge_BadRun, eCe_BadRun, hCe_BadRun, cce_BadRun, hne, htke, mre_BadRun⟩
    · exact ⟨gae_BadText, gge_BadText, eCe_BadText, hCe_BadText, cce_BadText, hne, htke, mre_BadText⟩
  have EF : ∀ i, i < 2 → XfC K ((e12 C_BadRun C_BadText) i) := fun i hi => by
    rcases (show i = 0 ∨ i = 1 by omega) with rfl | rfl
    · exact ⟨gae_BadRun, gge_BadRun, eCe_BadRun, hCe_BadRun⟩
    · exact ⟨gae_BadText, gge_BadText, eCe_BadText, hCe_BadText⟩
  have EV : ∀ i, i < 2 → PySem.W.findIn K (.ref ((e12 C_BadRun C_BadText) i)) "value" = some none := fun i hi => by
    rcases (show i = 0 ∨ i = 1 by omega) with rfl | rfl
    · exact nve_BadRun
    · exact nve_BadText
  have EH : ∀ i, i < 2 → PySem.W.exmOne K (.ref ((e12 C_BadRun C_BadText) i)) (.ref C_HandError) = some true := fun i hi => by
    rcases (show i = 0 ∨ i = 1 by omega) with rfl | rfl
    · exact eh_0
    · exact eh_1
  have hErr : ErrsN 2 K (e12 C_BadRun C_BadText) C_HandError := ⟨kitG EX, EC, EF, EV, EH⟩
  have g26 : Fd l.prog w K mg base CX0 "_law_caught" 18 ["call"] (spCaughtK l.prog w K mg base 17 C_HandError) := ⟨_, _, (PySem.W.mg_of X G a_law_caught), k_law_caught, b_law_caught, ok_law_caught (CH := C_HandError) F_law_caught (PySem.W.mg_of X G a_HandError)⟩
  have g27 : Fd l.prog w K mg base CX0 "_law_word" 1 ["error"] (spWordN 2 (e12 C_BadRun C_BadText) wo12) := ⟨_, _, (PySem.W.mg_of X G a_law_word), k_law_word, b_law_word, ok_law_word (CH := C_HandError) (e := (e12 C_BadRun C_BadText)) F_law_word (PySem.W.mg_none_of X G z_isinstance) (PySem.W.mg_of X G a_BadRun) (PySem.W.mg_of X G a_BadText) hErr⟩
  have g28 : FdG l.prog w K mg base CX0 "_law_is_refused" 19 ["call", "word", "value"] (spRefN 2 wo12 l.prog w K mg base (e12 C_BadRun C_BadText)) := ⟨_, _, (PySem.W.mg_of X G a_law_is_refused), k_law_is_refused, b_law_is_refused, ok_law_is_refused (CH := C_HandError) (e := (e12 C_BadRun C_BadText)) F_law_is_refused ⟨(PySem.W.mg_none_of X G z_len), (PySem.W.mg_none_of X G z_int), (PySem.W.mg_none_of X G z_sum), (PySem.W.mg_none_of X G z_abs), (PySem.W.mg_none_of X G z_list), (PySem.W.mg_none_of X G z_tuple), (PySem.W.mg_none_of X G z_range), (PySem.W.mg_none_of X G z_max), (PySem.W.mg_none_of X G z_min), (PySem.W.mg_none_of X G z_repr), (PySem.W.mg_none_of X G z_all), (PySem.W.mg_none_of X G z_enumerate)⟩ hErr g26 g27⟩
  have g29 : Fd l.prog w K mg base (L2.CX l.prog w) "run_in" 7 ["text"] (spRunInX ((e12 C_BadRun C_BadText) 1)) := ⟨_, _, (PySem.W.mg_of X G a_run_in), k_run_in, b_run_in, ok_run_inX (CE := ((e12 C_BadRun C_BadText) 1)) F_run_in ⟨(PySem.W.mg_none_of X G z_isinstance), (PySem.W.mg_none_of X G z_int), (PySem.W.mg_none_of X G z_bool), (PySem.W.mg_none_of X G z_tuple), (PySem.W.mg_none_of X G z_list), (PySem.W.mg_none_of X G z_all), (PySem.W.mg_none_of X G z_len), (PySem.W.mg_none_of X G z_range), (PySem.W.mg_none_of X G z_repr), (PySem.W.mg_none_of X G z_enumerate), (PySem.W.mg_none_of X G z_str), ⟨_, (PySem.W.mg_of X G v_FIGURES)⟩, ⟨_, (PySem.W.mg_of X G v_MOST_FIGURES)⟩, ⟨_, (PySem.W.mg_of X G v_MOST_HANDS)⟩⟩ E_BadText g24⟩
  have g30 : Fd l.prog w K mg base CX0 "_law_some" 2 ["pot", "pool", "many"] (spSome K) := ⟨_, _, (PySem.W.mg_of X G a_law_some), k_law_some, b_law_some, ok_law_some F_law_some ⟨(PySem.W.mg_none_of X G z_len), (PySem.W.mg_none_of X G z_int), (PySem.W.mg_none_of X G z_sum), (PySem.W.mg_none_of X G z_abs), (PySem.W.mg_none_of X G z_list), (PySem.W.mg_none_of X G z_tuple), (PySem.W.mg_none_of X G z_range), (PySem.W.mg_none_of X G z_max), (PySem.W.mg_none_of X G z_min), (PySem.W.mg_none_of X G z_repr), (PySem.W.mg_none_of X G z_all), (PySem.W.mg_none_of X G z_enumerate)⟩ g3⟩
  have g31 : Fd l.prog w K mg base (L2.CX l.prog w) "run_text" 7 ["run"] (spRunTxtX ((e12 C_BadRun C_BadText) 0)) := ⟨_, _, (PySem.W.mg_of X G a_run_text), k_run_text, b_run_text, ok_run_textX (CE := ((e12 C_BadRun C_BadText) 0)) F_run_text ⟨(PySem.W.mg_none_of X G z_isinstance), (PySem.W.mg_none_of X G z_int), (PySem.W.mg_none_of X G z_bool), (PySem.W.mg_none_of X G z_tuple), (PySem.W.mg_none_of X G z_list), (PySem.W.mg_none_of X G z_all), (PySem.W.mg_none_of X G z_len), (PySem.W.mg_none_of X G z_range), (PySem.W.mg_none_of X G z_repr), (PySem.W.mg_none_of X G z_enumerate), (PySem.W.mg_none_of X G z_str), ⟨_, (PySem.W.mg_of X G v_FIGURES)⟩, ⟨_, (PySem.W.mg_of X G v_MOST_FIGURES)⟩, ⟨_, (PySem.W.mg_of X G v_MOST_HANDS)⟩⟩ E_BadRun g17⟩
  have g32 : FdKw l.prog w K mg base (L2.CX l.prog w) "run_in" 7 ["text"] ["text"] kw1 kw1 (spRunInX ((e12 C_BadRun C_BadText) 1)) := ⟨_, _, (PySem.W.mg_of X G a_run_in), k_run_in, ⟨fun s us ws _ h1 h2 => match us, ws, h1, h2 with | [], [_], _, _ => .of_eq rfl, fun _ r2 => kw1_rel r2⟩, ok_run_inX (CE := ((e12 C_BadRun C_BadText) 1)) F_run_in ⟨(PySem.W.mg_none_of X G z_isinstance), (PySem.W.mg_none_of X G z_int), (PySem.W.mg_none_of X G z_bool), (PySem.W.mg_none_of X G z_tuple), (PySem.W.mg_none_of X G z_list), (PySem.W.mg_none_of X G z_all), (PySem.W.mg_none_of X G z_len), (PySem.W.mg_none_of X G z_range), (PySem.W.mg_none_of X G z_repr), (PySem.W.mg_none_of X G z_enumerate), (PySem.W.mg_none_of X G z_str), ⟨_, (PySem.W.mg_of X G v_FIGURES)⟩, ⟨_, (PySem.W.mg_of X G v_MOST_FIGURES)⟩, ⟨_, (PySem.W.mg_of X G v_MOST_HANDS)⟩⟩ E_BadText g24⟩
  have g33 : FdG l.prog w K mg base CX0 "_law_are_refused" 20 ["pot", "run"] (spAreRef P0 P1) := ⟨_, _, (PySem.W.mg_of X G a_law_are_refused), k_law_are_refused, b_law_are_refused, ok_law_are_refused (PA := P0) (PB := P1) (c1 := cR0) (e := (e12 C_BadRun C_BadText)) F_law_are_refused a_law_are_refused hTab0 (hTB (cR0, P0) (by simp)) hP0_1 ⟨(PySem.W.mg_none_of X G z_len), (PySem.W.mg_none_of X G z_int), (PySem.W.mg_none_of X G z_sum), (PySem.W.mg_none_of X G z_abs), (PySem.W.mg_none_of X G z_list), (PySem.W.mg_none_of X G z_tuple), (PySem.W.mg_none_of X G z_range), (PySem.W.mg_none_of X G z_max), (PySem.W.mg_none_of X G z_min), (PySem.W.mg_none_of X G z_repr), (PySem.W.mg_none_of X G z_all), (PySem.W.mg_none_of X G z_enumerate)⟩ g30 g28 g31 g32⟩
  have g34 : FdG l.prog w K mg base CX0 "_law_right" 21 ["pot"] (spRight12 P0 P1) := ⟨_, _, (PySem.W.mg_of X G a_law_right), k_law_right, b_law_right, ok_law_right (PA := P0) (PB := P1) (c1 := cR1) (e := (e12 C_BadRun C_BadText)) F_law_right a_law_right hTab1 (hTB (cR1, P1) (by simp)) hP0_1 ⟨(PySem.W.mg_none_of X G z_len), (PySem.W.mg_none_of X G z_int), (PySem.W.mg_none_of X G z_sum), (PySem.W.mg_none_of X G z_abs), (PySem.W.mg_none_of X G z_list), (PySem.W.mg_none_of X G z_tuple), (PySem.W.mg_none_of X G z_range), (PySem.W.mg_none_of X G z_max), (PySem.W.mg_none_of X G z_min), (PySem.W.mg_none_of X G z_repr), (PySem.W.mg_none_of X G z_all), (PySem.W.mg_none_of X G z_enumerate)⟩ g3 g6 g8 g9 g20 g25 g28 g29 g33⟩
  exact ok_law (PA := P0) (PB := P1) F_law ⟨(PySem.W.mg_none_of X G z_len), (PySem.W.mg_none_of X G z_int), (PySem.W.mg_none_of X G z_sum), (PySem.W.mg_none_of X G z_abs), (PySem.W.mg_none_of X G z_list), (PySem.W.mg_none_of X G z_tuple), (PySem.W.mg_none_of X G z_range), (PySem.W.mg_none_of X G z_max), (PySem.W.mg_none_of X G z_min), (PySem.W.mg_none_of X G z_repr), (PySem.W.mg_none_of X G z_all), (PySem.W.mg_none_of X G z_enumerate)⟩ g1 g2 g34
theorem walk {l : PySem.W.OpenLaw} {q : Program} {loose : List Str} {XP : (Str → Option Value) → Heap → Prop} {YP : World → Heap → Prop} {d : DefRec} {K : Params → PySem.W.Frag} (hn : l.most = some 63) (hdf : d.params.defaults = []) (hrec : ((["_law_are_refused", "_law_right"] : List Str).all fun y => (recsOf q).any fun e => e.name == y) = true)
    (hY : ∀ (w : World) (h : Heap), YP w h → (K w.params).In h)
    (F : ∀ (w : World) (mg : Str → Option Value) (fa : Addr) (h : Heap), (K w.params).In h → h.Ns mainGlobals mg → mg d.name = some (.ref fa) → LawAtT l w (K w.params) CX0 22 63 "script" ["_law_are_refused", "_law_right"] mg fa) :
    PySem.W.WalkO q loose XP YP l.row.toRowW d [] (fun f vs => PySem.call f vs) :=
  L2.walk_ofTG (n := 63) (k := 22) (x := "script") (xs := ["_law_are_refused", "_law_right"]) (CX := fun _ => CX0) hn (by decide) hdf ⟨rfl, by decide, by decide⟩ hrec hY F fun _ _ _ _ _ z => z
end Fp
open PySem PySem.W PyProof.Rows
set_option maxRecDepth 100000 in
set_option maxHeartbeats 0 in
theorem PySem.Challenge.cw_fewplaymany_k12_whole_texts_of_runs_holds : PySem.Challenge.rw_fewplaymany_k12_whole_texts_of_runs.Holds := by
  w_on; o_law; k_head; (case hw => w_witness2)
  k_fill
  refine Fp.walk (l := PySem.Challenge.rw_fewplaymany_k12_whole_texts_of_runs) rfl rfl ?R (fun w h Y => PySem.W.km_in_of Y) ?F
  case R => first | rfl | decide +kernel | kernel_rfl
  case F =>
    intro w mg fa h KX G hmg
    refine' Fp.all_mk KX G hmg ?a_law_are_refused ?l_law_are_refused ?c_law_are_refused ?k_law_are_refused ?hcd0 ?hco0 ?h11_0 ?nT0 ?a_law_right ?l_law_right ?c_law_right ?k_law_right ?hcd1 ?hco1 ?h11_1 ?nT1 ?a_law ?l_law ?c_law ?k_law ?z_len ?z_int ?z_sum ?z_abs ?z_list ?z_tuple ?z_range ?z_max ?z_min ?z_repr ?z_all ?z_enumerate ?a_law_cells ?l_law_cells ?c_law_cells ?k_law_cells ?a_law_pot ?l_law_pot ?c_law_pot ?k_law_pot ?hP0_1 ?a_law_take ?l_law_take ?c_law_take ?k_law_take ?a_law_drawn_step ?l_law_drawn_step ?c_law_drawn_step ?k_law_drawn_step ?z_isinstance ?z_bool ?z_str ?v_FIGURES ?v_MOST_FIGURES ?v_MOST_HANDS ?a_law_of ?l_law_of ?c_law_of ?k_law_of ?a_law_drawn_value ?l_law_drawn_value ?c_law_drawn_value ?k_law_drawn_value ?a_law_line ?l_law_line ?c_law_line ?k_law_line ?a_law_value_text ?l_law_value_text ?c_law_value_text ?k_law_value_text ?a_law_wrong_line ?l_law_wrong_line ?c_law_wrong_line ?k_law_wrong_line ?a_run_text ?l_run_text ?c_run_text ?k_run_text ?a_are_steps ?l_are_steps ?c_are_steps ?k_are_steps ?a_is_step ?l_is_step ?c_is_step ?k_is_step ?a_is_below ?l_is_below ?c_is_below ?k_is_below ?a_is_whole ?l_is_whole ?c_is_whole ?k_is_whole ?a_is_matter ?l_is_matter ?c_is_matter ?k_is_matter ?a_is_value ?l_is_value ?c_is_value ?k_is_value ?a_is_word ?l_is_word ?c_is_word ?k_is_word ?a_is_box_word ?l_is_box_word ?c_is_box_word ?k_is_box_word ?a_step_text ?l_step_text ?c_step_text ?k_step_text ?a_value_text ?l_value_text ?c_value_text ?k_value_text ?a_run_in ?l_run_in ?c_run_in ?k_run_in ?a_step_in ?l_step_in ?c_step_in ?k_step_in ?a_values_in ?l_values_in ?c_values_in ?k_values_in ?a_integer_in ?l_integer_in ?c_integer_in ?k_integer_in ?a_matter_of ?l_matter_of ?c_matter_of ?k_matter_of ?a_law_is_refused ?l_law_is_refused ?c_law_is_refused ?k_law_is_refused ?a_HandError ?hne ?htke ?a_BadRun ?x_BadRun ?rv_BadRun ?sae_BadRun ?gae_BadRun ?gge_BadRun ?nve_BadRun ?ine_BadRun ?cce_BadRun ?l_HandError_init ?c_HandError_init ?k_HandError_init ?kCe_BadRun ?eCe_BadRun ?tCe_BadRun ?hCe_BadRun ?mre_BadRun ?ti_HandError_init ?a_BadText ?x_BadText ?rv_BadText ?sae_BadText ?gae_BadText ?gge_BadText ?nve_BadText ?ine_BadText ?cce_BadText ?kCe_BadText ?eCe_BadText ?tCe_BadText ?hCe_BadText ?mre_BadText ?eh_0 ?e_0_0 ?e_0_1 ?eh_1 ?e_1_0 ?e_1_1 ?a_law_caught ?l_law_caught ?c_law_caught ?k_law_caught ?a_law_word ?l_law_word ?c_law_word ?k_law_word ?a_law_some ?l_law_some ?c_law_some ?k_law_some
    (case a_law_are_refused => k_is)
    (case l_law_are_refused => k_is)
    (case c_law_are_refused => k_is)
    (case k_law_are_refused => k_is)
    (case hcd0 => exact rfl)
    (case hco0 => k_is)
    (case h11_0 => exact rfl)
    (case nT0 => kernel_rfl)
    (case a_law_right => k_is)
    (case l_law_right => k_is)
    (case c_law_right => k_is)
    (case k_law_right => k_is)
    (case hcd1 => exact rfl)
    (case hco1 => k_is)
    (case h11_1 => exact rfl)
    (case nT1 => kernel_rfl)
    (case a_law => k_is)
    (case l_law => k_is)
    (case c_law => k_is)
    (case k_law => k_is)
    (case z_len => k_is)
    (case z_int => k_is)
    (case z_sum => k_is)
    (case z_abs => k_is)
    (case z_list => k_is)
    (case z_tuple => k_is)
    (case z_range => k_is)
    (case z_max => k_is)
    (case z_min => k_is)
    (case z_repr => k_is)
    (case z_all => k_is)
    (case z_enumerate => k_is)
    (case a_law_cells => k_is)
    (case l_law_cells => k_is)
    (case c_law_cells => k_is)
    (case k_law_cells => k_is)
    (case a_law_pot => k_is)
    (case l_law_pot => k_is)
    (case c_law_pot => k_is)
    (case k_law_pot => k_is)
    (case hP0_1 => first | decide | decide +kernel)
    (case a_law_take => k_is)
    (case l_law_take => k_is)
    (case c_law_take => k_is)
    (case k_law_take => k_is)
    (case a_law_drawn_step => k_is)
    (case l_law_drawn_step => k_is)
    (case c_law_drawn_step => k_is)
    (case k_law_drawn_step => k_is)
    (case z_isinstance => k_is)
    (case z_bool => k_is)
    (case z_str => k_is)
    (case v_FIGURES => k_is)
    (case v_MOST_FIGURES => k_is)
    (case v_MOST_HANDS => k_is)
    (case a_law_of => k_is)
    (case l_law_of => k_is)
    (case c_law_of => k_is)
    (case k_law_of => k_is)
    (case a_law_drawn_value => k_is)
    (case l_law_drawn_value => k_is)
    (case c_law_drawn_value => k_is)
    (case k_law_drawn_value => k_is)
    (case a_law_line => k_is)
    (case l_law_line => k_is)
    (case c_law_line => k_is)
    (case k_law_line => k_is)
    (case a_law_value_text => k_is)
    (case l_law_value_text => k_is)
    (case c_law_value_text => k_is)
    (case k_law_value_text => k_is)
    (case a_law_wrong_line => k_is)
    (case l_law_wrong_line => k_is)
    (case c_law_wrong_line => k_is)
    (case k_law_wrong_line => k_is)
    (case a_run_text => k_is)
    (case l_run_text => k_is)
    (case c_run_text => k_is)
    (case k_run_text => k_is)
    (case a_are_steps => k_is)
    (case l_are_steps => k_is)
    (case c_are_steps => k_is)
    (case k_are_steps => k_is)
    (case a_is_step => k_is)
    (case l_is_step => k_is)
    (case c_is_step => k_is)
    (case k_is_step => k_is)
    (case a_is_below => k_is)
    (case l_is_below => k_is)
    (case c_is_below => k_is)
    (case k_is_below => k_is)
    (case a_is_whole => k_is)
    (case l_is_whole => k_is)
    (case c_is_whole => k_is)
    (case k_is_whole => k_is)
    (case a_is_matter => k_is)
    (case l_is_matter => k_is)
    (case c_is_matter => k_is)
    (case k_is_matter => k_is)
    (case a_is_value => k_is)
    (case l_is_value => k_is)
    (case c_is_value => k_is)
    (case k_is_value => k_is)
    (case a_is_word => k_is)
    (case l_is_word => k_is)
    (case c_is_word => k_is)
    (case k_is_word => k_is)
    (case a_is_box_word => k_is)
    (case l_is_box_word => k_is)
    (case c_is_box_word => k_is)
    (case k_is_box_word => k_is)
    (case a_step_text => k_is)
    (case l_step_text => k_is)
    (case c_step_text => k_is)
    (case k_step_text => k_is)
    (case a_value_text => k_is)
    (case l_value_text => k_is)
    (case c_value_text => k_is)
    (case k_value_text => k_is)
    (case a_run_in => k_is)
    (case l_run_in => k_is)
    (case c_run_in => k_is)
    (case k_run_in => k_is)
    (case a_step_in => k_is)
    (case l_step_in => k_is)
    (case c_step_in => k_is)
    (case k_step_in => k_is)
    (case a_values_in => k_is)
    (case l_values_in => k_is)
    (case c_values_in => k_is)
    (case k_values_in => k_is)
    (case a_integer_in => k_is)
    (case l_integer_in => k_is)
    (case c_integer_in => k_is)
    (case k_integer_in => k_is)
    (case a_matter_of => k_is)
    (case l_matter_of => k_is)
    (case c_matter_of => k_is)
    (case k_matter_of => k_is)
    (case a_law_is_refused => k_is)
    (case l_law_is_refused => k_is)
    (case c_law_is_refused => k_is)
    (case k_law_is_refused => k_is)
    (case a_HandError => k_is)
    (case hne => k_is)
    (case htke => k_is)
    (case a_BadRun => k_is)
    (case x_BadRun => k_is)
    (case rv_BadRun => first | rfl | decide +kernel | kernel_rfl)
    (case sae_BadRun => k_is)
    (case gae_BadRun => k_is)
    (case gge_BadRun => k_is)
    (case nve_BadRun => k_is)
    (case ine_BadRun => k_is)
    (case cce_BadRun => k_is)
    (case l_HandError_init => k_is)
    (case c_HandError_init => k_is)
    (case k_HandError_init => k_is)
    (case kCe_BadRun => k_is)
    (case eCe_BadRun => k_is)
    (case tCe_BadRun => k_is)
    (case hCe_BadRun => k_is)
    (case mre_BadRun => k_is)
    (case ti_HandError_init => k_is)
    (case a_BadText => k_is)
    (case x_BadText => k_is)
    (case rv_BadText => first | rfl | decide +kernel | kernel_rfl)
    (case sae_BadText => k_is)
    (case gae_BadText => k_is)
    (case gge_BadText => k_is)
    (case nve_BadText => k_is)
    (case ine_BadText => k_is)
    (case cce_BadText => k_is)
    (case kCe_BadText => k_is)
    (case eCe_BadText => k_is)
    (case tCe_BadText => k_is)
    (case hCe_BadText => k_is)
    (case mre_BadText => k_is)
    (case eh_0 => kts_exm)
    (case e_0_0 => kts_exm)
    (case e_0_1 => kts_exm)
    (case eh_1 => kts_exm)
    (case e_1_0 => kts_exm)
    (case e_1_1 => kts_exm)
    (case a_law_caught => k_is)
    (case l_law_caught => k_is)
    (case c_law_caught => k_is)
    (case k_law_caught => k_is)
    (case a_law_word => k_is)
    (case l_law_word => k_is)
    (case c_law_word => k_is)
    (case k_law_word => k_is)
    (case a_law_some => k_is)
    (case l_law_some => k_is)
    (case c_law_some => k_is)
    (case k_law_some => k_is)
