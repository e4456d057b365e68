import PyProof.Rows.All
import Wide.All
import OpenK.AllK
import Wide.FinOn
import HandS.ForMost
import HandS.ForExc
import HandS.Walk
import HandS.Conv
import HandS.Star
import HandS.CallLocal
import HandS.Codes
import HandS.More
import HandS.OwnEq
import HandS.Wide
import HandS.Flow
import KE.GoesEnum
import PyProof.ListStr
import PyProof.StrBlock2
import KE.IntTextLaws
import PyProof.InstNe
import HandS.MakeKwOnly
import HandS.IsInst
import HandS.Ends
import PyProof.ReprRoads
import KE.GoesMore
import HandS.TupMul
import HandS.TupAny
import HandS.Strs
import PySem.Challenge.RW_fewplaymany_k36_whole_which_words_may_co
import HandS.Deep
import HandS.Iter
import KE.KRevSl
import HandS.Defaults
import PyProof.NeKinds
import HandS.Style
set_option Elab.async false
set_option linter.all false
set_option maxRecDepth 100000
set_option maxHeartbeats 4000000
namespace Fp
open PySem PySem.Spec PyProof.Rows L2
/-! ### heaps -/
/-- all that is tracked stays, but what stands at S -/
def But (S : List Addr) (H H' : Hp) : Prop := ∀ b o, b ∉ S → H b = some o → H' b = some o
theorem But.refl (S : List Addr) (H : Hp) : But S H H := fun _ _ _ h => h
theorem But.trans {S : List Addr} {H H1 H2 : Hp} (a : But S H H1) (b : But S H1 H2) : But S H H2 := fun c o n h => b c o n (a c o n h)
theorem But.of {S : List Addr} {H H' : Hp} (h : Same H H') : But S H H' := fun c o _ q => h c o q
theorem But.new {S : List Addr} {H H1 : Hp} {p : Addr} {o : HO} (a : But S H H1) (n : H1 p = none) : But S H (upd H1 p o) := fun c u k q => by
  have z := a c u k q
  rw [upd_ne (ne_of_none z n)]
  exact z
theorem But.put {S : List Addr} {H H1 : Hp} {p : Addr} {o : HO} (a : But S H H1) (n : p ∈ S) : But S H (upd H1 p o) := fun c u k q => by
  have ne : c ≠ p := fun z => k (z ▸ n)
  rw [upd_ne ne]
  exact a c u k q
theorem But.wide {S T : List Addr} {H H' : Hp} (a : But S H H') (h : ∀ x ∈ S, x ∈ T) : But T H H' := fun c o n q => a c o (fun z => n (h c z)) q
theorem But.at {S : List Addr} {H H' : Hp} {a : Addr} {o : HO} (b : But S H H') (h : H a = some o) (n : a ∉ S) : H' a = some o := b a o n h
theorem But.seq {S : List Addr} {H H' : Hp} {K : PySem.W.Frag} {a : Addr} {xs : List V} (b : But S H H') (h : SqL K H a xs) (n : a ∉ S) : SqL K H' a xs := by
  rcases h with (h | ⟨o, h⟩) | h
  · exact .inl (.inl (b _ _ n h))
  · exact .inl (.inr ⟨o, b _ _ n h⟩)
  · exact .inr h
theorem But.seqT {S : List Addr} {H H' : Hp} {K : PySem.W.Frag} {a : Addr} {xs : List V} (b : But S H H') (h : SqT K H a xs) (n : a ∉ S) : SqT K H' a xs := by
  rcases h with (h | ⟨o, h⟩) | h
  · exact .inl (.inl (b _ _ n h))
  · exact .inl (.inr ⟨o, b _ _ n h⟩)
  · exact .inr h
theorem same_new {H : Hp} {p : Addr} (h : H p = none) (o : HO) : Same H (upd H p o) := fun b u q => by rw [upd_ne (ne_of_none q h)]; exact q
/-! ### a def of the module with its promise -/
structure Fd (P : Program) (w : World) (K : PySem.W.Frag) (mg : Str → Option Value) (base : Heap) (CX : CXT) (x : Str) (k : Nat) (ps : List Str) (sp : Sp) : Prop where
  ex : ∃ (f : Addr) (fd : FuncData), mg x = some (.ref f) ∧ PySem.W.keepIn K (.ref f) = true ∧ Binds K fd ps [] ∧ FnOk P w K mg base CX k f fd ps sp
section
variable {X : Cx} {CX : CXT} {x : Str} {k : Nat} {ps : List Str} {sp : Sp} {e : Expr} {es : List Expr} {t : TA} {p pos : Pos}
theorem pe_fd (G : Fd X.prog X.w X.K X.mg X.base CX0 x k ps sp) (hr : Room k X.A) (hg : Gl X x) (ha : PA X (e :: es) t) (hdb : (x == ("__debug__" : Str)) = false := by decide)
    (he : starEach (e :: es) X.env = (false, eval e X.env) :: starEach es X.env := by rfl) (hpl : (backTo pos (starEach es X.env)).any (·.1) = false := by rfl) :
    PE X (.Call (.Name x p) (e :: es) [] pos) (tCall sp [] E0 t) := by
  obtain ⟨f, fd, h1, h2, h3, h4⟩ := G.ex
  exact pe_call h4 hr hg h1 h2 h3 .nil pass0 ha hdb he hpl
end
/-! ### powers of greater numbers -/
theorem op_powB {X : Cx} : OpR X (binaryOp .Pow) (rI (fun i j => 0 ≤ j ∧ (Builtin.Int.intBits i : Int) * j ≤ 2 ^ 27) fun i j => .int (i ^ j.toNat)) :=
  opI fun _ _ _ _ _ _ _ hc q => PyProof.Rows.pow_int hc.1 hc.2 q
theorem bits_ok {a : Int} (k : Nat) {j : Int} (h : a.natAbs < 2 ^ k) (hj : 0 ≤ j) (hk : (k : Int) * j ≤ 2 ^ 27) : (Builtin.Int.intBits a : Int) * j ≤ 2 ^ 27 := by
  have h1 : (Builtin.Int.intBits a : Int) ≤ (k : Int) := by
    have := PyProof.Rows.intBits_le h
    omega
  exact Int.le_trans (Int.mul_le_mul_of_nonneg_right h1 hj) hk
/-! ### a word between a part and what follows it -/
def tMid (t : TE) : TE := fun σ H Q => ∃ Mid : V → Hp → Prop, t σ H Mid ∧ ∀ v H', Mid v H' → Q v H'
theorem pe_mid {X : Cx} {e : Expr} {t : TE} (h : PE X e t) : PE X e (tMid t) := by
  refine ⟨fun pins s σ H Q I z => ?_⟩
  obtain ⟨Mid, hm, hu⟩ := z
  exact thn (h.run pins s σ H Mid I hm) fun v s1 ⟨x, H1, I1, r1, q1⟩ => ⟨x, H1, I1, r1, hu x H1 q1⟩
def tMidT (t : TT) : TT := fun σ H Q => ∃ Mid : Bool → Hp → Prop, t σ H Mid ∧ ∀ v H', Mid v H' → Q v H'
theorem pt_mid {X : Cx} {e : Expr} {t : TT} (h : PT X e t) : PT X e (tMidT t) := by
  refine ⟨fun pins s σ H Q I z => ?_⟩
  obtain ⟨Mid, hm, hu⟩ := z
  exact thn (h.run pins s σ H Mid I hm) fun v s1 ⟨H1, I1, q1⟩ => ⟨H1, I1, hu v H1 q1⟩
theorem erase_perm {α : Type} : ∀ (l : List α) (i : Nat) (h : i < l.length), (l[i] :: l.eraseIdx i).Perm l
  | a :: l, 0, _ => List.Perm.refl _
  | a :: l, i + 1, h => by
    have h' : i < l.length := Nat.lt_of_succ_lt_succ h
    have ih := erase_perm l i h'
    show (l[i] :: a :: l.eraseIdx i).Perm (a :: l)
    exact (List.Perm.swap _ _ _).trans (List.Perm.cons a ih)
theorem b01 (k : Bool) : -(2 ^ 64) < (if k = true then (1 : Int) else 0) ∧ (if k = true then (1 : Int) else 0) < 2 ^ 64 := by cases k <;> decide
/-! ### draws -/
def PotAt (H : Hp) (p : Addr) (n : Nat) : Prop := ∃ a b c : Int, H p = some (.lst [.int a, .int b, .int c]) ∧ 0 ≤ b ∧ b < 2305843009213693951 ∧ 0 ≤ c ∧ c ≤ n
theorem PotAt.mono {H : Hp} {p : Addr} {n m : Nat} (h : PotAt H p n) (l : n ≤ m) : PotAt H p m := by
  obtain ⟨a, b, c, h1, h2, h3, h4, h5⟩ := h
  exact ⟨a, b, c, h1, h2, h3, h4, by omega⟩
theorem PotAt.there {H : Hp} {p : Addr} {n : Nat} (h : PotAt H p n) : ∃ xs, H p = some (.lst xs) := by
  obtain ⟨a, b, c, h1, _⟩ := h
  exact ⟨_, h1⟩
def spTake : Sp := fun vs H Q _ => ∃ (p : Addr) (u : Int) (n : Nat), vs = [.ref p, .int u] ∧ 0 < u ∧ u < 1000000 ∧ n < 1000000 ∧ PotAt H p n ∧
  ∀ (d : Nat) (H' : Hp), (d : Int) < u → But [p] H H' → PotAt H' p (n + 1) → Q (.int d) H'
def spOf (K : PySem.W.Frag) : Sp := fun vs H Q _ => ∃ (p q : Addr) (xs : List V) (n : Nat), vs = [.ref p, .ref q] ∧ SqL K H q xs ∧ q ≠ p ∧ xs ≠ [] ∧ xs.length < 1000000 ∧ n < 1000000 ∧ PotAt H p n ∧
  ∀ (d : Nat) (v : V) (H' : Hp), xs[d]? = some v → But [p] H H' → PotAt H' p (n + 1) → Q v H'
/-- many of a pool, in some sequence -/
def spSome (K : PySem.W.Frag) : Sp := fun vs H Q _ => ∃ (p q : Addr) (xs : List V) (m n : Nat), vs = [.ref p, .ref q, .int m] ∧ (SqL K H q xs ∨ SqT K H q xs) ∧ m ≤ xs.length ∧ xs.length < 1000 ∧ n + m < 1000000 ∧ PotAt H p n ∧
  ∀ (l : Addr) (ys zs : List V) (H' : Hp), ys.length = m → (ys ++ zs).Perm xs → H l = none → H' l = some (.lst ys) → But [p] H H' → PotAt H' p (n + m) → Q (.ref l) H'
/-- the pot of a cell -/
def spPot (K : PySem.W.Frag) : Sp := fun vs H Q _ => ∃ (a : Addr) (ns : List Int) (k : Nat), vs = [.ref a, .int k] ∧ SqL K H a (ns.map V.int) ∧ ns.length ≤ 63 ∧ k < 1000 ∧ ∀ (l : Addr) (H' : Hp), Same H H' → H l = none → PotAt H' l 0 → Q (.ref l) H'
/-- the cells that are looked at -/
def spCells (K : PySem.W.Frag) : Sp := fun vs H Q _ => ∃ (a : Addr) (ns : List Int) (m : Nat), vs = [.ref a, .int m] ∧ SqL K H a (ns.map V.int) ∧ ns.length ≤ 63 ∧ m < 1000 ∧
  ∀ (l : Addr) (H' : Hp) (k : Nat), k < 1000 → Same H H' → H l = none → H' l = some (.lst ((List.range k).map fun i => V.int (i : Nat))) → Q (.ref l) H'
theorem modNat (a : Int) {u : Int} (h : 0 < u) : ∃ d : Nat, a % u = (d : Int) ∧ (d : Int) < u :=
  ⟨(a % u).toNat, by have := Int.emod_nonneg a (show u ≠ 0 by omega); omega, by have := Int.emod_nonneg a (show u ≠ 0 by omega); have := Int.emod_lt_of_pos a h; omega⟩
theorem sq_le (m : Int) {c : Int} (h : 0 ≤ c) (h1 : c ≤ 1000001) (hm : 0 ≤ m := by decide) (hm1 : m ≤ 200000 := by decide) : 0 ≤ m * c * c ∧ m * c * c ≤ 200000 * 1000001 * 1000001 := by
  have e1 : m * c ≤ 200000 * 1000001 := Int.mul_le_mul hm1 h1 h (by decide)
  have e0 : 0 ≤ m * c := Int.mul_nonneg hm h
  exact ⟨Int.mul_nonneg e0 h, Int.mul_le_mul e1 h1 h (by decide)⟩
end Fp
namespace Fp
open PySem PySem.Spec PyProof.Rows L2
/-! ### constants of the module -/
section
variable {X : Cx} {x : Str} {pos : Pos}
theorem pe_cS {z : Str} (h : ∃ t, X.mg x = some (.str z t)) (hg : Gl X x := by rfl) (hd : (x == ("__debug__" : Str)) = false := by decide) : PE X (.Name x pos) (tC (.str z)) := by
  obtain ⟨t, h⟩ := h
  exact pe_glob hg h ⟨_, rfl⟩ hd
theorem pe_cI {i : Int} (h : ∃ t, X.mg x = some (.int i t)) (hg : Gl X x := by rfl) (hd : (x == ("__debug__" : Str)) = false := by decide) : PE X (.Name x pos) (tC (.int i)) := by
  obtain ⟨t, h⟩ := h
  exact pe_glob hg h ⟨_, rfl⟩ hd
/-- a tuple of the module -/
def KTup (K : PySem.W.Frag) (a : Addr) (xs : List V) : Prop := ∀ H, SqT K H a xs
def tKT (K : PySem.W.Frag) (xs : List V) : TE := fun _ H Q => ∀ a, KTup K a xs → Q (.ref a) H
theorem pe_cT {xs : List V} (h : ∃ a, X.mg x = some (.ref a) ∧ KTup X.K a xs) (hg : Gl X x := by rfl) (hd : (x == ("__debug__" : Str)) = false := by decide) : PE X (.Name x pos) (tKT X.K xs) := by
  obtain ⟨a, h1, h2⟩ := h
  exact ⟨fun pins s σ H Q I q => (pe_glob (v := .ref a) hg h1 rfl hd).run pins s σ H Q I (q a h2)⟩
/-- an object of the module -/
def tKR (φ : Addr → Prop) : TE := fun _ H Q => ∀ a, φ a → Q (.ref a) H
theorem pe_cR {φ : Addr → Prop} (h : ∃ a, X.mg x = some (.ref a) ∧ φ a) (hg : Gl X x := by rfl) (hd : (x == ("__debug__" : Str)) = false := by decide) : PE X (.Name x pos) (tKR φ) := by
  obtain ⟨a, h1, h2⟩ := h
  exact ⟨fun pins s σ H Q I q => (pe_glob (v := .ref a) hg h1 rfl hd).run pins s σ H Q I (q a h2)⟩
/-- a dict of the module with text keys, at d -/
structure KD (K : PySem.W.Frag) (w : World) (d : Addr) (tab : Str → Option V) : Prop where
  ex : ∃ es n, KDict K w d es n
  get : ∀ z, ∃ r, PySem.W.nsIn K d z = some r ∧ RelO (tab z) r
theorem RelO.some_iff {o : Option V} {r : Option Value} (h : RelO o r) : o.isSome = r.isSome := by
  cases o <;> cases r <;> first | rfl | exact h.elim
variable {e : Expr} {te : TE} {apos cpos p : Pos} {tab : Str → Option V} {d : Addr}
/-- key in NAME -/
theorem pe_kin (D : ∃ d, X.mg x = some (.ref d) ∧ KD X.K X.w d tab) (he : PE X e te) (hg : Gl X x := by rfl) (hb : behindInMarks .In (.Name x p) = false := by rfl) (hd : (x == ("__debug__" : Str)) = false := by decide) : PE X (.Compare e [.In] [.Name x p] pos) (fun σ H Q => te σ H fun y H1 => ∃ z, y = .str z ∧ Q (.bl (tab z).isSome) H1) := by
  obtain ⟨d, hm, ⟨es, n, D⟩, get⟩ := D
  refine ⟨fun pins s σ H Q I h => ?_⟩
  refine (pe_cmpR (op_in_kd D) he (pe_glob (v := .ref d) hg hm rfl hd) hb).run pins s σ H Q I ?_
  have h' : (fun σ H Q => te σ H fun y H1 => ∃ z, y = .str z ∧ Q (.bl (tab z).isSome) H1) σ H Q := h
  exact (fun (k : te σ H _) => k) (by
    refine (?_ : te σ H _)
    have e2 : (fun (y : V) (H1 : Hp) => ∃ z : Str, y = V.str z ∧ Q (V.bl (tab z).isSome) H1) = fun y H1 => tC (.ref d) σ H1 fun y' H2 => ∃ (z : Str) (r : Option Value), y = .str z ∧ y' = .ref d ∧ PySem.W.nsIn X.K d z = some r ∧ Q (.bl r.isSome) H2 := by
      funext y H1
      apply propext
      constructor
      · rintro ⟨z, rfl, q⟩
        obtain ⟨r, g1, g2⟩ := get z
        refine ⟨z, r, rfl, rfl, g1, ?_⟩
        rw [← RelO.some_iff g2]
        exact q
      · rintro ⟨z, r, rfl, _, g1, q⟩
        obtain ⟨r', g1', g2⟩ := get z
        rw [g1] at g1'
        cases g1'
        refine ⟨z, rfl, ?_⟩
        rw [RelO.some_iff g2]
        exact q
    rw [← e2]
    exact h')
/-- NAME.get(key) -/
theorem pe_kget (D : ∃ d, X.mg x = some (.ref d) ∧ KD X.K X.w d tab) (he : PE X e te) (hg : Gl X x := by rfl) (m : M1 X (.Name x p) "get" apos e cpos := by exact ⟨rfl, rfl, rfl, rfl⟩) (hd : (x == ("__debug__" : Str)) = false := by decide) :
    PE X (.Call (.Attribute (.Name x p) "get" apos) [e] [] cpos) (fun σ H Q => te σ H fun y H1 => ∃ z, y = .str z ∧ Q ((tab z).getD .non) H1) := by
  obtain ⟨d, hm, ⟨es, n, D⟩, get⟩ := D
  refine ⟨fun pins s σ H Q I h => ?_⟩
  refine wpAny_Call_method m.base m.few m.line PySem.F.plainAttrs_dict PySem.F.slot_dict_get PySem.F.type_dict_get (thn ((pe_glob (v := .ref d) hg hm rfl hd).run pins s σ H (fun y H1 => y = .ref d ∧ te σ H1 fun y H1 => ∃ z, y = .str z ∧ Q ((tab z).getD .non) H1) I ⟨rfl, h⟩) fun u s1 hh => ?_)
  obtain ⟨y, H1, I1, ry, ey, q1⟩ := hh
  subst ey
  obtain rfl : u = Value.ref d := ry
  have hmp := PySem.W.mapOf_K (prog := X.prog) (w := X.w) I1.kIn D.at_ D.lit
  refine ⟨hmp.typeIs, hmp.noDict, ?_⟩
  rw [m.trees]
  refine Calls.callWith_builtin rfl (Calls.evalArgs_plain (Calls.spliced_cons (thn (he.run pins s1 σ H1 _ I1 q1) fun iv s2 hh2 => Calls.spliced_nil ?_)))
  obtain ⟨y2, H2, I2, ry2, z, ez, q2⟩ := hh2
  subst ez
  obtain ⟨t, rfl⟩ := ry2
  have hmp2 := PySem.W.mapOf_K (prog := X.prog) (w := X.w) I2.kIn D.at_ D.lit
  obtain ⟨r, g1, g2⟩ := get z
  refine call_meetsIn PySem.F.slot_dict_get hmp2.typeIs PySem.F.entry_dict_get (PySem.F.args_dict_get_2 _ _) (meets_dict_get (strKind X.prog X.w) d (PySem.strKind_is X.prog X.w z t) D.low) ⟨_, hmp2, ?_⟩
  show EP X pins σ Q _ _
  rw [PySem.W.find_K D.at_ g1]
  exact ⟨_, H2, I2.tok _, g2.getD (d := .non) rfl, q2⟩
end
/-! ### for i, x in enumerate(list, start) -/
def ItE (K : PySem.W.Frag) (a : Addr) (lo : Int) : It :=
  ⟨fun i H => ∃ (ys : List V) (y : V), SqL K H a ys ∧ ys[i]? = some y,
   fun i H v H' => ∃ T y, v = .ref T ∧ H T = none ∧ H' = upd H T (.tup [.int (lo + (i : Nat)), y]) ∧ ∀ ys, SqL K H a ys → ys[i]? = some y,
   fun i H => ∃ ys : List V, SqL K H a ys ∧ ys.length ≤ i⟩
theorem turn_enumS {P : Program} {w : World} {K : PySem.W.Frag} {elts : List Expr} {kk : Nat} {tpos : Pos} (a e it : Addr) (lo : Int) :
    Turn P w K (.Tuple elts kk tpos) (ItE K a lo) [e, it] e (fun i h => (∃ was, IsEnum h e it (lo + ((i : Nat) : Int)) was) ∧ h.IsListIter it a i ∧ e ≠ it) where
  mem := List.mem_cons_self
  obj := fun i h st b hb => by
    obtain ⟨⟨was, he⟩, ⟨o, ho, hc, hd⟩, _⟩ := st
    rcases List.mem_cons.mp hb with z | z
    · subst z
      exact ⟨_, he, fun v q => nomatch q⟩
    · have z' := List.mem_singleton.mp z
      subst z'
      exact ⟨o, ho, fun v q => by rw [hd] at q; cases q⟩
  keep := fun i h h' st k => ⟨st.1.imp fun was he => k e (by simp) _ he, st.2.1.at fun o q => k it (by simp) o q, st.2.2⟩
  item := by
    intro X hP hw hK hc i pins s σ H E I hf st hg
    subst hP hw hK
    obtain ⟨⟨was, he⟩, hit, hne⟩ := st
    obtain ⟨ys, y, hq, hx⟩ := hg
    obtain ⟨its, rv, lp, hz⟩ := I.list hq
    obtain ⟨u, hu, ru⟩ := rv.get hx
    have le : e < s.heap.objs.size := Heap.lt_size he
    have li : it < s.heap.objs.size := by
      obtain ⟨_, q, _⟩ := hit
      exact Heap.lt_size q
    have fr := I.hok.fresh (Nat.le_refl s.heap.objs.size)
    have hL := lp.isList
    have nel : e ≠ a := fun z => by
      obtain ⟨o, ho, hc', _⟩ := hL
      rw [← z, (show s.heap.get? e = some _ from he)] at ho
      cases ho
      injection hc' with z'
      exact absurd z' (by decide)
    have nil' : a ≠ it := fun z => by
      obtain ⟨o, ho, hc', _⟩ := hL
      obtain ⟨o2, ho2, hc2, _⟩ := hit
      rw [z, ho2] at ho
      cases ho
      rw [hc2] at hc'
      injection hc' with z'
      exact absurd z' (by decide)
    have hiu : its.toArray[i]? = some u := by simpa using hu
    have hlt : i < its.toArray.size := by
      by_cases z : i < its.toArray.size
      · exact z
      · rw [Array.getElem?_eq_none (by omega)] at hiu
        cases hiu
    refine wpAny_pyNext_enum_itemC (Draws.list (A := X.A.in1) (I.ok.hd hc) it a nil' its.toArray) he ⟨hit, hL⟩ hlt hne (by simp [hne, nel]) fun x h1 tk hx1 ho hst1 hT hsz hk => ⟨_, rfl, ?_⟩
    rw [hiu] at hx1
    cases hx1
    have hit1 := hst1.1
    refine wpAny_letOwnedTupleGo_enum (s := { s with heap := h1, toks := tk + 1 }) ho fun h2 he2 sb => ?_
    have hT2 := (sb.2 _ (Nat.ne_of_gt le)).trans hT
    have mem2 : ∀ {b : Addr}, b ∈ [e, it] → b < s.heap.objs.size := fun {b} hb => by
      rcases List.mem_cons.mp hb with z | z
      · rw [z]; exact le
      · rw [List.mem_singleton.mp z]; exact li
    refine ⟨.ref s.heap.objs.size, upd H s.heap.objs.size (.tup [.int (lo + (i : Nat)), y]), ?_, rfl, ⟨_, y, rfl, fr, rfl, fun zs hy => by rw [I.list_inj hy hq]; exact hx⟩, ⟨⟨u, ?_⟩, hit1.at fun o q => (sb.2 it (Ne.symm hne)).trans q, hne⟩, fun b hb => ?_⟩
    · refine I.turnedNew (ch := [e, it]) (fun b ob hb q => ?_) hf (Nat.le_refl _) ⟨by show 2 ≤ sizeLine; decide, [.int (lo + (i : Nat)) tk, u], .cons ⟨_, rfl⟩ (.cons ru .nil), ⟨_, hT2, rfl, _, rfl⟩⟩
      have be : b ≠ e := fun z => hb (by simp [z])
      have bi : b ≠ it := fun z => hb (by simp [z])
      exact (sb.2 b be).trans (hk b ob be bi q)
    · have e1 : lo + (((i + 1 : Nat)) : Int) = lo + (i : Int) + 1 := by omega
      rw [e1]
      exact he2
    · rw [upd_ne (Nat.ne_of_lt (mem2 hb))]
      exact (hf b hb).1
  done := by
    intro X hP hw hK hc i pins s σ H E I hf st hg
    subst hP hw hK
    obtain ⟨⟨was, he⟩, hit, hne⟩ := st
    obtain ⟨ys, hq, hx⟩ := hg
    obtain ⟨its, rv, lp, hz⟩ := I.list hq
    obtain ⟨f0, f1, f2, f3, f4, f5⟩ := hf it (by simp)
    have hl := rv.length
    have D : Draws X.prog X.w X.A.in1 it [it, a] i (fun _ _ => False) (fun j h => j = i ∧ h.IsListIter it a i ∧ h.IsList a its.toArray) := {
      live := fun j h st => by
        obtain ⟨_, ⟨o, ho, _⟩, _⟩ := st
        exact ⟨o, ho⟩
      frame := fun j h h' st k => ⟨st.1, st.2.1.at fun o q => k it (by simp) o q, st.2.2.at fun o q => k a (by simp) o q⟩
      item := fun j s Q E hj st _ => by
        have := st.1
        omega
      done := fun s Q E st hE => wpAny_nextOf_list_end (I.ok.hd hc) st.2.1 st.2.2 (by simp; omega) hE }
    exact wpAny_pyNext_enum_endD D he ⟨rfl, hit, lp.isList⟩ fun h1 eb => ⟨rfl, I.turned (t' := s.toks) (fun b o hb q => eb b o hb q) f0 f1 f3 f4 f5⟩
  self := fun A i s Q E st h => st.1.elim fun _ he => wpAny_pyIter_enum he h
def iEnumS (K : PySem.W.Frag) (ta : TA) : TI := fun σ H R => ta σ H fun vs H1 => ∃ a xs lo, vs = [.ref a, .int lo] ∧ SqL K H1 a xs ∧ -(2 ^ 62) ≤ lo ∧ lo < 2 ^ 62 ∧ R (ItE K a lo) H1
theorem pi_enumS {X : Cx} {e1 e2 : Expr} {ta : TA} {p pos tpos : Pos} {elts : List Expr} {kk : Nat} (hg : Gl X "enumerate") (hm : X.mg "enumerate" = none) (ha : PA X [e1, e2] ta)
    (he : starEach (e1 :: [e2]) X.env = (false, eval e1 X.env) :: starEach [e2] X.env := by rfl) (hpl : (backTo pos (starEach [e2] X.env)).any (·.1) = false := by rfl) :
    PI X (.Tuple elts kk tpos) (.Call (.Name "enumerate" p) [e1, e2] [] pos) (iEnumS X.K ta) := by
  refine ⟨fun pins s σ H R I h => ?_⟩
  refine Call_ (ld_blt I hg hm boot_enumerate (PyProof.Rows.callWith_type1 (thn (ha.run pos pins s σ H _ I h) fun us s1 hh => ?_) he hpl))
  obtain ⟨vs, H1, I1, r1, a, xs, lo, ex, hq, hl0, hl1, q⟩ := hh
  subst ex
  obtain ⟨u1, u2, rfl, ra, rb⟩ := vals2 r1
  obtain rfl : u1 = Value.ref a := ra
  obtain ⟨t, rfl⟩ := rb
  obtain ⟨its, rv, lp, hz⟩ := I1.list hq
  refine enum_begins (begins_list a its.toArray) lp.isList (by omega) (by omega) fun h1 he hit hsz hk => wpAny_pyIter_enum he ?_
  have I2 : Inv X pins σ H1 { s1 with heap := h1 } := I1.kept (t' := s1.toks) hk
  refine ⟨s1.heap.objs.size + 1, [s1.heap.objs.size + 1, s1.heap.objs.size], _, _, H1, rfl, I2, turn_enumS a (s1.heap.objs.size + 1) s1.heap.objs.size lo, ⟨⟨.none, by simpa using he⟩, ⟨_, hit, rfl, rfl⟩, Nat.succ_ne_self _⟩, fun b hb => ?_, q⟩
  have hle : s1.heap.objs.size ≤ b := by
    rcases List.mem_cons.mp hb with z | z
    · rw [z]; exact Nat.le_add_right _ _
    · rw [List.mem_singleton.mp z]; exact Nat.le_refl _
  exact I1.fpOk hle (I1.hok.fresh hle)
/-! ### list(text), text * int -/
abbrev sg (z : Str) : List Nat := z.cps.toList
def signsV (z : Str) : List V := (sg z).map fun c => V.str ⟨#[c]⟩
theorem signs_vals : ∀ (l : List Nat) (us : List Value), us.length = l.length → (∀ (j : Nat) (v : Value), us[j]? = some v → ∃ (c : Nat) (u : Tok), l[j]? = some c ∧ v = Value.str ⟨#[c]⟩ u) → Vals (l.map fun c => V.str ⟨#[c]⟩) us
  | [], [], _, _ => .nil
  | c :: l, u :: us, hl, h => by
    obtain ⟨c', t, e1, e2⟩ := h 0 u rfl
    have e1' : c = c' := by simpa using e1
    subst e1'
    exact .cons ⟨t, e2⟩ (signs_vals l us (by simpa using hl) fun j v e => by simpa using h (j + 1) v (by simpa using e))
  | [], _ :: _, hl, _ => by simp at hl
  | _ :: _, [], hl, _ => by simp at hl
theorem call_list_txt {X : Cx} (hc : X.calm = true) : CallR X (.type "list") (fun xs H Q => ∃ z, xs = [.str z] ∧ z.length ≤ sizeLine ∧ ∀ l, H l = none → Q (.ref l) (upd H l (.lst (signsV z)))) := by
  intro pins s σ H xs us Q I r h
  obtain ⟨z, rfl, hz, q⟩ := h
  obtain ⟨u, rfl, rx⟩ := vals1 r
  obtain ⟨t, rfl⟩ := rx
  refine call_list_str (I.ok.hd hc) z t (fun h' tk acc c' hk hS hacc => ?_) (hn := hz)
  have hv : Vals (signsV z) acc.toList := signs_vals _ _ (by simpa [sg] using hacc.1) fun j v e => by
    obtain ⟨c, u, e1, e2⟩ := hacc.2 j v (by simpa using e)
    exact ⟨c, u, by simpa [sg] using e1, e2⟩
  have hlen : (signsV z).length ≤ sizeLine := by simpa [signsV, sg, Str.length] using hz
  exact ⟨.ref s.heap.objs.size, _, I.laid (t' := tk) hk (Nat.le_refl _) (show ObjOk X.prog X.w _ h' _ (.lst (signsV z)) from ⟨hlen, acc.toList, c', hv, hS⟩), rfl, q _ (I.hok.fresh (Nat.le_refl _))⟩
theorem mulOk6 {z : Str} {i : Int} (hz : z.length = 1) (h0 : 0 ≤ i) (h1 : i ≤ 6) : PySem.MulOk z i := by
  have : i = 0 ∨ i = 1 ∨ i = 2 ∨ i = 3 ∨ i = 4 ∨ i = 5 ∨ i = 6 := by omega
  unfold PySem.MulOk
  rw [hz]
  rcases this with rfl | rfl | rfl | rfl | rfl | rfl | rfl <;> decide
theorem op_mul_txt {X : Cx} : OpR X (binaryOp .Mult) (fun x y H Q => ∃ (z : Str) (i : Int), x = .str z ∧ y = .int i ∧ z.length = 1 ∧ 0 ≤ i ∧ i ≤ 6 ∧ Q (.str (Txt.mul z i)) H) := by
  intro pins s σ H x y v u Q I rx ry h
  obtain ⟨z, i, rfl, rfl, hz, h0, h1, q⟩ := h
  obtain ⟨t, rfl⟩ := rx
  obtain ⟨t', rfl⟩ := ry
  exact PySem.SB.mul (mulOk6 hz h0 h1) fun t2 k => ⟨.str (Txt.mul z i), H, I.tok k, ⟨t2, rfl⟩, q⟩
/-! ### a comprehension over a text -/
theorem lc_txt {z : Str} {f : Nat → V} {g : TG} {te : TE} {vs : List Nat} {σ : L2.St} {H : Hp} {D : Addr} {Qd : Hp → Prop} (hD : H D = none) (hz : z.length ≤ 100000)
    (helt : ∀ (c : Nat) (H' : Hp) (R : V → Hp → Prop), c ∈ sg z → Same H H' → R (f c) H' → g (.str ⟨#[c]⟩) (wipe σ vs) H' fun σ2 H2 => wipe σ2 vs = wipe σ vs ∧ te σ2 H2 R)
    (hq : ∀ H', Same H H' → H' D = some (.lst ((sg z).map f)) → Qd H') :
    ∃ W : Nat → Nat → Hp → Prop, (∃ m, W 0 m (upd H D (.lst []))) ∧ ∀ i m H, W i m H →
      ((Its z).stop i H ∧ Qd H) ∨ ((Its z).go i H ∧ ∃ Nx : Hp → Prop, (∀ H', Nx H' → ∃ m', m' < m ∧ W (i + 1) m' H') ∧ ∀ x H', (Its z).yld i H x H' → g x (wipe σ vs) H' fun σ2 H2 => wipe σ2 vs = wipe σ vs ∧ tYes σ2 H2 fun b H3 =>
        if b = true then te σ2 H3 fun y H4 => ∃ acc, H4 D = some (.lst acc) ∧ acc.length < sizeLine ∧ Nx (upd H4 D (.lst (acc ++ [y]))) else Nx H3) := by
  have hsz : z.cps.size = (sg z).length := by simp [sg]
  refine lc_it (walk_str (z := z)) (fun i H' => Same H H' ∧ H' D = some (.lst (((sg z).take i).map f))) ⟨same_new hD _, upd_same⟩ (fun _ _ _ _ => True.intro) ?_ (fun H' h => hq H' h.1 (by rw [hsz] at h; rw [h.2, List.take_length]))
  rintro i x H1 H2 hi ⟨g1, g2⟩ ⟨rfl, c, hc, rfl⟩
  have hc' : (sg z)[i]? = some c := by simpa [sg] using hc
  refine helt c H2 _ (List.mem_of_getElem? hc') g1 ⟨_, g2, ?_, fun b o q => ?_, ?_⟩
  · have : (((sg z).take i).map f).length ≤ z.length := by simp [sg, Str.length]; omega
    exact Nat.lt_of_le_of_lt (Nat.le_trans this hz) (by decide)
  · rw [upd_ne (ne_of_none q hD)]
    exact g1 b o q
  · rw [upd_same, List.take_add_one, hc']
    simp
end Fp
namespace Fp
open PySem PySem.Spec PyProof.Rows L2
/-! ### methods with their promises -/
section
variable {X : Cx} {k i : Nat} {x m : Str} {p pos apos : Pos} {e o : Expr} {es : List Expr} {t : TA} {ta : TE} {C : Addr} {ps : List Str} {sp : Sp}
structure Md (P : Program) (w : World) (K : PySem.W.Frag) (mg : Str → Option Value) (base : Heap) (CX : CXT) (C : Addr) (m : Str) (k : Nat) (ps : List Str) (sp : Sp) : Prop where
  ex : ∃ (f : Addr) (fd : FuncData), Meth K C m f ∧ Binds K fd ps [] ∧ FnOk P w K mg base CX k f fd ps sp
theorem pe_md {pl : Sem Bool} (he : PE X o ta) (c : Cls X.K C) (M : Md X.prog X.w X.K X.mg X.base CX0 C m k ps sp) (hr : Room k X.A) (ha : PA X (e :: es) t)
    (hst : starEach (e :: es) X.env = (false, eval e X.env) :: starEach es X.env := by rfl) (hpl : (backTo pos (starEach es X.env)).any (·.1) = false := by rfl)
    (ht : eval (.Call (.Attribute o m apos) (e :: es) [] pos) X.env = (do
      let ov ← eval o X.env
      standAt apos.atName
      let (f, first) ← holding [ov] (getMethod ov m pl)
      callWith pos f first (backTo pos (starEach (e :: es) X.env)) (backToKw pos (keywordEach [] X.env))) := by rfl) :
    PE X (.Call (.Attribute o m apos) (e :: es) [] pos) (tMeth C m sp [] E0 ta t) := by
  obtain ⟨f, fd, h1, h2, h3⟩ := M.ex
  exact pe_meth he c h1 h3 hr h2 .nil pass0 ha hst hpl ht
theorem pe_md0 {pl : Sem Bool} (he : PE X o ta) (c : Cls X.K C) (M : Md X.prog X.w X.K X.mg X.base CX0 C m k ps sp) (hr : Room k X.A)
    (ht : eval (.Call (.Attribute o m apos) [] [] pos) X.env = (do
      let ov ← eval o X.env
      standAt apos.atName
      let (f, first) ← holding [ov] (getMethod ov m pl)
      callWith pos f first (backTo pos (starEach [] X.env)) (backToKw pos (keywordEach [] X.env))) := by rfl) :
    PE X (.Call (.Attribute o m apos) [] [] pos) (tMeth C m sp [] E0 ta tNil) := by
  obtain ⟨f, fd, h1, h2, h3⟩ := M.ex
  exact pe_meth0 he c h1 h3 hr h2 .nil pass0 ht
end
/-- a statement that is never reached -/
theorem ps_no {X : Cx} {st : Stmt} : PS X st (fun _ _ _ => False) := ⟨fun _ _ _ _ _ _ h => h.elim⟩
/-! ### a class of the module, made with its promise -/
structure MkC (P : Program) (w : World) (K : PySem.W.Frag) (mg : Str → Option Value) (base : Heap) (x : Str) (C : Addr) (k : Nat) (ps : List Str) (sp : Sp) : Prop where
  at_ : mg x = some (.ref C)
  ex : ∃ (f : Addr) (fd : FuncData), Mk K C f ∧ Binds K fd ps [] ∧ FnOk P w K mg base CX0 k f fd ps sp
section
variable {X : Cx} {x : Str} {k : Nat} {ps : List Str} {sp : Sp} {C : Addr} {e : Expr} {es : List Expr} {t : TA} {p pos : Pos}
theorem pe_mk0 (M : MkC X.prog X.w X.K X.mg X.base x C k ps sp) (hr : Room (k + 1) X.A) (hg : Gl X x) (hdb : (x == ("__debug__" : Str)) = false := by decide) : PE X (.Call (.Name x p) [] [] pos) (tMake C sp [] E0 tNil) := by
  obtain ⟨f, fd, h1, h2, h3⟩ := M.ex
  exact pe_make0 h1 h3 hr hg M.at_ h2 .nil pass0 hdb
theorem pe_mk (M : MkC X.prog X.w X.K X.mg X.base x C k ps sp) (hr : Room (k + 1) X.A) (hg : Gl X x) (ha : PA X (e :: es) t) (hdb : (x == ("__debug__" : Str)) = false := by decide)
    (he : starEach (e :: es) X.env = (false, eval e X.env) :: starEach es X.env := by rfl) (hpl : (backTo pos (starEach es X.env)).any (·.1) = false := by rfl) : PE X (.Call (.Name x p) (e :: es) [] pos) (tMake C sp [] E0 t) := by
  obtain ⟨f, fd, h1, h2, h3⟩ := M.ex
  exact pe_make h1 h3 hr hg M.at_ h2 .nil pass0 ha hdb he hpl
end
/-! ### x == y, x != y by an own __eq__ (no own __ne__) -/
section
open PySem.W
variable {prog : Program} {w : World} {A : Around} {E : Value → Shared → Prop} {s : Shared} {K : Frag} {x C L f : Addr} {h₀ : Heap} {m : Str → Option Value} {ox : Obj} {od : Option Obj} {b tb : Value}
theorem tryNe_K {Q : Option Value → Shared → Prop} (hu : A.units + 1 < cLine) (X : K.In s.heap) (I : InstAt s.heap x ox C od) (hne : findIn K (.ref C) "__ne__" = some (some (.builtin "object.__ne__"))) (top : mroIn K C (.type "object") = some true)
    (hs : findIn K (.ref C) "__eq__" = some (some (.ref f))) (hf : isFn K (.ref f) = true)
    (h : wpAny (model prog w) A.in1 (call (.ref f) [.ref x, b]) (fun v s' => ∃ k, v = .bool k ∧ Q (some (.bool (!k))) s') E s) : wpAny (model prog w) A (tryCompare (.ref x) "__ne__" b) Q E s := by
  have inner : ∀ (A' : Around) (hu' : A'.units < cLine) (E' : Value → Shared → Prop) (Q' : Fin → Shared → Prop), wpAny (model prog w) A' (call (.ref f) [.ref x, b]) (fun v s' => ∃ k, v = .bool k ∧ Q' (.done (.ret (.bool (!k)))) s') E' s →
      wpAny (model prog w) A' (Builtin.«object.__ne__» ⟨[.ref x, b], []⟩) Q' E' s := by
    intro A' hu' E' Q' h'
    unfold Builtin.«object.__ne__»
    repeat (first
      | with_reducible refine wpAny_cRoomFor hu' ?_
      | (refine wpAny_bind (m := callSpecialIfBound? (.ref x) (Str.ofString "__eq__") [b])
          (ifBound_K X I hs hf (wpAny_mono h' (fun r s' hr => by
            obtain ⟨k, rfl, hq⟩ := hr
            repeat (first | exact hq | exact wpAny_pure hq | exact wpAny_truthy_bool hq | (refine wpAny_bind (m := truthy (.bool _)) (wpAny_truthy_bool ?_)) | wp_step)) fun _ _ e => e)))
      | wp_step)
  have hi : Looks (model prog w) s.heap (isInstance (.ref x) (.type "object")) true := I.type.andThen (looks_mroIn X top)
  have S := F.slot_object_ne
  have done : ∀ (Q' : Value → Shared → Prop), wpAny (model prog w) A.in1 (call (.ref f) [.ref x, b]) (fun v s' => ∃ k, v = .bool k ∧ Q' (.bool (!k)) s') E s → wpAny (model prog w) A (call (.builtin "object.__ne__") [.ref x, b]) Q' E s := by
    intro Q' h'
    refine wpAny_call (codeAny_call_builtin S.plain PySem.F.cmpEntry_ne (check_slot PySem.F.cmpKind_ne PySem.F.cmpSplit_ne hi (PySem.F.cmpArgs_ne _ _) (inner A.in1 hu _ _ (wpAny_mono h' (fun v s' hv => ?_) fun _ _ e => e))))
    obtain ⟨k, rfl, hq⟩ := hv
    exact ⟨k, rfl, hq⟩
  have one : wpAny (model prog w) A (callSpecialIfBound? (.ref x) "__ne__" [b]) (fun r s' => ∃ k, r = some (.bool k) ∧ Q (some (.bool k)) s') E s := by
    simp only [callSpecialIfBound?, bindSpecialIfBound?]
    refine wpAny_holding (wpAny_bind (wpAny_bind (wpAny_bind (I.type.here ((looks_findIn X hne).here ?_)))))
    refine wpAny_bind (wpAny_askSetting (wpAny_ite ?_))
    have fin : wpAny (model prog w) A (call (.builtin "object.__ne__") ([.ref x] ++ [b]) >>= fun v => pure (some v)) (fun r s' => ∃ k, r = some (.bool k) ∧ Q (some (.bool k)) s') E s :=
      wpAny_bind (done _ (wpAny_mono h (fun v s' hv => by
        obtain ⟨k, rfl, hq⟩ := hv
        exact ⟨k, rfl, wpAny_pure ⟨_, rfl, hq⟩⟩) fun _ _ e => e))
    rw [S.bind]
    split
    · exact wpAny_bind (wpAny_pure (wpAny_pure fin))
    · exact wpAny_tryCatch (wpAny_bind (wpAny_pure (wpAny_pure fin)))
  unfold tryCompare
  refine wpAny_bind (wpAny_mono one (fun r s' z => ?_) fun _ _ e => e)
  obtain ⟨k, rfl, hq⟩ := z
  exact wpAny_pure hq
theorem ne_K {Q : Value → Shared → Prop} (hu : A.units + 1 < cLine) (F : Fr h₀ L s.heap m) (X₀ : K.In h₀) (I : InstAt s.heap x ox C od) (hb : Looks (model prog w) s.heap (typeOf b) tb) (hn : notFirst K C tb = true)
    (hne : findIn K (.ref C) "__ne__" = some (some (.builtin "object.__ne__"))) (top : mroIn K C (.type "object") = some true) (hs : findIn K (.ref C) "__eq__" = some (some (.ref f))) (hf : isFn K (.ref f) = true)
    (h : wpAny (model prog w) A.in1 (call (.ref f) [.ref x, b]) (fun v s' => ∃ k, v = .bool k ∧ Q (.bool (!k)) s') E s) : wpAny (model prog w) A (richCompare .NotEq (.ref x) b) Q E s := by
  have X := X₀.keeps F.keep
  have one : wpAny (model prog w) A (tryCompare (.ref x) "__ne__" b) (fun r s' => ∃ v, r = some v ∧ Q v s') E s :=
    tryNe_K hu X I hne top hs hf (wpAny_mono h (fun v s' hv => by
      obtain ⟨k, rfl, hq⟩ := hv
      exact ⟨k, rfl, _, rfl, hq⟩) fun _ _ e => e)
  unfold richCompare
  simp only [oneThing_ref]
  refine wpAny_holding (wpAny_bind (wpAny_cRoomFor (Nat.lt_of_succ_lt hu) ?_))
  refine wpAny_bind (I.type.here (wpAny_bind (hb.here ?_)))
  split
  · rename_i q
    have e : subIn K tb (.ref C) = some false := by
      rcases Bool.or_eq_true_iff.mp hn with e | e
      · rw [beq_iff_eq.mp e] at q; simp at q
      · exact beq_iff_eq.mp e
    refine wpAny_bind ((looks_subIn X e).here ?_)
    simp only [Bool.false_eq_true, if_false]
    refine wpAny_bind (wpAny_mono one (fun r s' z => ?_) fun _ _ e => e)
    obtain ⟨v, rfl, hq⟩ := z
    exact wpAny_pure hq
  · refine wpAny_bind (wpAny_pure ?_)
    simp only [Bool.false_eq_true, if_false]
    refine wpAny_bind (wpAny_mono one (fun r s' z => ?_) fun _ _ e => e)
    obtain ⟨v, rfl, hq⟩ := z
    exact wpAny_pure hq
end
/-- what a class with an own == must have -/
structure EqC (P : Program) (w : World) (K : PySem.W.Frag) (mg : Str → Option Value) (base : Heap) (C : Addr) (n : Nat) (ps : List Str) (sp : Sp) : Prop where
  ex : ∃ (f : Addr) (fd : FuncData), PySem.W.findIn K (.ref C) "__eq__" = some (some (.ref f)) ∧ PySem.W.isFn K (.ref f) = true ∧ Binds K fd ps [] ∧ FnOk P w K mg base CX0 n f fd ps sp
  ne : PySem.W.findIn K (.ref C) "__ne__" = some (some (.builtin "object.__ne__"))
  top : PySem.W.mroIn K C (.type "object") = some true
def rEqO (K : PySem.W.Frag) (C : Addr) (sp : Sp) (neg : Bool) : R2 := fun x y H Q => ∃ (a dx : Addr) (fs : List (Str × V)) (t : Value), x = .ref a ∧ H a = some (.ins C dx fs) ∧ TyX K H y t ∧ PySem.W.notFirst K C t = true ∧
  sp [x, y] H (fun v H' => ∃ b, v = .bl b ∧ Q (.bl (if neg then !b else b)) H') E0
section
variable {X : Cx} {C : Addr} {n : Nat} {ps : List Str} {sp : Sp}
theorem op_eqO (M : EqC X.prog X.w X.K X.mg X.base C n ps sp) (hr : Room n X.A) : OpR X (compareOp .Eq) (rEqO X.K C sp false) := by
  intro pins s σ H x y v u Q I rx ry h
  obtain ⟨a, dx, fs, t, rfl, ha, ty, hn, q⟩ := h
  cases rx
  obtain ⟨f, fd, hs, hf, hb, F⟩ := M.ex
  obtain ⟨mA, J, _⟩ := ins_get I.hok ha
  obtain ⟨od, J, _⟩ := J.look
  obtain ⟨m, hF⟩ := I.fr
  obtain ⟨Pk, Z, pk, _⟩ := kit_of I ry ty
  show wpAny (model X.prog X.w) X.A (richCompare .Eq (.ref a) u) (EP X pins σ Q) X.xe s
  refine PySem.W.cmp_K (op := .Eq) (tb := t) hr.units0 hF I.ok.mod.kin J (Z.ty _ _ I.kIn pk) hn hs hf ?_
  refine wpAny_mono (run_fn (us := [.ref a, u]) (vs := [.ref a, y]) F hr hb .nil pass0 I (.cons rfl (.cons ry .nil)) (show sp ([V.ref a, y] ++ []) H _ E0 from q)) (fun r s' z => ?_) fun _ _ e => e
  obtain ⟨v, H', I', rv, b, rfl, q'⟩ := z
  cases rv
  exact ⟨.bl b, H', I', rfl, q'⟩
theorem op_neO (M : EqC X.prog X.w X.K X.mg X.base C n ps sp) (hr : Room (n + 1) X.A) : OpR X (compareOp .NotEq) (rEqO X.K C sp true) := by
  intro pins s σ H x y v u Q I rx ry h
  obtain ⟨a, dx, fs, t, rfl, ha, ty, hn, q⟩ := h
  cases rx
  obtain ⟨f, fd, hs, hf, hb, F⟩ := M.ex
  obtain ⟨mA, J, _⟩ := ins_get I.hok ha
  obtain ⟨od, J, _⟩ := J.look
  obtain ⟨m, hF⟩ := I.fr
  obtain ⟨Pk, Z, pk, _⟩ := kit_of I ry ty
  show wpAny (model X.prog X.w) X.A (richCompare .NotEq (.ref a) u) (EP X pins σ Q) X.xe s
  refine ne_K (tb := t) (hu_of hr) hF I.ok.mod.kin J (Z.ty _ _ I.kIn pk) hn M.ne M.top hs hf ?_
  have e0 : Env0 X.prog X.w X.K X.mg X.base X.A.in1 X.stack s H := I.env0.in1
  have r2 : Vals ([V.ref a, y] ++ []) ([Value.ref a, u] ++ []) := (Vals.append (.cons rfl (.cons ry .nil)) .nil)
  have hsp : sp ([V.ref a, y] ++ []) H (fun v H' => ∃ b, v = .bl b ∧ Q (.bl (!b)) H') E0 := q
  have hl : ([Value.ref a, u] ++ []).length = ps.length := by rw [← r2.length]; exact F.len _ _ _ _ hsp
  refine wpAny_call (codeAny_mono (F.run X.A.in1 X.stack s H ⟨[.ref a, u], []⟩ _ _ _ E0 hr.in1 e0 (hb s [.ref a, u] I.kIn hl) r2 hsp) fun r s' hq => ?_)
  cases r with
  | error e => exact pass0 pins σ H s e s' I hq
  | ok fl =>
    cases fl with
    | ret u =>
      obtain ⟨v, H', I', rv, b, rfl, q'⟩ := I.after hq
      cases rv
      exact ⟨b, rfl, .bl (!b), H', I', rfl, q'⟩
    | next => exact False.elim hq
    | brk => exact False.elim hq
    | cont => exact False.elim hq
end
end Fp
/-! Defs that may show data: no repr under way -/
namespace L2
open PySem PySem.Spec PyProof.Rows
structure FnOkG (P : Program) (w : World) (K : PySem.W.Frag) (mg : Str → Option Value) (base : Heap) (CX : CXT) (k : Nat) (f : Addr) (fd : FuncData) (ps : List Str) (sp : Sp) : Prop where
  len : ∀ vs H Q E, sp vs H Q E → vs.length = ps.length
  run : ∀ (A : Around) (outer : List Env) (s : Shared) (H : Hp) (args : Args) (us : List Value) (vs : List V) (Q : VK) (E : XK), Room k A → A.guards = some [] → Env0 P w K mg base A outer s H → BindsTo s fd args (ps.zip us) → Vals vs us → sp vs H Q E →
    codeAny (model P w) A (.call (.ref f) args) (CR CX outer P w H s Q E) s
theorem fn_ofG {CX : CXT} {P : Program} {w : World} {K : PySem.W.Frag} {mg : Str → Option Value} {base : Heap} {k : Nat} {f : Addr} {name qual : Str} {params : Arguments} {body : List Stmt} {scope : Scope} {dV kV doc pm cdv ct oc : Value} {an od : Option Addr}
    {osl : Array (Option Value)} {N ps : List Str} {sp : Sp} (lk : K.lookup f = some ⟨oc, od, .func (PySem.W.fnOf name qual params body scope dV kV doc pm an cdv ct), osl⟩) (hcd : PySem.W.codeIn K cdv qual = true) (S : FnScope N ps scope)
    (len : ∀ vs H Q E, sp vs H Q E → vs.length = ps.length)
    (hbody : ∀ (A : Around) (outer : List Env) (s : Shared) (H : Hp) (vs : List V) (Q : VK) (E : XK), Room k (A.deeper (envOfC qual scope s.heap.objs.size f cdv)) → (A.deeper (envOfC qual scope s.heap.objs.size f cdv)).guards = some [] → sp vs H Q E →
      ∃ t, PSs (cxOf CX P w K mg base N qual scope f cdv A outer s H E) body t ∧ t { nx := fun _ H' => Q .non H', rt := Q } (start N vs) H) :
    FnOkG P w K mg base CX (k + 1) f (PySem.W.fnOf name qual params body scope dV kV doc pm an cdv ct) ps sp := by
  refine ⟨len, fun A outer s H args us vs Q E hr hgu e0 hb r hsp => ?_⟩
  have hl := len _ _ _ _ hsp
  have KX : K.In s.heap := e0.mod.kin.keeps fun b o e => (e0.bs b o e).1
  have lim : s.heap.NoLimit := e0.mod.nolimit.keeps fun b o e => (e0.bs b o e).1
  have hkind : ∀ y ∈ ps.zip us, scope.names.lookup y.1 = some .local ∨ (scope.names.lookup y.1 = some .cell ∧ ((cellsFrom (s.heap.objs.size + 1) scope.names []).lookup y.1).isSome = true) := fun ⟨n, v⟩ hy => by
    rcases S.par n (List.of_mem_zip hy).1 with q | q
    · exact .inl q
    · exact .inr ⟨q, PySem.W.cellsFrom_some _ _ _ (.inl q)⟩
  refine codeAny_call_function hr.depth (KX _ _ lk) rfl S.co S.gen rfl (PySem.W.codeRec_of KX hcd) (hb _ _ _ _ ?_)
  refine wpAny_newFunctionEnv_cells S.kind hkind fun env he s1 x => ?_
  subst he
  refine ⟨lim.keeps x.toInCall.keep, codeAny_func ?_⟩
  obtain ⟨t, ht, hq⟩ := hbody A outer s H vs Q E (hr.deeper _) hgu hsp
  have I : Inv (cxOf CX P w K mg base N qual scope f cdv A outer s H E) [] (start N vs) H s1 := inv_start S hr.hd e0 hl r x
  refine wpAny_mono (ht.run [] s1 (start N vs) H _ I hq) (fun fl s' hs => ?_) fun e s' hs => hs
  have fin : ∀ {σ' : St} {H' : Hp} {v : V} {u : Value}, Inv (cxOf CX P w K mg base N qual scope f cdv A outer s H E) [] σ' H' s' → RelV v u → Q v H' → CE outer P w H s Q u s' :=
    fun {σ' H' v u} J rv q => ⟨v, H', J.os, J.bare, J.base, J.hok, rv, q⟩
  cases fl with
  | ret u =>
    obtain ⟨v, σ', H', J, rv, q⟩ := hs
    exact fin J rv q
  | next =>
    obtain ⟨σ', H', J, q⟩ := hs
    exact fin (v := V.non) (u := Value.none) J rfl q
  | brk =>
    obtain ⟨_, _, _, q⟩ := hs
    exact False.elim q
  | cont =>
    obtain ⟨_, _, _, q⟩ := hs
    exact False.elim q
theorem law_callG {P : Program} {w : World} {K : PySem.W.Frag} {mg mb : Str → Option Value} {CX : CXT} {k : Nat} {fa a : Addr} {fd : FuncData} {x : Str} {sp : Sp} {s₁ : Shared} {vs : List Value} {ns : List Int}
    (KX : K.In s₁.heap) (hns : s₁.heap.Ns mainGlobals mg) (hb : s₁.heap.Ns builtinsNs mb) (hbb : ∀ x : Str, x ≠ "__name__" → mb x = bootBuiltins x) (hlim : s₁.heap.NoLimit) (hg : s₁.gens = #[])
    (ha : s₁.heap.get? a = some { cls := .type "list", data := .seq vs.toArray }) (hi : IntsAre vs ns) (hl : ns.length ≤ sizeLine) (hr : Room k callerA)
    (F : ∀ base : Heap, K.In base → base.Ns mainGlobals mg → FnOkG P w K mg base CX k fa fd [x] sp) (hbind : ∀ (s : Shared) (u : Value), BindsTo s fd ⟨[u], []⟩ [(x, u)])
    (hsp : ∀ H : Hp, Only H → SqL K H a (ns.map V.int) → sp [.ref a] H (fun v _ => v = .bl true) fun _ _ _ => False)
    (hCX : ∀ H e s', CX [] H s₁ (fun _ _ _ => False) e s' → False) :
    codeAny (model P w) callerA (.call (.ref fa) ⟨[.ref a], []⟩) (fun r s' => r = .ok (.ret (.bool true)) ∧ OldK s₁.heap s'.heap ∧ s'.os = s₁.os ∧ AllBare s'.gens) s₁ := by
  have rv := vals_ints hi
  have lenV := hi.length
  -- from an abstract heap in which nothing but the script may be tracked
  have core : ∀ H : Hp, Only H → SqL K H a (ns.map V.int) → HOk P w H s₁.heap → (∀ b, H b ≠ none → b = a) → (H a ≠ none → K.lookup a = none) →
      codeAny (model P w) callerA (.call (.ref fa) ⟨[.ref a], []⟩) (fun r s' => r = .ok (.ret (.bool true)) ∧ OldK s₁.heap s'.heap ∧ s'.os = s₁.os ∧ AllBare s'.gens) s₁ := by
    intro H hO hS hok hA hK
    have base_of : ∀ {b : Addr} {o : Obj}, s₁.heap.get? b = some o → H b = none → (hidT s₁.heap H).get? b = some o := fun e n => hidT_get e n
    have noA : ∀ {b : Addr} {o : Obj} {es : Array DictEntry} {ep : Nat}, s₁.heap.get? b = some o → o.data = .dict es ep → H b = none := fun {b o es ep} e d => by
      cases q : H b with
      | none => rfl
      | some u =>
        have e' : b = a := hA b (by rw [q]; simp)
        subst e'
        rw [ha] at e; cases e
        have d' : Data.seq vs.toArray _ = Data.dict es ep := d
        cases d'
    have nsK : ∀ {b : Addr} {m : Str → Option Value}, s₁.heap.Ns b m → (hidT s₁.heap H).Ns b m := fun {b m} ⟨o, es, ep, e, d, r⟩ => ⟨o, es, ep, base_of e (noA e d), d, r⟩
    have hKb : K.In (hidT s₁.heap H) := fun b o e => base_of (KX b o e) (by
      cases q : H b with
      | none => rfl
      | some u =>
        have e' : b = a := hA b (by rw [q]; simp)
        subst e'
        rw [hK (by rw [q]; simp)] at e; cases e)
    have hM : Mod K mg (hidT s₁.heap H) := ⟨hKb, nsK hns, ⟨mb, nsK hb, hbb⟩, let ⟨mc, h1, h2⟩ := hlim; ⟨mc, nsK h1, h2⟩⟩
    have e0 : Env0 P w K mg (hidT s₁.heap H) callerA [] s₁ H := ⟨rfl, hM, fun b o e => of_hidT e, Nat.le_of_eq (hidT_size _ _), trivial, fun b hb => absurd (show b ∈ ([] : List Addr) from hb) (by simp), hok, .of_eq hg⟩
    refine codeAny_mono ((F _ hKb (nsK hns)).run callerA [] s₁ H ⟨[.ref a], []⟩ [.ref a] [.ref a] _ _ hr rfl e0 (hbind s₁ (.ref a)) (.cons rfl .nil) (hsp H hO hS)) fun r s' h => ?_
    cases r with
    | error e => exact (hCX H e s' h).elim
    | ok fl =>
      cases fl with
      | next => exact False.elim h
      | brk => exact False.elim h
      | cont => exact False.elim h
      | ret u =>
        obtain ⟨v, H', os, bare, un, hok', r', q⟩ := h
        have q' : v = .bl true := q
        subst q'
        obtain rfl : u = Value.bool true := r'
        refine ⟨rfl, OldK.of_keep fun b o e => ?_, os, bare⟩
        cases q : H b with
        | none => exact un.keep b o e q (by intro z; exact absurd (show b ∈ ([] : List Addr) from z) (by simp)) (by simp)
        | some u =>
          rcases hO b with z | ⟨ob, xs, z⟩
          · rw [q] at z; cases z
          · have z2 := un.frzs b ob _ z
            obtain ⟨e1, _⟩ := hok b _ z
            obtain ⟨e2, _⟩ := hok' b _ z2
            rw [e] at e1; cases e1
            exact e2
  cases hk : K.lookup a with
  | some o =>
    -- the script is one of the module's own objects
    have e := KX a o hk
    rw [ha] at e
    cases e
    refine core (fun _ => none) (fun _ => .inl rfl) (.inr ⟨_, vs.toArray, _, hk, rfl, rfl, rfl, by rw [List.size_toArray, lenV]; exact hl, by simpa using rv⟩) (fun b u z => by have z' : (none : Option HO) = some u := z; cases z') (fun b z => absurd rfl z) fun z => absurd rfl z
  | none =>
    refine core (fun b => if b = a then some (.frz { cls := .type "list", data := .seq vs.toArray } (.lst (ns.map V.int))) else none) (fun b => ?_) (.inl (.inr ⟨{ cls := .type "list", data := .seq vs.toArray }, if_pos rfl⟩)) (fun b u z => ?_) (fun b z => ?_) fun _ => hk
    · by_cases hb : b = a
      · exact .inr ⟨_, _, if_pos hb⟩
      · exact .inl (if_neg hb)
    · by_cases hb : b = a
      · have z' := (if_pos hb).symm.trans z
        cases z'
        subst hb
        exact ⟨ha, by rw [List.length_map]; exact hl, vs, _, rv, ha⟩
      · have z' := (if_neg hb).symm.trans z
        cases z'
    · by_cases hb : b = a
      · exact hb
      · exact absurd (if_neg hb) z
theorem walk_ofG {l : PySem.W.OpenLaw} {n k : Nat} {q : Program} {loose : List Str} {XP : (Str → Option Value) → Heap → Prop} {YP : World → Heap → Prop} {d : DefRec} {K : Params → PySem.W.Frag} {CX : World → CXT} {sp : World → Sp} {x : Str}
    (hn : l.most = some n) (hn2 : n ≤ sizeLine) (hdf : d.params.defaults = []) (hr : Room k callerA)
    (hY : ∀ (w : World) (h : Heap), YP w h → (K w.params).In h)
    (F : ∀ (w : World) (mg : Str → Option Value) (fa : Addr) (h : Heap), (K w.params).In h → h.Ns mainGlobals mg → mg d.name = some (.ref fa) →
      ∃ fd : FuncData, (∀ (s : Shared) (u : Value), BindsTo s fd ⟨[u], []⟩ [(x, u)]) ∧
        ∀ base : Heap, (K w.params).In base → base.Ns mainGlobals mg → FnOkG l.prog w (K w.params) mg base (CX w) k fa fd [x] (sp w))
    (hsp : ∀ (w : World) (H : Hp) (a : Addr) (ns : List Int), ns.length ≤ n → Only H → SqL (K w.params) H a (ns.map V.int) → sp w [.ref a] H (fun v _ => v = .bl true) fun _ _ _ => False)
    (hCX : ∀ (w : World) (H : Hp) (s : Shared) (e : Value) (s' : Shared), CX w [] H s (fun _ _ _ => False) e s' → False) :
    PySem.W.WalkO q loose XP YP l.row.toRowW d [] (fun f vs => PySem.call f vs) := by
  refine Att.attach_call hn hdf fun w s₀ s₁ mg mb fa o pm cd doc a vs ns G Y ho hd hcd hmg hobj hints hlen hg => ?_
  have KX := hY w _ Y
  obtain ⟨fd, hb, hF⟩ := F w mg fa _ KX G.T.g hmg
  exact law_callG KX G.T.g G.T.b G.T.builtins G.T.nolimit hg hobj hints (Nat.le_trans hlen hn2) hr hF hb (fun H hO hS => hsp w H a ns hlen hO hS) fun H e s' => hCX w H s₁ e s'
theorem FnOk.toG {P : Program} {w : World} {K : PySem.W.Frag} {mg : Str → Option Value} {base : Heap} {CX : CXT} {k : Nat} {f : Addr} {fd : FuncData} {ps : List Str} {sp : Sp} (F : FnOk P w K mg base CX k f fd ps sp) : FnOkG P w K mg base CX k f fd ps sp :=
  ⟨F.len, fun A outer s H args us vs Q E hr _ => F.run A outer s H args us vs Q E hr⟩
end L2
namespace Fp
open PySem PySem.Spec PyProof.Rows L2
section
variable {P : Program} {w : World} {K : PySem.W.Frag} {mg : Str → Option Value} {base : Heap}
theorem fun_okG {x qual : Str} {st : Stmt} {f : Addr} {fd : FuncData} {N ps : List Str} {k : Nat} {sp : Sp} (F : Fun K x qual st f fd) (S : FnScope N ps (defScope st)) (len : ∀ vs H Q E, sp vs H Q E → vs.length = ps.length)
    (hbody : ∀ (cdv : Value) (A : Around) (outer : List Env) (s : Shared) (H : Hp) (vs : List V) (Q : VK) (E : XK), Room k (A.deeper (envOfC qual (defScope st) s.heap.objs.size f cdv)) → (A.deeper (envOfC qual (defScope st) s.heap.objs.size f cdv)).guards = some [] → sp vs H Q E →
      ∃ t, PSs (cxOf CX0 P w K mg base N qual (defScope st) f cdv A outer s H E).nox (defBody st) t ∧ t { nx := fun _ H' => Q .non H', rt := Q } (start N vs) H) : FnOkG P w K mg base CX0 (k + 1) f fd ps sp := by
  obtain ⟨oc, od, kV, doc, pm, an, cdv, ct, osl, rfl, lk, hcd⟩ := F.ex
  refine fn_ofG lk hcd S len fun A outer s H vs Q E hr hg hsp => ?_
  obtain ⟨t, h, q⟩ := hbody cdv A outer s H vs Q E hr hg hsp
  exact ⟨t, h.nox, q⟩
structure FdG (P : Program) (w : World) (K : PySem.W.Frag) (mg : Str → Option Value) (base : Heap) (CX : CXT) (x : Str) (k : Nat) (ps : List Str) (sp : Sp) : Prop where
  ex : ∃ (f : Addr) (fd : FuncData), mg x = some (.ref f) ∧ PySem.W.keepIn K (.ref f) = true ∧ Binds K fd ps [] ∧ FnOkG P w K mg base CX k f fd ps sp
end
section
variable {X : Cx} {x : Str} {k : Nat} {ps : List Str} {sp : Sp} {e : Expr} {es : List Expr} {t : TA} {p pos : Pos}
theorem pe_fdG (G : FdG X.prog X.w X.K X.mg X.base CX0 x k ps sp) (hr : Room k X.A) (hgu : X.A.guards = some []) (hg : Gl X x) (ha : PA X (e :: es) t) (hdb : (x == ("__debug__" : Str)) = false := by decide)
    (he : starEach (e :: es) X.env = (false, eval e X.env) :: starEach es X.env := by rfl) (hpl : (backTo pos (starEach es X.env)).any (·.1) = false := by rfl) :
    PE X (.Call (.Name x p) (e :: es) [] pos) (tCall sp [] E0 t) := by
  obtain ⟨f, fd, hm, hk, hb, F⟩ := G.ex
  refine ⟨fun pins s σ H Q I h => ?_⟩
  refine wpAny_Call_Name_kw (ld_glob I hg hm ?_ hdb)
  refine PySem.W.callWith_K (h₀ := X.base) I.ok.mod.kin hk (thn (ha.run pos pins s σ H _ I h) fun us s1 ⟨vs, H1, I1, r, q⟩ => ⟨I1.kIn, ?_⟩) he hpl
  have r2 : Vals (vs ++ []) (us ++ []) := r.append .nil
  have hl : (us ++ []).length = ps.length := by rw [← r2.length]; exact F.len _ _ _ _ q
  refine wpAny_call (codeAny_mono (F.run X.A X.stack s1 H1 ⟨us, []⟩ (us ++ []) (vs ++ []) Q E0 hr hgu I1.env0 (hb s1 us I1.kIn hl) r2 q) fun r s' hq => ?_)
  cases r with
  | error e => exact pass0 pins σ H1 s1 e s' I1 hq
  | ok fl =>
    cases fl with
    | ret u => exact I1.after hq
    | next => exact False.elim hq
    | brk => exact False.elim hq
    | cont => exact False.elim hq
/-- repr(x), x of data -/
theorem call_reprG (hgu : X.A.guards = some []) (hu : X.A.units + 64 < cLine) : CallR X (.builtin "repr") (fun xs H Q => ∃ (p : Addr) (d : PyData), xs = [.ref p] ∧ Dp X.K H (.ref p) d ∧ d.showable = true ∧ d.hasDict = false ∧ d.depth ≤ 60 ∧ d.shown.length ≤ sizeLine ∧ Q (.str d.shown) H) := by
  intro pins s σ H xs us Q I r h
  obtain ⟨p, d, rfl, hd, h1, h2, h3, h4, q⟩ := h
  obtain ⟨u, rfl, rx⟩ := vals1 r
  obtain ⟨as, rd⟩ := Dp.reads I d _ u hd rx
  cases rx
  exact repr_of_reads' rd h1 (fun z => by rw [h2] at z; cases z) hgu (by omega) (fun _ _ z => z) (fun h' u tk k => ⟨.str d.shown, H, I.kept (t' := tk) k, ⟨_, rfl⟩, q⟩) h4
end
end Fp
namespace Fp
open PySem PySem.Spec PyProof.Rows L2
/-! ### for i, x in enumerate(tuple, start) -/
def ItF (K : PySem.W.Frag) (a : Addr) (lo : Int) : It :=
  ⟨fun i H => ∃ (ys : List V) (y : V), SqT K H a ys ∧ ys[i]? = some y,
   fun i H v H' => ∃ T y, v = .ref T ∧ H T = none ∧ H' = upd H T (.tup [.int (lo + (i : Nat)), y]) ∧ ∀ ys, SqT K H a ys → ys[i]? = some y,
   fun i H => ∃ ys : List V, SqT K H a ys ∧ ys.length ≤ i⟩
theorem turn_enumF {P : Program} {w : World} {K : PySem.W.Frag} {elts : List Expr} {kk : Nat} {tpos : Pos} (a e it : Addr) (lo : Int) :
    Turn P w K (.Tuple elts kk tpos) (ItF K a lo) [e, it] e (fun i h => (∃ was, IsEnum h e it (lo + ((i : Nat) : Int)) was) ∧ h.IsTupleIter it a i ∧ e ≠ it) where
  mem := List.mem_cons_self
  obj := fun i h st b hb => by
    obtain ⟨⟨was, he⟩, ⟨o, ho, hc, hd⟩, _⟩ := st
    rcases List.mem_cons.mp hb with z | z
    · subst z
      exact ⟨_, he, fun v q => nomatch q⟩
    · have z' := List.mem_singleton.mp z
      subst z'
      exact ⟨o, ho, fun v q => by rw [hd] at q; cases q⟩
  keep := fun i h h' st k => ⟨st.1.imp fun was he => k e (by simp) _ he, st.2.1.at fun o q => k it (by simp) o q, st.2.2⟩
  item := by
    intro X hP hw hK hc i pins s σ H E I hf st hg
    subst hP hw hK
    obtain ⟨⟨was, he⟩, hit, hne⟩ := st
    obtain ⟨ys, y, hq, hx⟩ := hg
    obtain ⟨its, rv, lp, hz⟩ := I.tuple hq
    obtain ⟨u, hu, ru⟩ := rv.get hx
    have le : e < s.heap.objs.size := Heap.lt_size he
    have li : it < s.heap.objs.size := by
      obtain ⟨_, q, _⟩ := hit
      exact Heap.lt_size q
    have fr := I.hok.fresh (Nat.le_refl s.heap.objs.size)
    have hL := lp
    have nel : e ≠ a := fun z => by
      obtain ⟨o, ho, hc', _⟩ := hL
      rw [← z, (show s.heap.get? e = some _ from he)] at ho
      cases ho
      injection hc' with z'
      exact absurd z' (by decide)
    have nil' : a ≠ it := fun z => by
      obtain ⟨o, ho, hc', _⟩ := hL
      obtain ⟨o2, ho2, hc2, _⟩ := hit
      rw [z, ho2] at ho
      cases ho
      rw [hc2] at hc'
      injection hc' with z'
      exact absurd z' (by decide)
    have hiu : its.toArray[i]? = some u := by simpa using hu
    have hlt : i < its.toArray.size := by
      by_cases z : i < its.toArray.size
      · exact z
      · rw [Array.getElem?_eq_none (by omega)] at hiu
        cases hiu
    refine wpAny_pyNext_enum_itemC (Draws.tuple (A := X.A.in1) (I.ok.hd hc) it a nil' its.toArray) he ⟨hit, hL⟩ hlt hne (by simp [hne, nel]) fun x h1 tk hx1 ho hst1 hT hsz hk => ⟨_, rfl, ?_⟩
    rw [hiu] at hx1
    cases hx1
    have hit1 := hst1.1
    refine wpAny_letOwnedTupleGo_enum (s := { s with heap := h1, toks := tk + 1 }) ho fun h2 he2 sb => ?_
    have hT2 := (sb.2 _ (Nat.ne_of_gt le)).trans hT
    have mem2 : ∀ {b : Addr}, b ∈ [e, it] → b < s.heap.objs.size := fun {b} hb => by
      rcases List.mem_cons.mp hb with z | z
      · rw [z]; exact le
      · rw [List.mem_singleton.mp z]; exact li
    refine ⟨.ref s.heap.objs.size, upd H s.heap.objs.size (.tup [.int (lo + (i : Nat)), y]), ?_, rfl, ⟨_, y, rfl, fr, rfl, fun zs hy => by rw [I.tuple_inj hy hq]; exact hx⟩, ⟨⟨u, ?_⟩, hit1.at fun o q => (sb.2 it (Ne.symm hne)).trans q, hne⟩, fun b hb => ?_⟩
    · refine I.turnedNew (ch := [e, it]) (fun b ob hb q => ?_) hf (Nat.le_refl _) ⟨by show 2 ≤ sizeLine; decide, [.int (lo + (i : Nat)) tk, u], .cons ⟨_, rfl⟩ (.cons ru .nil), ⟨_, hT2, rfl, _, rfl⟩⟩
      have be : b ≠ e := fun z => hb (by simp [z])
      have bi : b ≠ it := fun z => hb (by simp [z])
      exact (sb.2 b be).trans (hk b ob be bi q)
    · have e1 : lo + (((i + 1 : Nat)) : Int) = lo + (i : Int) + 1 := by omega
      rw [e1]
      exact he2
    · rw [upd_ne (Nat.ne_of_lt (mem2 hb))]
      exact (hf b hb).1
  done := by
    intro X hP hw hK hc i pins s σ H E I hf st hg
    subst hP hw hK
    obtain ⟨⟨was, he⟩, hit, hne⟩ := st
    obtain ⟨ys, hq, hx⟩ := hg
    obtain ⟨its, rv, lp, hz⟩ := I.tuple hq
    obtain ⟨f0, f1, f2, f3, f4, f5⟩ := hf it (by simp)
    have hl := rv.length
    have D : Draws X.prog X.w X.A.in1 it [it, a] i (fun _ _ => False) (fun j h => j = i ∧ h.IsTupleIter it a i ∧ h.IsTuple a its.toArray) := {
      live := fun j h st => by
        obtain ⟨_, ⟨o, ho, _⟩, _⟩ := st
        exact ⟨o, ho⟩
      frame := fun j h h' st k => ⟨st.1, st.2.1.at fun o q => k it (by simp) o q, st.2.2.at fun o q => k a (by simp) o q⟩
      item := fun j s Q E hj st _ => by
        have := st.1
        omega
      done := fun s Q E st hE => wpAny_nextOf_tuple_end (I.ok.hd hc) st.2.1 st.2.2 (by simp; omega) hE }
    exact wpAny_pyNext_enum_endD D he ⟨rfl, hit, lp⟩ fun h1 eb => ⟨rfl, I.turned (t' := s.toks) (fun b o hb q => eb b o hb q) f0 f1 f3 f4 f5⟩
  self := fun A i s Q E st h => st.1.elim fun _ he => wpAny_pyIter_enum he h
def iEnumF (K : PySem.W.Frag) (ta : TA) : TI := fun σ H R => ta σ H fun vs H1 => ∃ a xs lo, vs = [.ref a, .int lo] ∧ SqT K H1 a xs ∧ -(2 ^ 62) ≤ lo ∧ lo < 2 ^ 62 ∧ R (ItF K a lo) H1
theorem pi_enumF {X : Cx} {e1 e2 : Expr} {ta : TA} {p pos tpos : Pos} {elts : List Expr} {kk : Nat} (hg : Gl X "enumerate") (hm : X.mg "enumerate" = none) (ha : PA X [e1, e2] ta)
    (he : starEach (e1 :: [e2]) X.env = (false, eval e1 X.env) :: starEach [e2] X.env := by rfl) (hpl : (backTo pos (starEach [e2] X.env)).any (·.1) = false := by rfl) :
    PI X (.Tuple elts kk tpos) (.Call (.Name "enumerate" p) [e1, e2] [] pos) (iEnumF X.K ta) := by
  refine ⟨fun pins s σ H R I h => ?_⟩
  refine Call_ (ld_blt I hg hm boot_enumerate (PyProof.Rows.callWith_type1 (thn (ha.run pos pins s σ H _ I h) fun us s1 hh => ?_) he hpl))
  obtain ⟨vs, H1, I1, r1, a, xs, lo, ex, hq, hl0, hl1, q⟩ := hh
  subst ex
  obtain ⟨u1, u2, rfl, ra, rb⟩ := vals2 r1
  obtain rfl : u1 = Value.ref a := ra
  obtain ⟨t, rfl⟩ := rb
  obtain ⟨its, rv, lp, hz⟩ := I1.tuple hq
  refine enum_begins (begins_tuple a its.toArray) lp (by omega) (by omega) fun h1 he hit hsz hk => wpAny_pyIter_enum he ?_
  have I2 : Inv X pins σ H1 { s1 with heap := h1 } := I1.kept (t' := s1.toks) hk
  refine ⟨s1.heap.objs.size + 1, [s1.heap.objs.size + 1, s1.heap.objs.size], _, _, H1, rfl, I2, turn_enumF a (s1.heap.objs.size + 1) s1.heap.objs.size lo, ⟨⟨.none, by simpa using he⟩, ⟨_, hit, rfl, rfl⟩, Nat.succ_ne_self _⟩, fun b hb => ?_, q⟩
  have hle : s1.heap.objs.size ≤ b := by
    rcases List.mem_cons.mp hb with z | z
    · rw [z]; exact Nat.le_add_right _ _
    · rw [List.mem_singleton.mp z]; exact Nat.le_refl _
  exact I1.fpOk hle (I1.hok.fresh hle)

set_option maxHeartbeats 1000000 in
theorem meets_enumerate_newB1 {v : Value} {o : Obj} {H : Heap → Prop} (B : Begins v o H) :
    Meets (Builtin.«enumerate.__new__» ⟨[.type "enumerate", v], []⟩) (fun _ R s => H s.heap ∧
      R (.ok (.ret (.ref (s.heap.push o).objs.size))) { s with heap := (s.heap.push o).push { cls := .type "enumerate", data := .fields #[.none, .bool false, .ref s.heap.objs.size, rawInt 0, .none, .none] } }) :=
  .of_wp fun prog w A R s h => by
    obtain ⟨hp, g, d, tk, os⟩ := s; obtain ⟨h1, h⟩ := h
    have hsub := sub_enumerate
    have q1 : ∀ {A' : Around} {E : Value → Shared → Prop} {Q : Value → Shared → Prop}, Q (.ref hp.objs.size) ⟨hp.push o, g, d, tk, os⟩ → wpAny (model prog w) A' (pyIter v) Q E ⟨hp, g, d, tk, os⟩ :=
      fun q => B.iter prog w _ _ ⟨hp, g, d, tk, os⟩ _ h1 q
    wp_walk using q1
    refine wpAny_stack_any fun st => wpAny_pure ?_
    split
    · rename_i c _ _ _ _ _
      cases (c == Value.type "enumerate")
      · wp_walk using q1
        exact ⟨_, rfl, h⟩
      · wp_walk using q1
        exact ⟨_, rfl, h⟩
    · wp_walk using q1
      exact ⟨_, rfl, h⟩
section
variable {prog : Program} {w : World} {A : Around} {E : Value → Shared → Prop} {s : Shared}
theorem enum_begins1 {v : Value} {o : Obj} {H : Heap → Prop} {Q : Value → Shared → Prop} (B : Begins v o H) (h1 : H s.heap)
    (h : ∀ h', IsEnum h' (s.heap.objs.size + 1) s.heap.objs.size 0 .none → h'.get? s.heap.objs.size = some o → h'.objs.size = s.heap.objs.size + 2 →
      (∀ b o, s.heap.get? b = some o → h'.get? b = some o) → Q (.ref (s.heap.objs.size + 1)) { s with heap := h' }) :
    wpAny (model prog w) A (call (.type "enumerate") [v]) Q E s := by
  refine callType_new F.called_enumerate (by decide) (F.typeCall_enumerate_1 _) (F.newCall_enumerate_1 _) (fun obj => F.args_object_init_2 obj _) F.entry_enumerate_new
    (meets_enumerate_newB1 B) ⟨h1, ?_⟩
  have hz : (s.heap.push o).objs.size = s.heap.objs.size + 1 := Heap.size_push ..
  show _ ∧ _
  rw [hz]
  have he : IsEnum ((s.heap.push o).push { cls := .type "enumerate", data := .fields #[.none, .bool false, .ref s.heap.objs.size, rawInt 0, .none, .none] }) (s.heap.objs.size + 1) s.heap.objs.size 0 .none := by
    have := Heap.get?_push_size (s.heap.push o) (o := { cls := .type "enumerate", data := .fields #[.none, .bool false, .ref s.heap.objs.size, rawInt 0, .none, .none] }) rfl
    rw [hz] at this; exact this
  refine ⟨⟨_, he, rfl⟩, h _ he (Heap.get?_push_of_some _ (Heap.get?_push_size _ B.free)) (by rw [Heap.size_push, hz]) fun b o x => Heap.get?_push_of_some _ (Heap.get?_push_of_some _ x)⟩
end
def iEnumT (K : PySem.W.Frag) (ta : TA) : TI := fun σ H R => ta σ H fun vs H1 => ∃ a xs, vs = [.ref a] ∧ SqT K H1 a xs ∧ R (ItF K a 0) H1
theorem pi_enumT {X : Cx} {e1 : Expr} {ta : TA} {p pos tpos : Pos} {elts : List Expr} {kk : Nat} (hg : Gl X "enumerate") (hm : X.mg "enumerate" = none) (ha : PA X [e1] ta)
    (hs : starEach [e1] X.env = [(false, eval e1 X.env)] := by rfl) :
    PI X (.Tuple elts kk tpos) (.Call (.Name "enumerate" p) [e1] [] pos) (iEnumT X.K ta) := by
  refine ⟨fun pins s σ H R I h => ?_⟩
  refine Call_ (ld_blt I hg hm boot_enumerate (PyProof.Rows.callWith_type1 (thn (ha.run pos pins s σ H _ I h) fun us s1 hh => ?_) hs rfl))
  obtain ⟨vs, H1, I1, r1, a, xs, ex, hq, q⟩ := hh
  subst ex
  obtain ⟨u1, rfl, ra⟩ := vals1 r1
  obtain rfl : u1 = Value.ref a := ra
  obtain ⟨its, rv, lp, hz⟩ := I1.tuple hq
  refine enum_begins1 (begins_tuple a its.toArray) lp fun h1 he hit hsz hk => wpAny_pyIter_enum he ?_
  have I2 : Inv X pins σ H1 { s1 with heap := h1 } := I1.kept (t' := s1.toks) hk
  refine ⟨s1.heap.objs.size + 1, [s1.heap.objs.size + 1, s1.heap.objs.size], _, _, H1, rfl, I2, turn_enumF a (s1.heap.objs.size + 1) s1.heap.objs.size 0, ⟨⟨.none, by simpa using he⟩, ⟨_, hit, rfl, rfl⟩, Nat.succ_ne_self _⟩, fun b hb => ?_, q⟩
  have hle : s1.heap.objs.size ≤ b := by
    rcases List.mem_cons.mp hb with z | z
    · rw [z]; exact Nat.le_add_right _ _
    · rw [List.mem_singleton.mp z]; exact Nat.le_refl _
  exact I1.fpOk hle (I1.hok.fresh hle)
theorem walk_enumT {K : PySem.W.Frag} {a : Addr} {xs : List V} {lo : Int} : Walk (ItF K a lo) xs.length (fun H => SqT K H a xs) (fun i H v H' => ∃ T y, v = .ref T ∧ H T = none ∧ H' = upd H T (.tup [.int (lo + (i : Nat)), y]) ∧ xs[i]? = some y) where
  goes := fun i H hi h => ⟨xs, xs[i], h, List.getElem?_eq_getElem hi⟩
  stops := fun H h => ⟨xs, h, Nat.le_refl _⟩
  yields := fun i H v H' hi h y => by
    obtain ⟨T, y, e1, e2, e3, e4⟩ := y
    exact ⟨T, y, e1, e2, e3, e4 _ h⟩
end Fp
/-! Rules: tuple * 1, tuple.index of flat items, repr of any data, not equal -/
namespace L2
open PySem PySem.Spec PyProof.Rows
theorem tuple_mul1 (l : Addr) (items : Array Value) (n : Nat) (dd : Option Addr) (sl : Array (Option Value)) (u : Tok) :
    Meets (Builtin.«tuple.__mul__» ⟨[.ref l, .int 1 u], []⟩) (fun _ R s => s.heap.get? l = some { cls := .type "tuple", dict := dd, data := .seq items n, slots := sl } ∧
      R (.ok (.ret (Value.ref l))) s) :=
  .of_wp fun prog w A R s h => by
    obtain ⟨hp, g, d, tk, os⟩ := s
    obtain ⟨hl, h⟩ := h
    have f1 := AutoSeq1.idx_int
    have c0 : ¬ ((decide ((1 : Int) < -(2 ^ 63)) || decide ((1 : Int) ≥ 2 ^ 63)) = true) := by decide
    have c1 : (items.isEmpty || (1 : Int) == 1) = true := by simp
    wp_walk using wpAny_loadPart' hl
    repeat (first
      | (refine wpAny_ite_false (decide_eq_false (by decide)) ?_; wp_walk using wpAny_loadPart' hl)
      | (refine wpAny_ite_true (decide_eq_true c1) ?_; wp_walk using wpAny_loadPart' hl))
    all_goals first | exact ⟨_, rfl, h⟩ | exact h
def rRepU (K : PySem.W.Frag) : R2 := fun x y H Q => ∃ l k xs, x = .ref l ∧ y = .int k ∧ SqT K H l xs ∧ xs ≠ [] ∧ 1 ≤ k ∧ k ≤ 1000 ∧ xs.length ≤ 1000 ∧ (k = 1 → Q (.ref l) H) ∧ (2 ≤ k → ∀ p, H p = none → Q (.ref p) (upd H p (.tup (List.replicate k.toNat xs).flatten)))
section
variable {X : Cx}
theorem op_repU : OpR X (binaryOp .Mult) (rRepU X.K) := by
  intro pins s σ H x y v u Q I rx ry h
  obtain ⟨l, k, xs, rfl, rfl, hT, hne, h1, h2, hz, q1, q2⟩ := h
  by_cases hk : k = 1
  · subst hk
    cases rx
    obtain ⟨t, rfl⟩ := ry
    obtain ⟨its, r, ⟨⟨cls, dd, data, sl⟩, ho, hc, n, hd⟩, hs⟩ := I.tuple hT
    simp only at hc hd
    subst hc hd
    refine wpAny_binaryOp_repeat_ref (T := "tuple") (U := "int") (by decide) ⟨_, ho, rfl⟩ (fun s' => typeIs_int s' 1 t) noFill_tuple_mul F.fills_int_mul F.slot_int_rmul repeat_tuple F.slot_int_index.lookup
      (call_meets F.slot_int_rmul (typeIs_int s 1 t) F.entry_int_rmul (F.args_int_rmul_2 _ _) (int_rmul_tuple 1 t l its.toArray n dd sl)
        ⟨ho, rfl, ⟨_, ho, rfl⟩, call_meets F.slot_tuple_mul ⟨_, ho, rfl⟩ F.entry_tuple_mul (F.args_tuple_mul_2 _ _) (tuple_mul1 l its.toArray n dd sl t) ⟨ho, ?_⟩⟩)
    exact ⟨.ref l, H, I, rfl, q1 rfl⟩
  · exact op_repT pins s σ H _ _ v u Q I rx ry ⟨l, k, xs, rfl, rfl, hT, hne, by omega, h2, hz, q2 (by omega)⟩
/-- t.index(x), x and all of t flat: the first place -/
theorem mt_tindex : MtR X "tuple.index" (fun x xs H Q => ∃ (p : Addr) (ys : List V) (y : V) (j : Nat) (z : V), x = .ref p ∧ xs = [y] ∧ SqT X.K H p ys ∧ flatV y = true ∧ ys.all flatV = true ∧ ys[j]? = some z ∧ eqV z y = true ∧
    (∀ (m : Nat) (z' : V), m < j → ys[m]? = some z' → eqV z' y = false) ∧ Q (.int (j : Nat)) H) := by
  intro pins s σ H x xs v us Q I rx rs h
  obtain ⟨p, ys, y, j, z, rfl, rfl, hq, fy, fys, hz, hzj, hno, q⟩ := h
  cases rx
  obtain ⟨uy, rfl, ry⟩ := vals1 rs
  obtain ⟨its, rv, pl, hlen⟩ := I.tuple hq
  obtain ⟨⟨cls, dd, dt, sl⟩, ho, hc, n, hd⟩ := pl
  simp only at hc hd
  subst hc
  subst hd
  obtain ⟨u, hu, ru⟩ := rv.get hz
  obtain ⟨hjl, hje⟩ := List.getElem?_eq_some_iff.mp hu
  have hvl := rv.length
  have hj : j < its.toArray.size := by simpa using hjl
  refine call_meets PySem.F.slot_tuple_index ⟨_, ho, rfl⟩ PySem.F.entry_tuple_index (PySem.F.args_tuple_index_2 _ _) (TI.tuple_indexAt p its.toArray n dd sl uy (eqU y) j hj ?_ ?_)
    ⟨ho, fun u' hu' => mem_eqAt ry fy rv fys u' (by simpa using hu'), ⟨.int (j : Nat), H, I.tok _, ⟨_, rfl⟩, q⟩⟩
  · have e1 : its.toArray[j] = u := by simpa using hje
    rw [e1, eqU_of ru (flat_at fys hz)]
    exact hzj
  · intro m hm hmj
    have hml : m < its.length := by simpa using hm
    have hmy : m < ys.length := by omega
    have hy' : ys[m]? = some ys[m] := List.getElem?_eq_getElem hmy
    obtain ⟨u2, hu2, ru2⟩ := rv.get hy'
    obtain ⟨_, hme⟩ := List.getElem?_eq_some_iff.mp hu2
    have e1 : its.toArray[m] = u2 := by simpa using hme
    rw [e1, eqU_of ru2 (flat_at fys hy')]
    exact hno m _ hmj hy'
/-! ### tuples of which it is known that they have no dict -/
def TF (H : Hp) (a : Addr) (xs : List V) : Prop := ∃ o, H a = some (.frz o (.tup xs)) ∧ o.dict = none
theorem TF.sq {K : PySem.W.Frag} {H : Hp} {a : Addr} {xs : List V} (h : TF H a xs) : SqT K H a xs := by
  obtain ⟨o, h, _⟩ := h
  exact .inl (.inr ⟨o, h⟩)
def tTupF (t : TA) : TE := fun σ H Q => t σ H fun xs H1 => xs.length ≤ sizeLine ∧ ∀ p o, H1 p = none → o.dict = none → Q (.ref p) (upd H1 p (.frz o (.tup xs)))
theorem pe_tupF {es : List Expr} {x1} {t : TA} {pos : Pos} (h : PA X es t) : PE X (.Tuple es x1 pos) (tTupF t) := by
  refine ⟨fun pins s σ H Q I hq => ?_⟩
  refine wpAny_Tuple_spliced (thn (h.run pos pins s σ H _ I hq) fun us s1 ⟨xs, H1, I1, r, z, q⟩ => ⟨by rw [← r.length]; exact z, ?_⟩)
  have hf : H1 s1.heap.objs.size = none := I1.hok.fresh (Nat.le_refl _)
  refine ⟨.ref s1.heap.objs.size, upd H1 s1.heap.objs.size (.frz { cls := .type "tuple", data := .seq us.toArray } (.tup xs)), I1.laid (t' := s1.toks) (fun b u e => Heap.get?_push_of_some _ e) (Nat.le_refl _) ?_, rfl, q _ _ hf rfl⟩
  exact ⟨Heap.get?_push_size _ rfl, z, us, r, ⟨_, Heap.get?_push_size _ rfl, rfl, _, rfl⟩⟩
def rCatF (K : PySem.W.Frag) : R2 := fun x y H Q => ∃ a b xs ys, x = .ref a ∧ y = .ref b ∧ SqT K H a xs ∧ SqT K H b ys ∧ xs.length + ys.length ≤ sizeLine ∧
  (xs = [] → Q (.ref b) H) ∧ (xs ≠ [] → ys = [] → Q (.ref a) H) ∧ (xs ≠ [] → ys ≠ [] → ∀ p o, H p = none → o.dict = none → Q (.ref p) (upd H p (.frz o (.tup (xs ++ ys)))))
theorem op_catF : OpR X (binaryOp .Add) (rCatF X.K) := by
  intro pins s σ H x y v u Q I rx ry h
  obtain ⟨a, b, xs, ys, rfl, rfl, ha, hb, hz, q0, q1, q2⟩ := h
  cases rx
  cases ry
  obtain ⟨its, r1, p1, _⟩ := I.tuple ha
  obtain ⟨its2, r2, p2, _⟩ := I.tuple hb
  by_cases hx : xs = []
  · subst hx
    cases r1
    exact cat_tup0 p1 p2 ⟨.ref b, H, I, rfl, q0 rfl⟩
  · refine HT.cat_tup p1 p2 (fun z => hx (r1.nil_iff.mp z)) (fun z => ⟨.ref a, H, I, rfl, q1 hx (r2.nil_iff.mp z)⟩) (fun z => ?_) (by rw [← r1.length, ← r2.length]; exact hz)
    refine ⟨.ref s.heap.objs.size, _, I.laid (t' := s.toks) (o := .frz { cls := .type "tuple", data := .seq (its ++ its2).toArray } (.tup (xs ++ ys))) (fun b ob q => Heap.get?_push_of_some _ q) (Nat.le_refl _) ?_, rfl, q2 hx (fun w => z (r2.nil_iff.mpr w)) _ _ (I.hok.fresh (Nat.le_refl _)) rfl⟩
    exact ⟨Heap.get?_push_size _ rfl, by rw [List.length_append]; exact hz, _, r1.append r2, IsTup.new _ _⟩
def rRepF (K : PySem.W.Frag) : R2 := fun x y H Q => ∃ l k xs, x = .ref l ∧ y = .int k ∧ SqT K H l xs ∧ xs ≠ [] ∧ 1 ≤ k ∧ k ≤ 1000 ∧ xs.length ≤ 1000 ∧ (k = 1 → Q (.ref l) H) ∧ (2 ≤ k → ∀ p o, H p = none → o.dict = none → Q (.ref p) (upd H p (.frz o (.tup (List.replicate k.toNat xs).flatten))))
theorem op_repF : OpR X (binaryOp .Mult) (rRepF X.K) := by
  intro pins s σ H x y v u Q I rx ry h
  obtain ⟨l, k, xs, rfl, rfl, hT, hne, h1, h2, hz, q1, q2⟩ := h
  by_cases hk : k = 1
  · subst hk
    exact op_repU pins s σ H _ _ v u Q I rx ry ⟨l, 1, xs, rfl, rfl, hT, hne, h1, h2, hz, q1, fun z => absurd z (by decide)⟩
  · cases rx
    obtain ⟨t, rfl⟩ := ry
    obtain ⟨its, r, ⟨⟨cls, dd, data, sl⟩, ho, hc, n, hd⟩, hs⟩ := I.tuple hT
    simp only at hc hd
    subst hc hd
    have hle : its.length = xs.length := r.length.symm
    have hn : its ≠ [] := fun e => hne (by
      rw [e] at hle
      exact List.eq_nil_of_length_eq_zero hle.symm)
    have hi : its.toArray.isEmpty = false := by
      cases its with
      | nil => exact absurd rfl hn
      | cons a b => rfl
    have hsz0 : its.toArray.size = xs.length := by rw [List.size_toArray, hle]
    have hm : ((its.toArray.size : Nat) : Int) * k ≤ 1000000 := by
      rw [hsz0]
      have a1 : ((xs.length : Nat) : Int) * k ≤ 1000 * k := Int.mul_le_mul_of_nonneg_right (by omega) (by omega)
      omega
    have flen : (List.replicate k.toNat its).flatten.length ≤ sizeLine := by
      rw [PyProof.Rows.lm_len_rep_flat, hle, sizeLine_eq]
      have a1 : k.toNat * xs.length ≤ 1000 * 1000 := Nat.mul_le_mul (by omega) hz
      omega
    have c0 : (decide (k < -(2 ^ 63)) || decide (k ≥ 2 ^ 63)) = false := by
      rw [decide_eq_false (by omega), decide_eq_false (by omega)] <;> rfl
    have c1 : (its.toArray.isEmpty || k == 1) = false := by
      rw [hi, Bool.false_or]
      exact beq_eq_false_iff_ne.mpr (by omega)
    have c2 : (decide (k ≤ 0) || its.toArray.isEmpty) = false := by
      rw [hi, Bool.or_false]
      exact decide_eq_false (by omega)
    have c4 : Builtin.Tuple.tupleTooMany (((its.toArray.size : Nat) : Int) * k) = false := by
      unfold Builtin.Tuple.tupleTooMany
      rw [sizeLine_eq]
      exact decide_eq_false (by omega)
    refine wpAny_binaryOp_repeat_ref (T := "tuple") (U := "int") (by decide) ⟨_, ho, rfl⟩ (fun s' => typeIs_int s' k t) noFill_tuple_mul F.fills_int_mul F.slot_int_rmul repeat_tuple F.slot_int_index.lookup
      (call_meets F.slot_int_rmul (typeIs_int s k t) F.entry_int_rmul (F.args_int_rmul_2 _ _) (int_rmul_tuple k t l its.toArray n dd sl)
        ⟨ho, rfl, ⟨_, ho, rfl⟩, call_meets F.slot_tuple_mul ⟨_, ho, rfl⟩ F.entry_tuple_mul (F.args_tuple_mul_2 _ _) (tuple_mulW l its.toArray n dd sl k t c0 c1 c2 (by omega) c4 (by rw [size_rep, List.size_toArray]; exact flen)) ⟨ho, ?_⟩⟩)
    rw [size_rep]
    refine ⟨.ref s.heap.objs.size, _, I.laid (t' := s.toks) (o := .frz { cls := .type "tuple", data := .seq (List.replicate k.toNat its).flatten.toArray } (.tup (List.replicate k.toNat xs).flatten)) (fun b ob q => Heap.get?_push_of_some _ q) (Nat.le_refl _) ?_, rfl, q2 (by omega) _ _ (I.hok.fresh (Nat.le_refl _)) rfl⟩
    exact ⟨Heap.get?_push_size _ rfl, by rw [PyProof.Rows.lm_len_rep_flat, sizeLine_eq]; have a1 : k.toNat * xs.length ≤ 1000 * 1000 := Nat.mul_le_mul (by omega) hz; omega, _, r.rep k.toNat, IsTup.new _ _⟩
/-- t.index(x) -/
def tTIdx (K : PySem.W.Frag) (to te : TE) : TE := fun σ H Q => to σ H fun x H1 => (∃ p ys, x = .ref p ∧ TF H1 p ys) ∧ te σ H1 fun y H2 => ∃ (p : Addr) (ys : List V) (j : Nat) (z : V), x = .ref p ∧ SqT K H2 p ys ∧ flatV y = true ∧ ys.all flatV = true ∧ ys[j]? = some z ∧ eqV z y = true ∧
    (∀ (m : Nat) (z' : V), m < j → ys[m]? = some z' → eqV z' y = false) ∧ Q (.int (j : Nat)) H2
theorem pe_tindex {o e : Expr} {to te : TE} {apos cpos : Pos} (ho : PE X o to) (he : PE X e te)
    (hbase : attributeBase o "index" X.env (eval o X.env) = eval o X.env := by rfl)
    (hfew : ((backTo cpos (starEach [e] X.env)).all (fun x => !x.1) && (backToKw cpos (keywordEach [] X.env)).all (fun x => x.1.isSome)
      && decide ([e].length + ([] : List Keyword).length + (if ([] : List Keyword).isEmpty then 0 else 1) < 30)) = true := by rfl)
    (hline : (apos.endLine == cpos.line) = true := by rfl) (hs : starEach [e] X.env = (false, eval e X.env) :: starEach [] X.env := by rfl) (hplain : (backTo cpos (starEach [] X.env)).any (·.1) = false := by rfl) :
    PE X (.Call (.Attribute o "index" apos) [e] [] cpos) (tTIdx X.K to te) := by
  refine ⟨fun pins s σ H Q I h => ?_⟩
  refine wpAny_Call_method_late hbase hfew hline rfl (thn (ho.run pins s σ H _ I h) fun v s1 ⟨x, H1, I1, r1, ⟨p, ys, ex, ⟨ob, hob, hdd⟩⟩, q1⟩ => ?_)
  subst ex
  cases r1
  have e1 := (I1.hok p _ hob).1
  obtain ⟨its, rv, pl, hz⟩ := I1.tuple (.inl (.inr ⟨ob, hob⟩))
  refine ⟨"tuple", "tuple.index", PySem.F.plainAttrs_tuple, PySem.F.slot_tuple_index, PySem.F.type_tuple_index, pl.typeIs, fun a ea => by cases ea; exact ⟨ob, e1, hdd⟩, ?_⟩
  have hA := (pa_cons he pa_nil hs).run cpos pins s1 σ H1 (fun vs H2 => match vs with
    | [y] => ∃ (p' : Addr) (ys : List V) (j : Nat) (z : V), V.ref p = .ref p' ∧ SqT X.K H2 p' ys ∧ flatV y = true ∧ ys.all flatV = true ∧ ys[j]? = some z ∧ eqV z y = true ∧
      (∀ (m : Nat) (z' : V), m < j → ys[m]? = some z' → eqV z' y = false) ∧ Q (.int (j : Nat)) H2
    | _ => False) I1 q1
  rw [hs] at hA ⊢
  refine Calls.callWith_builtin (by show (false || (backTo cpos (starEach [] X.env)).any (·.1)) = false; rw [hplain] <;> rfl) (Calls.evalArgs_plain ?_)
  refine thn hA fun us s2 ⟨vs, H2, I2, r2, hh⟩ => ?_
  match vs, r2, hh with
  | [y], r2, ⟨p', ys', j, z, ep, a1, a2, a3, a4, a5, a6, q⟩ =>
    cases ep
    exact mt_tindex pins s2 σ H2 (.ref p) [y] (.ref p) us Q I2 rfl r2 ⟨p, ys', y, j, z, rfl, rfl, a1, a2, a3, a4, a5, a6, q⟩
end
end L2
/-! Small data: what can be shown and compared; values that are brought -/
namespace Fp
open PySem PySem.Spec PyProof.Rows L2
theorem ite_no {c : Bool} {A B : Prop} (hc : c = false) (h : B) : if c = true then A else B := by
  rw [hc]; exact iteF h
theorem ite_yes {c : Bool} {A B : Prop} (hc : c = true) (h : A) : if c = true then A else B := by
  rw [hc]; exact iteT h
theorem get_lt {α : Type} {l : List α} {i : Nat} {x : α} (h : l[i]? = some x) : i < l.length := (List.getElem?_eq_some_iff.mp h).1
theorem u66 {k : Nat} {A : Around} (r : Room k A) : A.units + 66 < cLine := by have := r.un; omega
theorem szl {n : Nat} (h : n ≤ 10000000) : n ≤ sizeLine := by rw [sizeLine_eq]; omega
theorem szt {n : Nat} (h : n < 10000000) : n < sizeLine := by rw [sizeLine_eq]; omega
/-- data that can be shown and compared: at most so deep, at most so much -/
structure Sm (k n : Nat) (d : PyData) : Prop where
  sh : d.showable = true
  lay : d.canLay0 = true
  lv : d.leavesShort 13 = true
  blk : d.bulk ≤ n
  dep : d.depth ≤ k
theorem Sm.mono {k n k' n' : Nat} {d : PyData} (h : Sm k n d) (hk : k ≤ k') (hn : n ≤ n') : Sm k' n' d := ⟨h.sh, h.lay, h.lv, Nat.le_trans h.blk hn, Nat.le_trans h.dep hk⟩
structure Sms (k n : Nat) (ds : List PyData) : Prop where
  sh : PyData.showableAll ds = true
  lay : PyData.canLayAll0 ds = true
  lv : PyData.leavesShortAll 13 ds = true
  blk : PyData.bulkAll ds ≤ n
  dep : PyData.depthAll ds ≤ k
theorem Sms.nil {k n : Nat} : Sms k n [] := ⟨by simp [PyData.showableAll], by simp [PyData.canLayAll0], by simp [PyData.leavesShortAll], by simp [PyData.bulkAll], by simp [PyData.depthAll]⟩
theorem Sms.cons {k a b : Nat} {d : PyData} {ds : List PyData} (h : Sm k a d) (t : Sms k b ds) : Sms k (a + 1 + b) (d :: ds) :=
  ⟨by simp [PyData.showableAll, h.sh, t.sh], by simp [PyData.canLayAll0, h.lay, t.lay], by simp [PyData.leavesShortAll, h.lv, t.lv], by have := h.blk; have := t.blk; simp only [PyData.bulkAll]; omega, by have := h.dep; have := t.dep; simp only [PyData.depthAll]; omega⟩
theorem Sms.mono {k n k' n' : Nat} {d : List PyData} (h : Sms k n d) (hk : k ≤ k') (hn : n ≤ n') : Sms k' n' d := ⟨h.sh, h.lay, h.lv, Nat.le_trans h.blk hn, Nat.le_trans h.dep hk⟩
theorem Sms.all {k n : Nat} : ∀ {ds : List PyData}, (∀ d ∈ ds, Sm k n d) → Sms k ((n + 1) * ds.length) ds
  | [], _ => Sms.nil
  | d :: ds, h => (Sms.cons (h d (by simp)) (Sms.all fun e he => h e (List.mem_cons_of_mem _ he))).mono (Nat.le_refl _) (by
    rw [List.length_cons, Nat.mul_succ]; omega)
theorem Sms.tup {k n : Nat} {ds : List PyData} (h : Sms k n ds) : Sm (k + 1) n (.tuple ds) :=
  ⟨by simpa [PyData.showable] using h.sh, by simpa [PyData.canLay0] using h.lay, by simpa [PyData.leavesShort] using h.lv, by have := h.blk; simpa only [PyData.bulk] using this, by have := h.dep; simp only [PyData.depth]; omega⟩
theorem Sms.lst {k n : Nat} {ds : List PyData} (h : Sms k n ds) : Sm (k + 1) n (.list ds) :=
  ⟨by simpa [PyData.showable] using h.sh, by simpa [PyData.canLay0] using h.lay, by simpa [PyData.leavesShort] using h.lv, by have := h.blk; simpa only [PyData.bulk] using this, by have := h.dep; simp only [PyData.depth]; omega⟩
theorem Sm.non : Sm 1 0 .none := ⟨by simp [PyData.showable], by simp [PyData.canLay0], by simp [PyData.leavesShort], by simp [PyData.bulk], by simp [PyData.depth]⟩
theorem Sm.str {z : Str} {n : Nat} (hz : z.cps.size ≤ n) (hc : (z.cps.toList.all fun c => decide (c < 16 ^ 8)) = true) (ho : PyData.strOk z = true) : Sm 1 n (.str z) :=
  ⟨by simp [PyData.showable], by simp [PyData.canLay0, ho], by simpa only [PyData.leavesShort] using hc, by simpa only [PyData.bulk] using hz, by simp [PyData.depth]⟩
theorem log2_lt {i : Int} (h0 : -99999 ≤ i) (h1 : i ≤ 99999) : i.natAbs.log2 < 1920 := by
  by_cases h : i.natAbs = 0
  · rw [h]; decide
  · have : i.natAbs.log2 < 17 := (Nat.log2_lt h).mpr (show i.natAbs < 2 ^ 17 by omega)
    omega
theorem Sm.int {i : Int} (h0 : -9999 ≤ i) (h1 : i ≤ 9999) : Sm 1 0 (.int i) := by
  refine ⟨?_, by simp [PyData.canLay0], ?_, by simp [PyData.bulk], by simp [PyData.depth]⟩
  · simp only [PyData.showable, decide_eq_true_eq]
    exact log2_lt (by omega) (by omega)
  · simp only [PyData.leavesShort, decide_eq_true_eq]
    exact PyData.shown_int_le (by omega)
theorem Sm.fits {k n : Nat} {d : PyData} (h : Sm k n d) (hn : n ≤ 1000000) : d.shown.length ≤ sizeLine := PyData.shown_fits_bulk (B := 13) (by decide) (by decide) h.lv (Nat.le_trans h.blk (Nat.le_trans hn (by decide)))
theorem Sm.shaped {k n : Nat} {d : PyData} (h : Sm k n d) (hk : k ≤ 64) : SeqAt.shaped d = true := by
  unfold SeqAt.shaped
  rw [h.lay, Bool.true_and]
  exact decide_eq_true (Nat.le_trans h.dep hk)
/-! ### repr of any data -/
section
variable {X : Cx}
theorem wpAny_repr {prog : Program} {w : World} {A : Around} {E : Value → Shared → Prop} {s : Shared} {Q : Value → Shared → Prop} {v : Value} {d : PyData} {as : List Addr} (r : Reads s.heap v d as) (hs : d.showable = true) (hd : d.hasDict = false) (hz : d.shown.length ≤ sizeLine)
    (hg : A.guards = some []) (hu : A.units + (d.depth + 1) < cLine) (hQ : ∀ h' u tk, (∀ b o, s.heap.get? b = some o → h'.get? b = some o) → Q (.str d.shown u) { s with heap := h', toks := tk }) : wpAny (model prog w) A (call (.builtin "repr") [v]) Q E s := by
  cases r with
  | none => exact PySem.P.repr_of_none (hQ _ _ _ fun _ _ e => e)
  | bool b => exact PySem.P.repr_of_bool (hQ _ _ _ fun _ _ e => e)
  | int i t => exact PySem.P.repr_of_int (by simpa only [PyData.showable, decide_eq_true_eq] using hs) (by simpa only [PyData.shown] using hQ _ _ _ fun _ _ e => e)
  | str x t => exact PySem.P.repr_of_str (by simpa only [PyData.shown] using hQ _ _ _ fun _ _ e => e) (by simpa only [PyData.shown] using hz)
  | list a b c e => exact repr_of_reads' (.list a b c e) hs (fun z => by rw [hd] at z; cases z) hg hu (fun _ _ z => z) hQ hz
  | tuple a b c e => exact repr_of_reads' (.tuple a b c e) hs (fun z => by rw [hd] at z; cases z) hg hu (fun _ _ z => z) hQ hz
  | dict a b c e f => simp [PyData.hasDict] at hd
/-- repr(x), x any data -/
theorem call_reprA (hgu : X.A.guards = some []) (hu : X.A.units + 66 < cLine) : CallR X (.builtin "repr") (fun xs H Q => ∃ (x : V) (d : PyData) (k n : Nat), xs = [x] ∧ Dp X.K H x d ∧ Sm k n d ∧ k ≤ 64 ∧ n ≤ 1000000 ∧ Q (.str d.shown) H) := by
  intro pins s σ H xs us Q I r h
  obtain ⟨x, d, k, n, rfl, hd, sm, hk, hn, q⟩ := h
  obtain ⟨u, rfl, rx⟩ := vals1 r
  obtain ⟨as, rd⟩ := Dp.reads I d _ u hd rx
  have hdp := sm.dep
  exact wpAny_repr rd sm.sh (PyData.hasDict_of_canLay _ sm.lay) (sm.fits hn) hgu (by omega) (fun h' u tk k => ⟨.str d.shown, H, I.kept (t' := tk) k, ⟨_, rfl⟩, q⟩)
end
/-! ### values that are brought: None, integers, tuples of at most three such, at most so deep -/
inductive VOk : Nat → PyData → Prop where
  | non {n} : VOk n .none
  | int {n i} : -9999 ≤ i → i ≤ 9999 → VOk n (.int i)
  | tup {n ds} : (∀ d ∈ ds, VOk n d) → ds.length ≤ 3 → VOk (n + 1) (.tuple ds)
mutual
inductive VAt (H : Hp) : V → PyData → Prop where
  | non : VAt H .non .none
  | int (i : Int) : VAt H (.int i) (.int i)
  | tup {a : Addr} {xs : List V} {ds : List PyData} : H a = some (.tup xs) → VsAt H xs ds → VAt H (.ref a) (.tuple ds)
inductive VsAt (H : Hp) : List V → List PyData → Prop where
  | nil : VsAt H [] []
  | cons {v vs d ds} : VAt H v d → VsAt H vs ds → VsAt H (v :: vs) (d :: ds)
end
/-- tuples stay -/
def IsT : Option HO → Prop
  | some (.tup _) => True
  | some (.frz _ (.tup _)) => True
  | _ => False
def TK (H H' : Hp) : Prop := ∀ a, IsT (H a) → H' a = H a
theorem TK.refl (H : Hp) : TK H H := fun _ _ => rfl
theorem TK.trans {H H1 H2 : Hp} (a : TK H H1) (b : TK H1 H2) : TK H H2 := fun x h => (b x (by rw [a x h]; exact h)).trans (a x h)
theorem TK.of {H H' : Hp} (g : Same H H') : TK H H' := fun a h => by
  cases e : H a with
  | none => rw [e] at h; exact h.elim
  | some o => exact g a _ e
theorem TK.but {S : List Addr} {H H' : Hp} (g : But S H H') (h : ∀ a ∈ S, ¬ IsT (H a)) : TK H H' := fun a n => by
  cases e : H a with
  | none => rw [e] at n; exact n.elim
  | some o => exact g a _ (fun m => h a m n) e
theorem TK.put {H : Hp} {p : Addr} {o u : HO} (h : H p = some o) (n : ¬ IsT (some o)) : TK H (upd H p u) := fun a e => by
  rw [upd_ne (fun z => n (by rw [← h, ← z]; exact e))]
theorem TK.t {H H' : Hp} (g : TK H H') {a : Addr} {xs : List V} (h : H a = some (.tup xs)) : H' a = some (.tup xs) := by
  rw [g a (by rw [h]; trivial), h]
theorem TK.f {H H' : Hp} (g : TK H H') {a : Addr} {xs : List V} (h : TF H a xs) : TF H' a xs := by
  obtain ⟨o, h, d⟩ := h
  exact ⟨o, by rw [g a (by rw [h]; trivial), h], d⟩
mutual
theorem VAt.mono {H H' : Hp} (g : TK H H') : ∀ {v : V} {d : PyData}, VAt H v d → VAt H' v d
  | _, _, .non => .non
  | _, _, .int i => .int i
  | _, _, .tup a b => .tup (g.t a) (VsAt.mono g b)
theorem VsAt.mono {H H' : Hp} (g : TK H H') : ∀ {v : List V} {d : List PyData}, VsAt H v d → VsAt H' v d
  | _, _, .nil => .nil
  | _, _, .cons a b => .cons (VAt.mono g a) (VsAt.mono g b)
end
mutual
theorem VAt.dp {K : PySem.W.Frag} {H : Hp} : ∀ {v : V} {d : PyData}, VAt H v d → Dp K H v d
  | _, _, .non => .non
  | _, _, .int i => .int i
  | _, _, .tup a b => .tup (.of a) (VsAt.dp b)
theorem VsAt.dp {K : PySem.W.Frag} {H : Hp} : ∀ {v : List V} {d : List PyData}, VsAt H v d → DpAll K H v d
  | _, _, .nil => .nil
  | _, _, .cons a b => .cons (VAt.dp a) (VsAt.dp b)
end
theorem VOk.up {n : Nat} {d : PyData} (h : VOk n d) : VOk (n + 1) d := by
  induction h with
  | non => exact .non
  | int a b => exact .int a b
  | tup a b ih => exact .tup (fun d hd => ih d hd) b
def vb : Nat → Nat
  | 0 => 0
  | n + 1 => (vb n + 1) * 3
theorem VOk.sm : ∀ {n : Nat} {d : PyData}, VOk n d → Sm (n + 1) (vb n) d := by
  intro n d h
  induction h with
  | non => exact Sm.non.mono (by omega) (by omega)
  | int a b => exact (Sm.int a b).mono (by omega) (by omega)
  | tup a b ih => exact (Sms.all ih).tup.mono (Nat.le_refl _) (Nat.mul_le_mul_left _ b)
theorem VsAt.snoc {H : Hp} {v : V} {d : PyData} (h : VAt H v d) : ∀ {vs : List V} {ds : List PyData}, VsAt H vs ds → VsAt H (vs ++ [v]) (ds ++ [d])
  | _, _, .nil => .cons h .nil
  | _, _, .cons a b => .cons a (VsAt.snoc h b)
theorem VsAt.len {H : Hp} : ∀ {vs : List V} {ds : List PyData}, VsAt H vs ds → vs.length = ds.length
  | _, _, .nil => rfl
  | _, _, .cons _ b => congrArg (· + 1) b.len
theorem VsAt.get {H : Hp} : ∀ {xs : List V} {b : List PyData} {i : Nat} {x : V}, VsAt H xs b → xs[i]? = some x → ∃ it, b[i]? = some it ∧ VAt H x it
  | _, _, 0, _, .cons h _, e => by cases e; exact ⟨_, rfl, h⟩
  | _, _, i + 1, x, .cons _ r, e => VsAt.get (i := i) r e
  | _, _, _, _, .nil, e => by cases e
end Fp
/-! A door, as a plain thing -/
namespace Fp
open PySem PySem.Spec PyProof.Rows L2
abbrev Lv := Option Int
def lvV : Lv → V
  | none => .non
  | some i => .int i
structure Deed where
  stp : Bool
  p : Nat
  x : V
structure DS where
  came : List (Option V)
  lev : List Lv
  heard : List (Option V)
  seen : List (Option (List Lv))
  deeds : List Deed
inductive Told where
  | level (i : Int) | look (l : List Lv) | wait | word (v : V)
theorem getD_set {α : Type} (l : List (Option α)) (p q : Nat) (x : Option α) : (l.set p x).getD q none = if p = q ∧ p < l.length then x else l.getD q none := by
  simp only [List.getD_eq_getElem?_getD, List.getElem?_set]
  by_cases h : p = q
  · subst h
    by_cases h2 : p < l.length
    · simp [h2]
    · have e : l[p]? = none := List.getElem?_eq_none (by omega)
      simp [h2, e]
  · simp [h]
theorem getD_none_of {α : Type} {l : List (Option α)} {q : Nat} {x : α} (h : l.getD q none = some x) : q < l.length ∧ l[q]? = some (some x) := by
  rw [List.getD_eq_getElem?_getD] at h
  cases e : l[q]? with
  | none => rw [e] at h; cases h
  | some y =>
    rw [e] at h
    have h' : y = some x := h
    exact ⟨(List.getElem?_eq_some_iff.mp e).1, by rw [h']⟩
theorem getD_of {α : Type} {l : List (Option α)} {q : Nat} {y : Option α} (h : l[q]? = some y) : l.getD q none = y := by
  rw [List.getD_eq_getElem?_getD, h]; rfl
theorem mem_getD {α : Type} {l : List (Option α)} {x : α} : some x ∈ l ↔ ∃ q, l.getD q none = some x := by
  constructor
  · intro h
    obtain ⟨q, hq⟩ := List.getElem?_of_mem h
    exact ⟨q, getD_of hq⟩
  · rintro ⟨q, hq⟩
    exact List.mem_of_getElem? (getD_none_of hq).2
namespace DS
def new (n : Nat) : DS := ⟨List.replicate n none, List.replicate n none, List.replicate n none, List.replicate n none, []⟩
def cm (s : DS) (p : Nat) : Option V := s.came.getD p none
def lv (s : DS) (p : Nat) : Lv := s.lev.getD p none
def sn (s : DS) (p : Nat) : Option (List Lv) := s.seen.getD p none
def stgOf (a : Lv) (b : Option (List Lv)) : Nat := match a with
  | none => 0
  | some i => if i = 1 then (if b.isSome then 2 else 1) else 3
def stg (s : DS) (p : Nat) : Nat := stgOf (s.lv p) (s.sn p)
def kindOf : Nat → Str
  | 1 => "look" | 3 => "ask" | _ => "level"
def next (s : DS) (p : Nat) : Option Str := if (s.cm p).isSome then some (kindOf (s.stg p)) else none
def isTwo (a : Lv) : Bool := decide (a = some 2)
def two (s : DS) : Nat := s.lev.findIdx isTwo
def saw (s : DS) (p : Nat) : Bool := decide (some 2 ∈ (s.sn p).getD [])
def wr (s : DS) (p : Nat) : Int := if s.saw p then 0 else 2
def come (s : DS) (p : Nat) (v : V) : DS := { s with came := s.came.set p (some v), deeds := s.deeds ++ [⟨false, p, v⟩] }
def told (s : DS) (p : Nat) : Told := match s.stg p with
  | 0 => .level 1
  | 1 => .look s.lev
  | 2 => .level (s.wr p)
  | _ => if some 1 ∈ s.lev then .wait else .word ((s.cm s.two).getD .non)
def step (s : DS) (p : Nat) : DS := match s.stg p with
  | 0 => { s with deeds := s.deeds ++ [⟨true, p, .str "level"⟩], lev := s.lev.set p (some 1) }
  | 1 => { s with deeds := s.deeds ++ [⟨true, p, .str "look"⟩], seen := s.seen.set p (some s.lev) }
  | 2 => { s with deeds := s.deeds ++ [⟨true, p, .str "level"⟩], lev := s.lev.set p (some (s.wr p)) }
  | _ => if some 1 ∈ s.lev then { s with deeds := s.deeds ++ [⟨true, p, .str "ask"⟩] } else { s with deeds := s.deeds ++ [⟨true, p, .str "ask"⟩], heard := s.heard.set p (s.cm s.two) }
structure WF (s : DS) : Prop where
  n1 : 1 ≤ s.lev.length
  n5 : s.lev.length ≤ 5
  lc : s.came.length = s.lev.length
  lh : s.heard.length = s.lev.length
  ls : s.seen.length = s.lev.length
  vals : ∀ p x, s.lv p = some x → x = 0 ∨ x = 1 ∨ x = 2
  cmv : ∀ p, s.lv p ≠ none → s.cm p ≠ none
  snv : ∀ p, s.sn p ≠ none → s.lv p ≠ none
  lok : ∀ p x, s.lv p = some x → x ≠ 1 → s.sn p ≠ none
  z2 : ∀ p, s.lv p = some 0 → ∃ q, s.lv q = some 2
  s2 : ∀ p l, s.sn p = some l → some 2 ∈ l → ∃ q, s.lv q = some 2
theorem rep_none {α : Type} (n p : Nat) : (List.replicate n (none : Option α)).getD p none = none := by
  rw [List.getD_eq_getElem?_getD, List.getElem?_replicate]; split <;> rfl
theorem lv_new (n p : Nat) : (new n).lv p = none := rep_none n p
theorem sn_new (n p : Nat) : (new n).sn p = none := rep_none n p
theorem cm_new (n p : Nat) : (new n).cm p = none := rep_none n p
theorem WF.new {n : Nat} (h1 : 1 ≤ n) (h5 : n ≤ 5) : (new n).WF := by
  refine ⟨by simpa [DS.new] using h1, by simpa [DS.new] using h5, by simp [DS.new], by simp [DS.new], by simp [DS.new], ?_, ?_, ?_, ?_, ?_, ?_⟩ <;> intro p <;> simp only [lv_new, sn_new, cm_new] <;> simp
section
variable {s : DS} {p : Nat} {v : V}
theorem lv_come (q : Nat) : (s.come p v).lv q = s.lv q := rfl
theorem sn_come (q : Nat) : (s.come p v).sn q = s.sn q := rfl
theorem cm_come (q : Nat) : (s.come p v).cm q = if p = q ∧ p < s.came.length then some v else s.cm q := getD_set _ _ _ _
theorem WF.come (h : s.WF) : (s.come p v).WF := by
  refine ⟨h.n1, h.n5, by simp [DS.come, h.lc], h.lh, h.ls, h.vals, fun q hq => ?_, h.snv, h.lok, h.z2, h.s2⟩
  rw [cm_come]
  split
  · simp
  · exact h.cmv q hq
theorem stg_lt (s : DS) (p : Nat) : s.stg p ≤ 3 := by
  unfold stg stgOf
  split
  · omega
  · split
    · split <;> omega
    · omega
theorem stg0 : s.stg p = 0 ↔ s.lv p = none := by
  unfold stg stgOf
  cases s.lv p with
  | none => simp
  | some i => simp only; split <;> (try split) <;> simp
theorem stg1 : s.stg p = 1 ↔ s.lv p = some 1 ∧ s.sn p = none := by
  unfold stg stgOf
  cases s.lv p with
  | none => simp
  | some i =>
    simp only
    cases s.sn p <;> by_cases hi : i = 1 <;> simp [hi]
theorem stg2 : s.stg p = 2 ↔ s.lv p = some 1 ∧ s.sn p ≠ none := by
  unfold stg stgOf
  cases s.lv p with
  | none => simp
  | some i =>
    simp only
    cases s.sn p <;> by_cases hi : i = 1 <;> simp [hi]
theorem stg3 : s.stg p = 3 ↔ ∃ x, s.lv p = some x ∧ x ≠ 1 := by
  unfold stg stgOf
  cases s.lv p with
  | none => simp
  | some i =>
    simp only
    cases s.sn p <;> by_cases hi : i = 1 <;> simp [hi]
/-- the step by its stage -/
theorem step0 (h : s.stg p = 0) : s.step p = { s with deeds := s.deeds ++ [⟨true, p, .str "level"⟩], lev := s.lev.set p (some 1) } := by simp only [step, h]
theorem step1 (h : s.stg p = 1) : s.step p = { s with deeds := s.deeds ++ [⟨true, p, .str "look"⟩], seen := s.seen.set p (some s.lev) } := by simp only [step, h]
theorem step2 (h : s.stg p = 2) : s.step p = { s with deeds := s.deeds ++ [⟨true, p, .str "level"⟩], lev := s.lev.set p (some (s.wr p)) } := by simp only [step, h]
theorem step3 (h : s.stg p = 3) : s.step p = if some 1 ∈ s.lev then { s with deeds := s.deeds ++ [⟨true, p, .str "ask"⟩] } else { s with deeds := s.deeds ++ [⟨true, p, .str "ask"⟩], heard := s.heard.set p (s.cm s.two) } := by simp only [step, h]
theorem told0 (h : s.stg p = 0) : s.told p = .level 1 := by simp only [told, h]
theorem told1 (h : s.stg p = 1) : s.told p = .look s.lev := by simp only [told, h]
theorem told2 (h : s.stg p = 2) : s.told p = .level (s.wr p) := by simp only [told, h]
theorem told3 (h : s.stg p = 3) : s.told p = if some 1 ∈ s.lev then .wait else .word ((s.cm s.two).getD .non) := by simp only [told, h]
theorem cm_step (q : Nat) : (s.step p).cm q = s.cm q := by
  unfold step
  split <;> (try split) <;> rfl
theorem came_step : (s.step p).came = s.came := by
  unfold step
  split <;> (try split) <;> rfl
theorem len_step : (s.step p).lev.length = s.lev.length := by
  unfold step
  split <;> (try split) <;> simp
theorem two_lev (h : ∃ q, s.lv q = some 2) : s.two < s.lev.length ∧ s.lv s.two = some 2 ∧ ∀ m, m < s.two → s.lv m ≠ some 2 := by
  obtain ⟨q, hq⟩ := h
  obtain ⟨hl, he⟩ := getD_none_of hq
  have hm : ∃ x ∈ s.lev, isTwo x = true := ⟨some 2, List.mem_of_getElem? he, by simp [isTwo]⟩
  have h1 : s.two < s.lev.length := List.findIdx_lt_length_of_exists hm
  refine ⟨h1, ?_, fun m hlt => ?_⟩
  · have e : isTwo s.lev[s.two] = true := List.findIdx_getElem (p := isTwo) (xs := s.lev) (w := h1)
    have e' : s.lev[s.two] = some 2 := by simpa [isTwo] using e
    exact getD_of (by rw [List.getElem?_eq_getElem h1, e'])
  · intro z
    have hml : m < s.lev.length := by omega
    have e : isTwo s.lev[m] = false := by simpa using List.not_of_lt_findIdx (p := isTwo) (xs := s.lev) hlt
    have z' : s.lev[m] = some 2 := by
      obtain ⟨_, z2⟩ := getD_none_of z
      rw [List.getElem?_eq_getElem hml] at z2
      exact Option.some.inj z2
    rw [z'] at e
    simp [isTwo] at e
theorem findIdx_ext {α : Type} {f g : α → Bool} : ∀ {l m : List α}, l.length = m.length → (∀ (i : Nat) x y, l[i]? = some x → m[i]? = some y → f x = g y) → l.findIdx f = m.findIdx g
  | [], [], _, _ => rfl
  | [], _ :: _, h, _ => by simp at h
  | _ :: _, [], h, _ => by simp at h
  | a :: l, b :: m, h, hp => by
    have e := hp 0 a b rfl rfl
    rw [List.findIdx_cons, List.findIdx_cons, e, findIdx_ext (l := l) (m := m) (by simpa using h) fun i x y hx hy => hp (i + 1) x y (by simpa using hx) (by simpa using hy)]
theorem two_same {s t : DS} (hl : t.lev.length = s.lev.length) (h : ∀ q, t.lv q = some 2 ↔ s.lv q = some 2) : t.two = s.two := by
  refine findIdx_ext hl fun i x y hx hy => ?_
  have h1 := h i
  rw [show t.lv i = x from getD_of hx, show s.lv i = y from getD_of hy] at h1
  unfold isTwo
  exact decide_eq_decide.mpr h1
theorem lv_step0 (h : s.stg p = 0) (hp : p < s.lev.length) (q : Nat) : (s.step p).lv q = if p = q then some 1 else s.lv q := by
  rw [step0 h]
  show (s.lev.set p (some 1)).getD q none = _
  rw [getD_set]
  by_cases e : p = q <;> simp [e, hp, lv] <;> omega
theorem lv_step1 (h : s.stg p = 1) (q : Nat) : (s.step p).lv q = s.lv q := by rw [step1 h]; rfl
theorem lv_step2 (h : s.stg p = 2) (hp : p < s.lev.length) (q : Nat) : (s.step p).lv q = if p = q then some (s.wr p) else s.lv q := by
  rw [step2 h]
  show (s.lev.set p (some (s.wr p))).getD q none = _
  rw [getD_set]
  by_cases e : p = q
  · subst e; simp [hp]
  · simp [e, lv]
theorem lv_step3 (h : s.stg p = 3) (q : Nat) : (s.step p).lv q = s.lv q := by rw [step3 h]; split <;> rfl
theorem sn_step1 (h : s.stg p = 1) (hp : p < s.seen.length) (q : Nat) : (s.step p).sn q = if p = q then some s.lev else s.sn q := by
  rw [step1 h]
  show (s.seen.set p (some s.lev)).getD q none = _
  rw [getD_set]
  by_cases e : p = q
  · subst e; simp [hp]
  · simp [e, sn]
theorem sn_stepN (h : s.stg p ≠ 1) (q : Nat) : (s.step p).sn q = s.sn q := by
  unfold step
  split <;> (try split) <;> first | rfl | (rename_i e; exact absurd e h)
theorem wr02 (s : DS) (p : Nat) : s.wr p = 0 ∧ s.saw p = true ∨ s.wr p = 2 ∧ s.saw p = false := by
  unfold wr
  cases s.saw p <;> simp
theorem saw_iff : s.saw p = true ↔ ∃ l, s.sn p = some l ∧ some 2 ∈ l := by
  unfold saw
  rw [decide_eq_true_iff]
  cases s.sn p with
  | none => simp
  | some l => simp
theorem lt_of_cm (h : s.WF) (hc : s.cm p ≠ none) : p < s.lev.length := by
  cases e : s.cm p with
  | none => exact absurd e hc
  | some v => rw [← h.lc]; exact (getD_none_of e).1
theorem has2_step (h : s.WF) (hc : s.cm p ≠ none) (h2 : ∃ q, s.lv q = some 2) : ∃ q, (s.step p).lv q = some 2 := by
  obtain ⟨q, hq⟩ := h2
  refine ⟨q, ?_⟩
  have hp := lt_of_cm h hc
  have := stg_lt s p
  rcases (show s.stg p = 0 ∨ s.stg p = 1 ∨ s.stg p = 2 ∨ s.stg p = 3 by omega) with e | e | e | e
  · rw [lv_step0 e hp, if_neg]; exact hq
    intro z; subst z; rw [stg0.mp e] at hq; cases hq
  · rw [lv_step1 e]; exact hq
  · rw [lv_step2 e hp, if_neg]; exact hq
    intro z; subst z; rw [(stg2.mp e).1] at hq; cases hq
  · rw [lv_step3 e]; exact hq
theorem WF.step (h : s.WF) (hc : s.cm p ≠ none) : (s.step p).WF := by
  have hp := lt_of_cm h hc
  have hps : p < s.seen.length := by rw [h.ls]; exact hp
  have h4 := stg_lt s p
  have hlen := len_step (s := s) (p := p)
  have k2 := has2_step h hc
  have lens : (s.step p).came.length = (s.step p).lev.length ∧ (s.step p).heard.length = (s.step p).lev.length ∧ (s.step p).seen.length = (s.step p).lev.length := by
    rw [hlen, came_step]
    refine ⟨h.lc, ?_, ?_⟩
    · unfold DS.step; split <;> (try split) <;> simp [h.lh]
    · unfold DS.step; split <;> (try split) <;> simp [h.ls]
  rcases (show s.stg p = 0 ∨ s.stg p = 1 ∨ s.stg p = 2 ∨ s.stg p = 3 by omega) with e | e | e | e
  · have L := lv_step0 e hp
    have S : ∀ q, (s.step p).sn q = s.sn q := sn_stepN (by omega)
    refine ⟨by rw [hlen]; exact h.n1, by rw [hlen]; exact h.n5, lens.1, lens.2.1, lens.2.2, fun q x hq => ?_, fun q hq => ?_, fun q hq => ?_, fun q x hq hx => ?_, fun q hq => ?_, fun q l hq hl => ?_⟩
    · rw [L] at hq; split at hq
      · cases hq; omega
      · exact h.vals q x hq
    · rw [cm_step]; rw [L] at hq; split at hq
      · rename_i z; subst z; exact hc
      · exact h.cmv q hq
    · rw [S] at hq; rw [L]; split
      · simp
      · exact h.snv q hq
    · rw [S]; rw [L] at hq; split at hq
      · cases hq; exact absurd rfl hx
      · exact h.lok q x hq hx
    · rw [L] at hq; split at hq
      · cases hq
      · exact k2 (h.z2 q hq)
    · rw [S] at hq; exact k2 (h.s2 q l hq hl)
  · have L := lv_step1 e
    have S := sn_step1 e hps
    obtain ⟨e1, e2⟩ := stg1.mp e
    refine ⟨by rw [hlen]; exact h.n1, by rw [hlen]; exact h.n5, lens.1, lens.2.1, lens.2.2, fun q x hq => h.vals q x (by rw [← L]; exact hq), fun q hq => ?_, fun q hq => ?_, fun q x hq hx => ?_, fun q hq => ?_, fun q l hq hl => ?_⟩
    · rw [cm_step]; exact h.cmv q (by rw [← L]; exact hq)
    · rw [L]; rw [S] at hq; split at hq
      · rename_i z; subst z; rw [e1]; simp
      · exact h.snv q hq
    · rw [S]; split
      · simp
      · exact h.lok q x (by rw [← L]; exact hq) hx
    · exact k2 (h.z2 q (by rw [← L]; exact hq))
    · rw [S] at hq; split at hq
      · cases hq; exact k2 (mem_getD.mp hl)
      · exact k2 (h.s2 q l hq hl)
  · have L := lv_step2 e hp
    have S : ∀ q, (s.step p).sn q = s.sn q := sn_stepN (by omega)
    obtain ⟨e1, e2⟩ := stg2.mp e
    have w2 := wr02 s p
    refine ⟨by rw [hlen]; exact h.n1, by rw [hlen]; exact h.n5, lens.1, lens.2.1, lens.2.2, fun q x hq => ?_, fun q hq => ?_, fun q hq => ?_, fun q x hq hx => ?_, fun q hq => ?_, fun q l hq hl => ?_⟩
    · rw [L] at hq; split at hq
      · cases hq; omega
      · exact h.vals q x hq
    · rw [cm_step]; rw [L] at hq; split at hq
      · rename_i z; subst z; exact hc
      · exact h.cmv q hq
    · rw [S] at hq; rw [L]; split
      · simp
      · exact h.snv q hq
    · rw [S]; rw [L] at hq; split at hq
      · rename_i z; subst z; exact e2
      · exact h.lok q x hq hx
    · rw [L] at hq; split at hq
      · rename_i z; subst z
        rcases w2 with ⟨_, w⟩ | ⟨w, _⟩
        · obtain ⟨l, hl, hl2⟩ := saw_iff.mp w
          exact k2 (h.s2 _ l hl hl2)
        · rw [w] at hq; cases hq
      · exact k2 (h.z2 q hq)
    · rw [S] at hq; exact k2 (h.s2 q l hq hl)
  · have L := lv_step3 e
    have S : ∀ q, (s.step p).sn q = s.sn q := sn_stepN (by omega)
    exact ⟨by rw [hlen]; exact h.n1, by rw [hlen]; exact h.n5, lens.1, lens.2.1, lens.2.2, fun q x hq => h.vals q x (by rw [← L]; exact hq), fun q hq => by rw [cm_step]; exact h.cmv q (by rw [← L]; exact hq), fun q hq => by rw [L]; exact h.snv q (by rw [← S]; exact hq),
      fun q x hq hx => by rw [S]; exact h.lok q x (by rw [← L]; exact hq) hx, fun q hq => k2 (h.z2 q (by rw [← L]; exact hq)), fun q l hq hl => k2 (h.s2 q l (by rw [← S]; exact hq) hl)⟩
/-- who asks while nobody stands at 1 finds somebody at 2, who came -/
theorem ask_two (h : s.WF) (e : s.stg p = 3) : ∃ q, s.lv q = some 2 := by
  obtain ⟨x, hx, h1⟩ := stg3.mp e
  rcases h.vals p x hx with rfl | rfl | rfl
  · exact h.z2 p hx
  · exact absurd rfl h1
  · exact ⟨p, hx⟩
theorem two_came (h : s.WF) (e : ∃ q, s.lv q = some 2) : ∃ v, s.cm s.two = some v := by
  obtain ⟨_, h2, _⟩ := two_lev e
  cases c : s.cm s.two with
  | none => exact absurd c (h.cmv _ (by rw [h2]; simp))
  | some v => exact ⟨v, rfl⟩
/-! ### going on -/
theorem stg_step (h : s.WF) (hc : s.cm p ≠ none) (q : Nat) : (s.step p).stg q = if p = q then min 3 (s.stg p + 1) else s.stg q := by
  have hp := lt_of_cm h hc
  have hps : p < s.seen.length := by rw [h.ls]; exact hp
  have h4 := stg_lt s p
  rcases (show s.stg p = 0 ∨ s.stg p = 1 ∨ s.stg p = 2 ∨ s.stg p = 3 by omega) with e | e | e | e
  · by_cases z : p = q
    · subst z
      have hsn : s.sn p = none := by
        cases c : s.sn p with
        | none => rfl
        | some l => exact absurd (stg0.mp e) (h.snv p (by rw [c]; simp))
      rw [if_pos rfl, e]
      exact stg1.mpr ⟨by rw [lv_step0 e hp, if_pos rfl], by rw [sn_stepN (by omega)]; exact hsn⟩
    · rw [if_neg z]; unfold stg; rw [lv_step0 e hp, if_neg z, sn_stepN (by omega)]
  · by_cases z : p = q
    · subst z
      rw [if_pos rfl, e]
      exact stg2.mpr ⟨by rw [lv_step1 e]; exact (stg1.mp e).1, by rw [sn_step1 e hps, if_pos rfl]; simp⟩
    · rw [if_neg z]; unfold stg; rw [lv_step1 e, sn_step1 e hps, if_neg z]
  · by_cases z : p = q
    · subst z
      rw [if_pos rfl, e]
      refine stg3.mpr ⟨s.wr p, by rw [lv_step2 e hp, if_pos rfl], ?_⟩
      rcases wr02 s p with ⟨w, _⟩ | ⟨w, _⟩ <;> rw [w] <;> decide
    · rw [if_neg z]; unfold stg; rw [lv_step2 e hp, if_neg z, sn_stepN (by omega)]
  · have : (s.step p).stg q = s.stg q := by unfold stg; rw [lv_step3 e, sn_stepN (by omega)]
    rw [this]
    by_cases z : p = q
    · subst z; rw [if_pos rfl, e]; rfl
    · rw [if_neg z]
theorem stg_come (q : Nat) : (s.come p v).stg q = s.stg q := rfl
theorem no_one (h : ∀ q, s.stg q = 0 ∨ s.stg q = 3) : some 1 ∉ s.lev := fun m => by
  obtain ⟨q, hq⟩ := mem_getD.mp m
  have hq : s.lv q = some 1 := hq
  rcases h q with e | e
  · rw [stg0.mp e] at hq; cases hq
  · obtain ⟨x, hx, hx1⟩ := stg3.mp e
    rw [hq] at hx
    cases hx
    exact hx1 rfl
end
end DS
end Fp
/-! A door in the heap; promises of the program's defs -/
namespace Fp
open PySem PySem.Spec PyProof.Rows L2
def dfl (n : Int) (a b c e f : Addr) : List (Str × V) := [("many", .int n), ("came", .ref a), ("levels", .ref b), ("heard", .ref c), ("seen", .ref e), ("deeds", .ref f)]
structure DC (K : PySem.W.Frag) (C : Addr) : Prop where
  cl : Cls K C
  nM : NoAttr K C "many"
  nC : NoAttr K C "came"
  nL : NoAttr K C "levels"
  nH : NoAttr K C "heard"
  nS : NoAttr K C "seen"
  nD : NoAttr K C "deeds"
section
variable {n n' : Int} {a b c e f a' b' c' e' f' : Addr}
theorem d_many : (dfl n a b c e f).lookup ("many" : Str) = some (.int n) := by kernel_rfl
theorem d_came : (dfl n a b c e f).lookup ("came" : Str) = some (.ref a) := by kernel_rfl
theorem d_lev : (dfl n a b c e f).lookup ("levels" : Str) = some (.ref b) := by kernel_rfl
theorem d_heard : (dfl n a b c e f).lookup ("heard" : Str) = some (.ref c) := by kernel_rfl
theorem d_seen : (dfl n a b c e f).lookup ("seen" : Str) = some (.ref e) := by kernel_rfl
theorem d_deeds : (dfl n a b c e f).lookup ("deeds" : Str) = some (.ref f) := by kernel_rfl
theorem dp_came : putF "came" (.ref a') (dfl n a b c e f) = dfl n a' b c e f := by kernel_rfl
theorem dp_lev : putF "levels" (.ref b') (dfl n a b c e f) = dfl n a b' c e f := by kernel_rfl
theorem dp_heard : putF "heard" (.ref c') (dfl n a b c e f) = dfl n a b c' e f := by kernel_rfl
theorem dp_seen : putF "seen" (.ref e') (dfl n a b c e f) = dfl n a b c e' f := by kernel_rfl
theorem dp_deeds : putF "deeds" (.ref f') (dfl n a b c e f) = dfl n a b c e f' := by kernel_rfl
theorem d_all : putF "deeds" (.ref f) (putF "seen" (.ref e) (putF "heard" (.ref c) (putF "levels" (.ref b) (putF "came" (.ref a) (putF "many" (.int n) []))))) = dfl n a b c e f := by kernel_rfl
theorem no_check : (dfl n a b c e f).lookup ("check_player" : Str) = none := by kernel_rfl
theorem no_next : (dfl n a b c e f).lookup ("next" : Str) = none := by kernel_rfl
theorem no_shows : (dfl n a b c e f).lookup ("shows_level" : Str) = none := by kernel_rfl
theorem no_asks : (dfl n a b c e f).lookup ("asks" : Str) = none := by kernel_rfl
theorem no_step : (dfl n a b c e f).lookup ("step" : Str) = none := by kernel_rfl
theorem no_come : (dfl n a b c e f).lookup ("come" : Str) = none := by kernel_rfl
theorem no_copy : (dfl n a b c e f).lookup ("copy" : Str) = none := by kernel_rfl
end
/-- (VALUE,), or None -/
def One (H : Hp) (x : V) : Option V → Prop
  | none => x = .non
  | some v => ∃ p, x = .ref p ∧ H p = some (.tup [v])
def SeenAt (H : Hp) (x : V) : Option (List Lv) → Prop
  | none => x = .non
  | some l => ∃ p, x = .ref p ∧ TF H p (l.map lvV)
def DeedAt (H : Hp) (x : V) (d : Deed) : Prop := ∃ p, x = .ref p ∧ H p = some (.tup [.str (if d.stp then "step" else "come"), .int (d.p : Nat), d.x])
theorem One.mono {H H' : Hp} (g : TK H H') {x : V} {o : Option V} (h : One H x o) : One H' x o := by
  cases o with
  | none => exact h
  | some v => obtain ⟨p, e, q⟩ := h; exact ⟨p, e, g.t q⟩
theorem SeenAt.mono {H H' : Hp} (g : TK H H') {x : V} {o : Option (List Lv)} (h : SeenAt H x o) : SeenAt H' x o := by
  cases o with
  | none => exact h
  | some v => obtain ⟨p, e, q⟩ := h; exact ⟨p, e, g.f q⟩
theorem DeedAt.mono {H H' : Hp} (g : TK H H') {x : V} {o : Deed} (h : DeedAt H x o) : DeedAt H' x o := by
  obtain ⟨p, e, q⟩ := h; exact ⟨p, e, g.t q⟩
theorem pr_imp {α β : Type} {F G : α → β → Prop} (f : ∀ a b, F a b → G a b) : ∀ {l : List α} {m : List β}, Paired F l m → Paired G l m
  | _, _, .nil => .nil
  | _, _, .cons a b => .cons (f _ _ a) (pr_imp f b)
theorem pr_len {α β : Type} {F : α → β → Prop} : ∀ {l : List α} {m : List β}, Paired F l m → l.length = m.length
  | _, _, .nil => rfl
  | _, _, .cons _ b => congrArg (· + 1) (pr_len b)
theorem pr_at {α β : Type} {F : α → β → Prop} : ∀ {l : List α} {m : List β} {i : Nat} {y : β}, Paired F l m → m[i]? = some y → ∃ x, l[i]? = some x ∧ F x y
  | _, _, 0, _, .cons h _, e => by cases e; exact ⟨_, rfl, h⟩
  | _, _, i + 1, x, .cons _ r, e => pr_at (i := i) r e
  | _, _, _, _, .nil, e => by cases e
theorem pr_set {α β : Type} {F : α → β → Prop} {x : α} {y : β} (h : F x y) : ∀ {l : List α} {m : List β} (i : Nat), Paired F l m → Paired F (l.set i x) (m.set i y)
  | _, _, _, .nil => .nil
  | _, _, 0, .cons _ r => .cons h r
  | _, _, i + 1, .cons a r => .cons a (pr_set h i r)
theorem pr_snoc {α β : Type} {F : α → β → Prop} {a : α} {b : β} (h : F a b) : ∀ {l : List α} {m : List β}, Paired F l m → Paired F (l ++ [a]) (m ++ [b])
  | _, _, .nil => .cons h .nil
  | _, _, .cons k r => .cons k (pr_snoc h r)
theorem pr_rep {α β : Type} {F : α → β → Prop} {x : α} {y : β} (h : F x y) : ∀ n : Nat, Paired F (List.replicate n x) (List.replicate n y)
  | 0 => .nil
  | n + 1 => .cons h (pr_rep h n)
/-- values that may be brought -/
def Good (H : Hp) (v : V) : Prop := ∃ d, VAt H v d ∧ VOk 3 d
theorem Good.mono {H H' : Hp} (g : TK H H') {v : V} (h : Good H v) : Good H' v := by obtain ⟨d, a, b⟩ := h; exact ⟨d, a.mono g, b⟩
structure DoorIn (C : Addr) (H : Hp) (d : Addr) (s : DS) (dx a b c e f : Addr) (cv hv sv dv : List V) : Prop where
  obj : H d = some (.ins C dx (dfl (s.lev.length : Nat) a b c e f))
  own : H dx = some (.own d)
  came : TF H a cv
  cameP : Paired (One H) cv s.came
  lev : TF H b (s.lev.map lvV)
  heard : TF H c hv
  heardP : Paired (One H) hv s.heard
  seen : TF H e sv
  seenP : Paired (SeenAt H) sv s.seen
  deeds : H f = some (.tup dv)
  deedsP : Paired (DeedAt H) dv s.deeds
  good : ∀ p v, s.cm p = some v → Good H v
  wf : s.WF
def DoorAt (C : Addr) (H : Hp) (d : Addr) (s : DS) : Prop := ∃ dx a b c e f cv hv sv dv, DoorIn C H d s dx a b c e f cv hv sv dv
theorem DoorIn.mono {C : Addr} {H H' : Hp} {d : Addr} {s : DS} {dx a b c e f : Addr} {cv hv sv dv : List V} (h : DoorIn C H d s dx a b c e f cv hv sv dv) (g : TK H H') (g1 : ∀ o, H d = some o → H' d = some o) (g2 : H' dx = H dx) : DoorIn C H' d s dx a b c e f cv hv sv dv :=
  ⟨g1 _ h.obj, by rw [g2]; exact h.own, g.f h.came, pr_imp (fun _ _ => One.mono g) h.cameP, g.f h.lev, g.f h.heard, pr_imp (fun _ _ => One.mono g) h.heardP, g.f h.seen, pr_imp (fun _ _ => SeenAt.mono g) h.seenP, g.t h.deeds, pr_imp (fun _ _ => DeedAt.mono g) h.deedsP, fun p v hv => (h.good p v hv).mono g, h.wf⟩
theorem DoorAt.same {C : Addr} {H H' : Hp} {d : Addr} {s : DS} (h : DoorAt C H d s) (g : Same H H') : DoorAt C H' d s := by
  obtain ⟨dx, a, b, c, e, f, cv, hv, sv, dv, h⟩ := h
  exact ⟨dx, a, b, c, e, f, cv, hv, sv, dv, h.mono (.of g) (fun o q => g _ _ q) (by rw [g _ _ h.own]; exact h.own.symm)⟩
/-- what is not an instance, an own dict or a tuple may change -/
theorem DoorAt.but {C : Addr} {H H' : Hp} {d : Addr} {s : DS} {S : List Addr} (h : DoorAt C H d s) (g : But S H H') (n : ∀ x ∈ S, (∃ xs, H x = some (.lst xs)) ∨ ∃ kvs, H x = some (.dK kvs)) : DoorAt C H' d s := by
  obtain ⟨dx, a, b, c, e, f, cv, hv, sv, dv, h⟩ := h
  have nd : d ∉ S := fun m => by
    rcases n d m with ⟨xs, z⟩ | ⟨xs, z⟩ <;> rw [h.obj] at z <;> cases z
  have nx : dx ∉ S := fun m => by
    rcases n dx m with ⟨xs, z⟩ | ⟨xs, z⟩ <;> rw [h.own] at z <;> cases z
  refine ⟨dx, a, b, c, e, f, cv, hv, sv, dv, h.mono (TK.but g fun x m z => ?_) (fun o q => g _ _ nd q) (by rw [g _ _ nx h.own]; exact h.own.symm)⟩
  rcases n x m with ⟨ys, z'⟩ | ⟨ys, z'⟩ <;> rw [z'] at z <;> exact z
theorem DoorAt.wf {C : Addr} {H : Hp} {d : Addr} {s : DS} (h : DoorAt C H d s) : s.WF := by
  obtain ⟨dx, a, b, c, e, f, cv, hv, sv, dv, h⟩ := h
  exact h.wf
theorem getD_at {α : Type} {l : List (Option α)} {p : Nat} (h : p < l.length) : l[p]? = some (l.getD p none) := by
  rw [List.getElem?_eq_getElem h]; exact congrArg some (getD_of (List.getElem?_eq_getElem h)).symm
theorem DS.WF.acm {s : DS} (W : s.WF) {p : Nat} (h : p < s.lev.length) : s.came[p]? = some (s.cm p) := getD_at (by rw [W.lc]; exact h)
theorem DS.WF.asn {s : DS} (W : s.WF) {p : Nat} (h : p < s.lev.length) : s.seen[p]? = some (s.sn p) := getD_at (by rw [W.ls]; exact h)
theorem alv {s : DS} {p : Nat} (h : p < s.lev.length) : s.lev[p]? = some (s.lv p) := getD_at h
theorem alvV {s : DS} {p : Nat} (h : p < s.lev.length) : (s.lev.map lvV)[p]? = some (lvV (s.lv p)) := by rw [List.getElem?_map, alv h]; rfl
theorem One.is {H : Hp} {x : V} {o : Option V} (h : One H x o) : decide (x = .non) = o.isNone := by
  cases o with
  | none => rw [show x = .non from h]; rfl
  | some v => obtain ⟨p, e, _⟩ := h; rw [e]; rfl
theorem SeenAt.is {H : Hp} {x : V} {o : Option (List Lv)} (h : SeenAt H x o) : decide (x = .non) = o.isNone := by
  cases o with
  | none => rw [show x = .non from h]; rfl
  | some v => obtain ⟨p, e, _⟩ := h; rw [e]; rfl
theorem lv_flat : ∀ l : List Lv, (l.map lvV).all flatV = true
  | [] => rfl
  | none :: l => by rw [List.map_cons, List.all_cons, lv_flat l]; rfl
  | some i :: l => by rw [List.map_cons, List.all_cons, lv_flat l]; rfl
theorem eqV_lv (i : Int) (a : Lv) : eqV (lvV a) (.int i) = decide (a = some i) := by
  cases a with
  | none => rfl
  | some j =>
    show (j == i) = _
    rw [Bool.eq_iff_iff]; simp
theorem inV_lv (i : Int) (l : List Lv) : inV (.int i) (l.map lvV) = decide (some i ∈ l) := by
  unfold inV
  rw [List.any_map, Bool.eq_iff_iff, List.any_eq_true, decide_eq_true_iff]
  constructor
  · rintro ⟨x, hx, e⟩
    have e' : eqV (lvV x) (.int i) = true := e
    rw [eqV_lv, decide_eq_true_iff] at e'
    exact e' ▸ hx
  · intro h
    exact ⟨some i, h, by show eqV (lvV (some i)) (.int i) = true; rw [eqV_lv]; simp⟩
def DS.log (s : DS) (p : Nat) : DS := { s with deeds := s.deeds ++ [⟨true, p, .str (DS.kindOf (s.stg p))⟩] }
theorem DS.log_step (s : DS) (p : Nat) : { (s.log p).step p with deeds := (s.log p).deeds } = s.step p := by
  have h4 := DS.stg_lt s p
  have e0 : (s.log p).stg p = s.stg p := rfl
  rcases (show s.stg p = 0 ∨ s.stg p = 1 ∨ s.stg p = 2 ∨ s.stg p = 3 by omega) with e | e | e | e
  · rw [DS.step0 e, DS.step0 (e0.trans e)]; unfold DS.log; rw [e]; rfl
  · rw [DS.step1 e, DS.step1 (e0.trans e)]; unfold DS.log; rw [e]; rfl
  · rw [DS.step2 e, DS.step2 (e0.trans e)]; unfold DS.log; rw [e]; rfl
  · rw [DS.step3 e, DS.step3 (e0.trans e)]; unfold DS.log; rw [e]; split <;> rfl
theorem DS.WF.log {s : DS} {p : Nat} (W : s.WF) : (s.log p).WF := ⟨W.n1, W.n5, W.lc, W.lh, W.ls, W.vals, W.cmv, W.snv, W.lok, W.z2, W.s2⟩
/-- a tuple, of either kind -/
def TT (H : Hp) (a : Addr) (xs : List V) : Prop := H a = some (.tup xs) ∨ TF H a xs
theorem TT.sq {K : PySem.W.Frag} {H : Hp} {a : Addr} {xs : List V} (h : TT H a xs) : SqT K H a xs := h.elim (fun h => .of h) fun h => h.sq
theorem TK.tt {H H' : Hp} (g : TK H H') {a : Addr} {xs : List V} (h : TT H a xs) : TT H' a xs := h.imp (fun h => g.t h) fun h => g.f h
/-- what a step tells -/
def ToldAt (H : Hp) (t : Addr) : Told → Prop
  | .level i => H t = some (.tup [.str "level", .int i])
  | .look l => ∃ q, H t = some (.tup [.str "look", .ref q]) ∧ TT H q (l.map lvV)
  | .wait => H t = some (.tup [.str "wait"])
  | .word v => H t = some (.tup [.str "word", v])
theorem ToldAt.mono {H H' : Hp} (g : TK H H') {t : Addr} {x : Told} (h : ToldAt H t x) : ToldAt H' t x := by
  cases x with
  | level i => exact g.t h
  | look l => obtain ⟨q, a, b⟩ := h; exact ⟨q, g.t a, g.tt b⟩
  | wait => exact g.t h
  | word v => exact g.t h
/-! ### the law's own door -/
def odict (l1 l2 l3 l4 l5 : Addr) (k : Int) : List (Key × V) := [(.inr "came", .ref l1), (.inr "levels", .ref l2), (.inr "stages", .ref l3), (.inr "won", .ref l4), (.inr "heard", .ref l5), (.inr "steps", .int k)]
section
variable {l1 l2 l3 l4 l5 : Addr} {k k' : Int}
theorem o_came : valV (odict l1 l2 l3 l4 l5 k) (.inr "came") = some (.ref l1) := by kernel_rfl
theorem o_lev : valV (odict l1 l2 l3 l4 l5 k) (.inr "levels") = some (.ref l2) := by kernel_rfl
theorem o_stg : valV (odict l1 l2 l3 l4 l5 k) (.inr "stages") = some (.ref l3) := by kernel_rfl
theorem o_won : valV (odict l1 l2 l3 l4 l5 k) (.inr "won") = some (.ref l4) := by kernel_rfl
theorem o_heard : valV (odict l1 l2 l3 l4 l5 k) (.inr "heard") = some (.ref l5) := by kernel_rfl
theorem o_steps : valV (odict l1 l2 l3 l4 l5 k) (.inr "steps") = some (.int k) := by kernel_rfl
theorem op_steps : putK (odict l1 l2 l3 l4 l5 k) (.inr "steps") (.int k') = odict l1 l2 l3 l4 l5 k' := by kernel_rfl
theorem o_merge : mergeK [] (odict l1 l2 l3 l4 l5 k) = odict l1 l2 l3 l4 l5 k := by kernel_rfl
theorem og_came {H : Hp} {o : Addr} (h : H o = some (.dK (odict l1 l2 l3 l4 l5 k))) : DGet H o (.str "came") (some (.ref l1)) := by
  have := DGet.k (k := .inr "came") h; rw [o_came] at this; exact this
theorem og_lev {H : Hp} {o : Addr} (h : H o = some (.dK (odict l1 l2 l3 l4 l5 k))) : DGet H o (.str "levels") (some (.ref l2)) := by
  have := DGet.k (k := .inr "levels") h; rw [o_lev] at this; exact this
theorem og_stg {H : Hp} {o : Addr} (h : H o = some (.dK (odict l1 l2 l3 l4 l5 k))) : DGet H o (.str "stages") (some (.ref l3)) := by
  have := DGet.k (k := .inr "stages") h; rw [o_stg] at this; exact this
theorem og_won {H : Hp} {o : Addr} (h : H o = some (.dK (odict l1 l2 l3 l4 l5 k))) : DGet H o (.str "won") (some (.ref l4)) := by
  have := DGet.k (k := .inr "won") h; rw [o_won] at this; exact this
theorem og_heard {H : Hp} {o : Addr} (h : H o = some (.dK (odict l1 l2 l3 l4 l5 k))) : DGet H o (.str "heard") (some (.ref l5)) := by
  have := DGet.k (k := .inr "heard") h; rw [o_heard] at this; exact this
theorem og_steps {H : Hp} {o : Addr} (h : H o = some (.dK (odict l1 l2 l3 l4 l5 k))) : DGet H o (.str "steps") (some (.int k)) := by
  have := DGet.k (k := .inr "steps") h; rw [o_steps] at this; exact this
theorem oput_steps {H : Hp} {o : Addr} (h : H o = some (.dK (odict l1 l2 l3 l4 l5 k))) : DPut H o (.str "steps") (.int k') (upd H o (.dK (odict l1 l2 l3 l4 l5 k'))) := by
  have := DPut.k (k := .inr "steps") (v := .int k') h (szt (by show 6 < _; decide)); rw [op_steps] at this; exact this
end
theorem ixn {n j : Nat} (h : j < n) : ixN n (j : Int) = some j := by
  unfold ixN
  rw [if_pos (by omega), if_pos (by omega)] <;> simp
def DS.won (s : DS) (p : Nat) : Bool := match s.sn p with
  | none => false
  | some l => !decide (some 2 ∈ l)
structure OwnIn (H : Hp) (o l1 l2 l3 l4 l5 : Addr) (s : DS) (cv hv : List V) (k : Int) : Prop where
  dict : H o = some (.dK (odict l1 l2 l3 l4 l5 k))
  came : H l1 = some (.lst cv)
  cameP : Paired (One H) cv s.came
  lev : H l2 = some (.lst (s.lev.map lvV))
  stg : H l3 = some (.lst ((List.range s.lev.length).map fun p => V.int (s.stg p : Nat)))
  won : H l4 = some (.lst ((List.range s.lev.length).map fun p => V.bl (s.won p)))
  heard : H l5 = some (.lst hv)
  heardP : Paired (One H) hv s.heard
  nd : [o, l1, l2, l3, l4, l5].Nodup
def OwnAt (H : Hp) (o : Addr) (L : List Addr) (s : DS) (k : Int) : Prop := ∃ l1 l2 l3 l4 l5 cv hv, L = [o, l1, l2, l3, l4, l5] ∧ OwnIn H o l1 l2 l3 l4 l5 s cv hv k
theorem OwnAt.but {H H' : Hp} {o : Addr} {L S : List Addr} {s : DS} {k : Int} (h : OwnAt H o L s k) (g : But S H H') (n : ∀ x ∈ S, x ∉ L) (tk : TK H H') : OwnAt H' o L s k := by
  obtain ⟨l1, l2, l3, l4, l5, cv, hv, rfl, h⟩ := h
  have w : ∀ x ∈ [o, l1, l2, l3, l4, l5], x ∉ S := fun x hx m => n x m hx
  exact ⟨l1, l2, l3, l4, l5, cv, hv, rfl, g _ _ (w o (by simp)) h.dict, g _ _ (w l1 (by simp)) h.came, pr_imp (fun _ _ => One.mono tk) h.cameP, g _ _ (w l2 (by simp)) h.lev, g _ _ (w l3 (by simp)) h.stg, g _ _ (w l4 (by simp)) h.won, g _ _ (w l5 (by simp)) h.heard, pr_imp (fun _ _ => One.mono tk) h.heardP, h.nd⟩
theorem OwnAt.same {H H' : Hp} {o : Addr} {L : List Addr} {s : DS} {k : Int} (h : OwnAt H o L s k) (g : Same H H') : OwnAt H' o L s k := h.but (S := []) (.of g) (fun _ m => by cases m) (.of g)
/-- what stands at its places -/
theorem OwnAt.kind {H : Hp} {o : Addr} {L : List Addr} {s : DS} {k : Int} (h : OwnAt H o L s k) : ∀ x ∈ L, (∃ xs, H x = some (.lst xs)) ∨ ∃ kvs, H x = some (.dK kvs) := by
  obtain ⟨l1, l2, l3, l4, l5, cv, hv, rfl, h⟩ := h
  intro x hx
  simp only [List.mem_cons, List.not_mem_nil, or_false] at hx
  rcases hx with rfl | rfl | rfl | rfl | rfl | rfl
  · exact .inr ⟨_, h.dict⟩
  · exact .inl ⟨_, h.came⟩
  · exact .inl ⟨_, h.lev⟩
  · exact .inl ⟨_, h.stg⟩
  · exact .inl ⟨_, h.won⟩
  · exact .inl ⟨_, h.heard⟩
theorem none0 {P : Program} {w : World} {K : PySem.W.Frag} {mg : Str → Option Value} {base : Heap} {f : Addr} {fd : FuncData} {sp : Sp} {ps : List Str} (h : ∀ vs H Q E, ¬ sp vs H Q E) : FnOk P w K mg base CX0 0 f fd ps sp :=
  ⟨fun vs H Q E q => absurd q (h vs H Q E), fun A outer s H args us vs Q E _ _ _ _ q => absurd q (h vs H Q E)⟩
/-! ### promises -/
def vc : Nat → Nat
  | 0 => 2
  | n + 1 => 2 + 3 * vc n
def spVal (n : Nat) : Sp := fun vs H Q _ => ∃ (p : Addr) (deep m : Nat), vs = [.ref p, .int deep] ∧ deep < n ∧ deep ≤ 2 ∧ m + vc deep ≤ 900000 ∧ PotAt H p m ∧ ∀ v d H', But [p] H H' → VAt H' v d → VOk deep d → PotAt H' p (m + vc deep) → Q v H'
def spODoor : Sp := fun vs H Q _ => ∃ n : Nat, vs = [.int n] ∧ n ≤ 5 ∧ ∀ o L H', Same H H' → (∀ x ∈ L, H x = none) → OwnAt H' o L (DS.new n) 0 → Q (.ref o) H'
def spOCome : Sp := fun vs H Q _ => ∃ (o : Addr) (L : List Addr) (p : Nat) (v : V) (s : DS) (k : Int), vs = [.ref o, .int p, v] ∧ OwnAt H o L s k ∧ p < s.lev.length ∧ s.WF ∧ ∀ H', But L H H' → OwnAt H' o L (s.come p v) k → Q .non H'
def spOStep : Sp := fun vs H Q _ => ∃ (o : Addr) (L : List Addr) (p : Nat) (s : DS) (k : Int), vs = [.ref o, .int p] ∧ OwnAt H o L s k ∧ s.cm p ≠ none ∧ s.WF ∧ ∀ t H', But L H H' → ToldAt H' t (s.told p) → OwnAt H' o L (s.step p) (k + 1) → Q (.ref t) H'
/-- a drawn deed: a coming (None as long as the player is here), or a step -/
def spDeed : Sp := fun vs H Q _ => ∃ (pt o : Addr) (L : List Addr) (s : DS) (k : Int) (m : Nat), vs = [.ref pt, .ref o] ∧ OwnAt H o L s k ∧ s.WF ∧ pt ∉ L ∧ PotAt H pt m ∧ m < 800000 ∧
  ∀ (t : Addr) (p : Nat) (H' : Hp), But [pt] H H' → PotAt H' pt (m + 100) → p < s.lev.length →
    ((s.cm p = none ∧ ∃ q v, H' t = some (.tup [.int (p : Nat), .ref q]) ∧ H' q = some (.tup [v]) ∧ ∃ d, VAt H' v d ∧ VOk 2 d) ∨ (s.cm p ≠ none ∧ H' t = some (.tup [.int (p : Nat), .non]))) → Q (.ref t) H'
def spIsWhole : Sp := fun vs H Q _ => ∃ i : Int, vs = [.int i] ∧ Q (.bl true) H
def spBelow : Sp := fun vs H Q _ => ∃ i n : Int, vs = [.int i, .int n] ∧ Q (.bl (decide (0 ≤ i ∧ i < n))) H
def spExch (K : PySem.W.Frag) : Sp := fun vs H Q _ => ∃ (a : Addr) (xs : List V) (p : Nat) (v : V), vs = [.ref a, .int p, v] ∧ SqT K H a xs ∧ p < xs.length ∧ xs.length ≤ 1000 ∧ ∀ q H', Same H H' → TF H' q (xs.set p v) → Q (.ref q) H'
def spSmW (n : Nat) : Sp := fun vs H Q _ => ∃ (v : V) (d : PyData) (m : Nat) (deep : Int), vs = [v, .int deep] ∧ VAt H v d ∧ VOk m d ∧ m < n ∧ (m : Int) ≤ deep ∧ ∀ H', Same H H' → Q (.bl true) H'
def spSmall : Sp := fun vs H Q _ => ∃ v : V, vs = [v] ∧ Good H v ∧ ∀ H', Same H H' → Q (.bl true) H'
def spDInit (C : Addr) : Sp := fun vs H Q _ => ∃ (d dx : Addr) (n : Nat), vs = [.ref d, .int n] ∧ 1 ≤ n ∧ n ≤ 5 ∧ H d = some (.ins C dx []) ∧ H dx = some (.own d) ∧
  ∀ H', But [d] H H' → DoorAt C H' d (DS.new n) → Q .non H'
def spCheck (C : Addr) : Sp := fun vs H Q _ => ∃ (d : Addr) (p : Nat) (s : DS), vs = [.ref d, .int p] ∧ DoorAt C H d s ∧ p < s.lev.length ∧ Q .non H
def optS : Option Str → V
  | none => .non
  | some z => .str z
def spNext (C : Addr) : Sp := fun vs H Q _ => ∃ (d : Addr) (p : Nat) (s : DS), vs = [.ref d, .int p] ∧ DoorAt C H d s ∧ p < s.lev.length ∧ ∀ H', Same H H' → Q (optS (s.next p)) H'
def spShows (C : Addr) : Sp := fun vs H Q _ => ∃ (d : Addr) (p : Nat) (s : DS), vs = [.ref d, .int p] ∧ DoorAt C H d s ∧ p < s.lev.length ∧ (s.stg p = 0 ∨ s.stg p = 2) ∧ s.cm p ≠ none ∧
  ∀ t H', But [d] H H' → ToldAt H' t (s.told p) → DoorAt C H' d { s.step p with deeds := s.deeds } → Q (.ref t) H'
def spAsks (C : Addr) : Sp := fun vs H Q _ => ∃ (d : Addr) (p : Nat) (s : DS), vs = [.ref d, .int p] ∧ DoorAt C H d s ∧ p < s.lev.length ∧ s.stg p = 3 ∧ s.cm p ≠ none ∧
  ∀ t H', But [d] H H' → ToldAt H' t (s.told p) → DoorAt C H' d { s.step p with deeds := s.deeds } → Q (.ref t) H'
def spStep (C : Addr) : Sp := fun vs H Q _ => ∃ (d : Addr) (p : Nat) (s : DS), vs = [.ref d, .int p] ∧ DoorAt C H d s ∧ s.cm p ≠ none ∧ s.deeds.length < 100000 ∧
  ∀ t H', But [d] H H' → ToldAt H' t (s.told p) → DoorAt C H' d (s.step p) → Q (.ref t) H'
def spCome (C : Addr) : Sp := fun vs H Q _ => ∃ (d : Addr) (p : Nat) (v : V) (s : DS), vs = [.ref d, .int p, v] ∧ DoorAt C H d s ∧ p < s.lev.length ∧ s.cm p = none ∧ Good H v ∧ s.deeds.length < 100000 ∧
  ∀ H', But [d] H H' → DoorAt C H' d (s.come p v) → Q .non H'
def DS.held (s : DS) : List Nat := (List.range s.lev.length).filter fun p => decide (s.lv p = some 1)
def spHeld (C : Addr) : Sp := fun vs H Q _ => ∃ (d : Addr) (s : DS), vs = [.ref d] ∧ DoorAt C H d s ∧ ∀ t H', Same H H' → H' t = some (.tup (s.held.map fun (p : Nat) => V.int (p : Int))) → Q (.ref t) H'
end Fp
namespace Fp
open PySem PySem.Spec PyProof.Rows L2
def top (i : Nat) : Stmt := PySem.Challenge.pw_fewplaymany_k36_whole_which_words_may_co.main.body.getD i (.Pass ⟨0, 0, 0, 0⟩)
structure PTx (mg : Str → Option Value) : Prop where
  isinstance : mg "isinstance" = none
  int : mg "int" = none
  bool : mg "bool" = none
  tuple : mg "tuple" = none
  all : mg "all" = none
  len : mg "len" = none
  enumerate : mg "enumerate" = none
  c_MOST_PLAYERS : ∃ t, mg "MOST_PLAYERS" = some (.int 5 t)
  c_MOST_DEEP : ∃ t, mg "MOST_DEEP" = some (.int 12 t)
  c_MOST_ENTRIES : ∃ t, mg "MOST_ENTRIES" = some (.int 60 t)
  c_MOST_INTEGER : ∃ t, mg "MOST_INTEGER" = some (.int 9999 t)
section
variable {P : Program} {w : World} {K : PySem.W.Frag} {mg : Str → Option Value} {base : Heap} {f : Addr} {fd : FuncData} {C : Addr}
abbrev s_is_whole : Stmt := top 9
theorem sc_is_whole : FnScope ["value"] ["value"] (defScope s_is_whole) := ⟨rfl, rfl, rfl, by decide +kernel, rfl, by decide +kernel, by decide +kernel⟩
theorem ok_is_whole (F : Fun K "is_whole" "is_whole" s_is_whole f fd) (T : PTx mg) : FnOk P w K mg base CX0 1 f fd ["value"] spIsWhole := by
  refine F.ok sc_is_whole (fun vs H Q E h => ?_) (fun cdv A outer s H vs Q E hr h => ?_)
  · obtain ⟨i, rfl, _⟩ := h
    rfl
  obtain ⟨i, rfl, q⟩ := h
  refine ⟨_, (pss_one (ps_ret (pe_and (pe_callB call_isi rfl T.isinstance (by decide +kernel) (pa_cons (pv 0) (pa_cons (pe_bltn (v := .ty "int") rfl T.int boot_int rfl) pa_nil))) (pe_one (pe_not (pe_callB call_isi rfl T.isinstance (by decide +kernel) (pa_cons (pv 0) (pa_cons (pe_bltn (v := .ty "bool") rfl T.bool boot_bool rfl) pa_nil)))))))), ?_⟩
  exact ⟨_, rfl, _, _, _, _, true, rfl, .ty "int", .base (.int i), by first | rfl | decide +kernel | kernel_rfl, _, rfl, iteT ⟨_, rfl, _, _, _, _, false, rfl, .ty "bool", .base (.int i), by first | rfl | decide +kernel | kernel_rfl, _, rfl, q⟩⟩
abbrev s_is_below : Stmt := top 10
theorem sc_is_below : FnScope ["value", "many"] ["value", "many"] (defScope s_is_below) := ⟨rfl, rfl, rfl, by decide +kernel, rfl, by decide +kernel, by decide +kernel⟩
theorem ok_is_below (F : Fun K "is_below" "is_below" s_is_below f fd) (T : PTx mg) (G_is_whole : Fd P w K mg base CX0 "is_whole" 1 ["value"] spIsWhole) : FnOk P w K mg base CX0 2 f fd ["value", "many"] spBelow := by
  refine F.ok sc_is_below (fun vs H Q E h => ?_) (fun cdv A outer s H vs Q E hr h => ?_)
  · obtain ⟨i, n, rfl, _⟩ := h
    rfl
  obtain ⟨i, n, rfl, q⟩ := h
  refine ⟨_, (pss_one (ps_ret (pe_and (pe_fd G_is_whole (hr.mono (by first | decide | omega)) rfl (pa_cons (pv 0) pa_nil)) (pe_one (pe_chain op_le op_lt pe_int (pv 0) (pv 1)))))), ?_⟩
  refine ⟨_, rfl, i, rfl, _, rfl, iteT ⟨_, rfl, _, _, rfl, rfl, _, rfl, ?_⟩⟩
  refine ite2 (fun c => ?_) (fun c => ?_)
  · refine ⟨_, rfl, _, _, rfl, rfl, ?_⟩
    have c' : 0 ≤ i := of_decide_eq_true c
    have e : decide (0 ≤ i ∧ i < n) = decide (i < n) := by simp [c']
    rw [e] at q
    exact q
  · have c' : ¬ 0 ≤ i := of_decide_eq_false (by simpa using c)
    have e : decide (0 ≤ i ∧ i < n) = false := decide_eq_false (fun z => c' z.1)
    rw [e] at q
    exact q
abbrev s_exchanged : Stmt := top 12
theorem sc_exchanged : FnScope ["row", "at", "thing"] ["row", "at", "thing"] (defScope s_exchanged) := ⟨rfl, rfl, rfl, by decide +kernel, rfl, by decide +kernel, by decide +kernel⟩
theorem ok_exchanged (F : Fun K "exchanged" "exchanged" s_exchanged f fd) : FnOk P w K mg base CX0 1 f fd ["row", "at", "thing"] (spExch K) := by
  refine F.ok sc_exchanged (fun vs H Q E h => ?_) (fun cdv A outer s H vs Q E hr h => ?_)
  · obtain ⟨a, xs, p, v, rfl, _⟩ := h
    rfl
  obtain ⟨a, xs, p, v, rfl, ha, hp, hx, k⟩ := h
  refine ⟨_, (pss_one (ps_ret (pe_op op_catF (pe_mid (pe_op op_catF (pe_slice sl_tupA (pv 0) po_none (po_some (pv 1))) (pe_tupF (pa_cons (pv 2) pa_nil)))) (pe_slice sl_tupA (pv 0) (po_some (pe_op op_add (pv 1) pe_int)) po_none)))), ?_⟩
  have hs1 : HT.sIx xs.length xs.length (some (p : Int)) = p := by rw [HT.sIx_nat]; omega
  have hs0 : HT.sIx xs.length 0 none = 0 := rfl
  have hs2 : HT.sIx xs.length 0 (some ((p : Int) + 1)) = p + 1 := by rw [show (p : Int) + 1 = ((p + 1 : Nat) : Int) by omega, HT.sIx_nat]; omega
  have hs3 : HT.sIx xs.length xs.length none = xs.length := rfl
  have hz := sizeLine_eq
  have c1 : cutV xs none (some (p : Int)) = xs.take p := by unfold cutV; rw [hs0, hs1]; simp
  have c2 : cutV xs (some ((p : Int) + 1)) none = xs.drop (p + 1) := by unfold cutV; rw [hs2, hs3, List.take_of_length_le (by simp)]
  have es : xs.set p v = (xs.take p ++ [v]) ++ xs.drop (p + 1) := by rw [List.set_eq_take_append_cons_drop, if_pos hp]; simp
  refine ⟨fun y H' => ∃ q, y = .ref q ∧ Same H H' ∧ TF H' q (xs.take p ++ [v]), ?_, ?_⟩
  · refine ⟨_, rfl, _, rfl, _, rfl, a, xs, rfl, ha, fun z => ?_, fun _ q1 n1 => ?_⟩
    · rw [hs1] at z; omega
    rw [c1]
    have g1 := same_new n1 (.tup (xs.take p))
    refine ⟨_, rfl, (by show 1 ≤ sizeLine; omega), fun q2 o2 n2 d2 => ?_⟩
    have g2 := same_new n2 (.frz o2 (.tup [v]))
    refine ⟨q1, q2, _, _, rfl, rfl, .of (g2 _ _ upd_same), TF.sq ⟨o2, upd_same, d2⟩, ?_, ?_, ?_, ?_⟩
    · simp; omega
    · intro z
      exact ⟨q2, rfl, g1.trans g2, o2, by rw [upd_same, z]; rfl, d2⟩
    · intro _ z; cases z
    · intro z _ q3 o3 n3 d3
      exact ⟨q3, rfl, (g1.trans g2).trans (same_new n3 _), o3, upd_same, d3⟩
  · rintro y H1 ⟨q, rfl, g, hq⟩
    refine ⟨_, rfl, _, rfl, _, _, rfl, rfl, _, rfl, a, xs, rfl, ha.ext g, fun z => ?_, fun _ q1 n1 => ?_⟩
    · rw [hs2] at z; omega
    rw [c2]
    have g1 := same_new n1 (.tup (xs.drop (p + 1)))
    refine ⟨q, q1, _, _, rfl, rfl, ((TK.of g1).f hq).sq, .of upd_same, ?_, ?_, ?_, ?_⟩
    · simp; omega
    · intro z; simp at z
    · intro _ z
      rw [z, List.append_nil] at es
      exact k q _ (g.trans g1) (by rw [es]; exact (TK.of g1).f hq)
    · intro _ _ q3 o3 n3 d3
      exact k q3 _ ((g.trans g1).trans (same_new n3 _)) ⟨o3, by rw [upd_same, es], d3⟩
abbrev s_is_small_within : Stmt := top 18
theorem sc_is_small_within : FnScope ["value", "deep", "thing"] ["value", "deep"] (defScope s_is_small_within) := ⟨rfl, rfl, rfl, by decide +kernel, rfl, by decide +kernel, by decide +kernel⟩
theorem ok_small_within {n : Nat} (F : Fun K "is_small_within" "is_small_within" s_is_small_within f fd) (T : PTx mg) (G_is_whole : Fd P w K mg base CX0 "is_whole" 1 ["value"] spIsWhole) (G_is_small_within : Fd P w K mg base CX0 "is_small_within" (n + 1) ["value", "deep"] (spSmW n)) : FnOk P w K mg base CX0 (n + 2) f fd ["value", "deep"] (spSmW (n + 1)) := by
  refine F.ok sc_is_small_within (fun vs H Q E h => ?_) (fun cdv A outer s H vs Q E hr h => ?_)
  · obtain ⟨v, d, m, deep, rfl, _⟩ := h
    rfl
  obtain ⟨v, d, m, deep, rfl, hv, ho, hm, hd, k⟩ := h
  have hr1 : Room 1 _ := hr.mono (by omega)
  refine ⟨_, (pss_cons (ps_if (pt_val (pe_callB call_isi rfl T.isinstance (by decide +kernel) (pa_cons (pv 0) (pa_cons (pe_bltn (v := .ty "tuple") rfl T.tuple boot_tuple rfl) pa_nil)))) (pss_cons (ps_if (PW.pt (pw_or (pt_cmpR op_eq (pv 1) pe_int (nomark _)) (pw_or1 (pt_cmpR op_gt (pe_callB call_len rfl T.len (by decide +kernel) (pa_cons (pv 0) pa_nil)) (pe_cI T.c_MOST_ENTRIES) (nomark _))))) (pss_one (ps_ret pe_bl)) pss_nil)
  (pss_one (ps_ret (pe_callB (cr_all rfl) rfl T.all (by decide +kernel) (pa_cons (pe_lc (own := [("thing", 2)]) (g := (gName 2)) (tt := tYes) rfl sc_is_small_within.nd (pi_tup (pv 0)) (blkOk_by (own := [("thing", 2)]) (N := ["value", "deep", "thing"]) (sc := defScope s_is_small_within) (by decide +kernel)) (fun _ _ _ _ _ => (pg_name (i := 2) sc_is_small_within.nd rfl (Or.inl rfl))) (fun _ _ _ _ _ => pts_nil) (fun _ _ _ _ _ => (pe_fd G_is_small_within hr rfl (pa_cons (pv 2) (pa_cons (pe_op op_sub (pv 1) pe_int) pa_nil))))) pa_nil))))) pss_nil)
  (pss_one (ps_ret (pe_or (pe_cmpR op_isN (pv 0) pe_non (nomark _)) (pe_one (pe_and (pe_fd G_is_whole hr1 rfl (pa_cons (pv 0) pa_nil)) (pe_one (pe_chain op_le op_le (pe_un un_neg (pe_cI T.c_MOST_INTEGER)) (pv 0) (pe_cI T.c_MOST_INTEGER))))))))), ?_⟩
  cases hv with
  | non =>
    refine ⟨_, rfl, _, _, _, _, false, rfl, .ty "tuple", .base .non, by first | rfl | decide +kernel | kernel_rfl, _, rfl, iteF ?_⟩
    exact ⟨_, rfl, rfl, _, rfl, iteT (k H (Same.refl _))⟩
  | int i =>
    have hi : -9999 ≤ i ∧ i ≤ 9999 := by cases ho with | int a b => exact ⟨a, b⟩
    refine ⟨_, rfl, _, _, _, _, false, rfl, .ty "tuple", .base (.int i), by first | rfl | decide +kernel | kernel_rfl, _, rfl, iteF ?_⟩
    refine ⟨_, rfl, rfl, _, rfl, iteF ⟨_, rfl, i, rfl, _, rfl, iteT ?_⟩⟩
    refine ⟨_, rfl, _, rfl, _, _, rfl, rfl, _, rfl, ite_yes (decide_eq_true hi.1) ⟨_, _, rfl, rfl, ?_⟩⟩
    show Q (.bl (decide (i ≤ 9999))) H
    rw [decide_eq_true hi.2]
    exact k H (Same.refl _)
  | @tup a xs ds ha hxs =>
    obtain ⟨m', rfl, hds, hlen⟩ : ∃ m', m = m' + 1 ∧ (∀ d ∈ ds, VOk m' d) ∧ ds.length ≤ 3 := by cases ho with | tup a b => exact ⟨_, rfl, a, b⟩
    have hl3 : xs.length ≤ 3 := by rw [hxs.len]; exact hlen
    refine ⟨_, rfl, _, _, _, _, true, rfl, .ty "tuple", .base (.tup ha), by first | rfl | decide +kernel | kernel_rfl, _, rfl, iteT ?_⟩
    refine ⟨_, rfl, rfl, _, rfl, ite_no (decide_eq_false (fun z => by injection z with z; omega)) ?_⟩
    refine ⟨_, rfl, _, xs.length, rfl, .inr ⟨xs, .of ha, rfl⟩, _, _, rfl, rfl, _, rfl, ite_no (decide_eq_false (by omega)) ?_⟩
    refine ⟨_, rfl, a, rfl, ⟨_, .of ha⟩, fun D hD => ?_⟩
    refine lc_tup (K := K) (a := a) (xs := xs) (fun i H' => Same H H' ∧ H' D = some (.lst ((List.replicate i true).map V.bl))) ⟨same_new hD _, upd_same⟩ (fun i H' _ z => .of (z.1 _ _ ha)) ?_ ?_
    · rintro i x H2 hx ⟨g2, hD2⟩
      obtain ⟨it, hit, hI⟩ := hxs.get hx
      refine ⟨rfl, _, rfl, _, rfl, _, _, rfl, rfl, x, it, m', _, rfl, hI.mono (.of g2), hds it (List.mem_of_getElem? hit), by omega, by omega, fun H3 g3 => ?_⟩
      refine ⟨_, g3 _ _ hD2, szt (by rw [List.length_map, List.length_replicate]; have := get_lt hx; omega), fun b o q => ?_, ?_⟩
      · rw [upd_ne (ne_of_none q hD)]
        exact g3 _ _ (g2 b o q)
      · rw [upd_same, List.replicate_succ', List.map_append]; rfl
    · rintro H2 ⟨g2, hD2⟩
      refine ⟨D, List.replicate xs.length true, rfl, .of hD2, ?_⟩
      rw [show (List.replicate xs.length true).all id = true by simp]
      exact k _ g2
theorem all_small (F : Fun K "is_small_within" "is_small_within" s_is_small_within f fd) (b : Binds K fd ["value", "deep"] []) (m : mg "is_small_within" = some (.ref f)) (T : PTx mg) (G_is_whole : Fd P w K mg base CX0 "is_whole" 1 ["value"] spIsWhole) : ∀ n : Nat, Fd P w K mg base CX0 "is_small_within" (n + 1) ["value", "deep"] (spSmW n)
  | 0 => ⟨f, fd, m, F.kp, b, (none0 (fun vs H Q E h => by obtain ⟨v, d, m, deep, _, _, _, h, _⟩ := h; omega)).mono (Nat.zero_le _)⟩
  | n + 1 => ⟨f, fd, m, F.kp, b, ok_small_within F T G_is_whole (all_small F b m T G_is_whole n)⟩
abbrev s_is_small_value : Stmt := top 17
theorem sc_is_small_value : FnScope ["value"] ["value"] (defScope s_is_small_value) := ⟨rfl, rfl, rfl, by decide +kernel, rfl, by decide +kernel, by decide +kernel⟩
theorem ok_small_value (F : Fun K "is_small_value" "is_small_value" s_is_small_value f fd) (T : PTx mg) (G_is_small_within : Fd P w K mg base CX0 "is_small_within" 6 ["value", "deep"] (spSmW 5)) : FnOk P w K mg base CX0 7 f fd ["value"] spSmall := by
  refine F.ok sc_is_small_value (fun vs H Q E h => ?_) (fun cdv A outer s H vs Q E hr h => ?_)
  · obtain ⟨v, rfl, _⟩ := h
    rfl
  obtain ⟨v, rfl, ⟨d, hv, ho⟩, k⟩ := h
  refine ⟨_, (pss_one (ps_ret (pe_fd G_is_small_within (hr.mono (by first | decide | omega)) rfl (pa_cons (pv 0) (pa_cons (pe_cI T.c_MOST_DEEP) pa_nil))))), ?_⟩
  exact ⟨_, rfl, v, d, 3, 12, rfl, hv, ho, by decide, by decide, k⟩
abbrev s_Door_init : Stmt := inClass (top 21) 0
theorem sc_Door_init : FnScope ["self", "many"] ["self", "many"] (defScope s_Door_init) := ⟨rfl, rfl, rfl, by decide +kernel, rfl, by decide +kernel, by decide +kernel⟩
theorem ok_Door_init (F : Fun K "__init__" "Door.__init__" s_Door_init f fd) (T : PTx mg) (hC : DC K C) (G_is_whole : Fd P w K mg base CX0 "is_whole" 1 ["value"] spIsWhole) : FnOk P w K mg base CX0 2 f fd ["self", "many"] (spDInit C) := by
  refine F.ok sc_Door_init (fun vs H Q E h => ?_) (fun cdv A outer s H vs Q E hr h => ?_)
  · obtain ⟨d, dx, n, rfl, _⟩ := h
    rfl
  obtain ⟨d, dx, n, rfl, h1, h5, hd, hx, k⟩ := h
  refine ⟨_, (pss_cons (ps_if (PW.pt (pw_or (pt_not (pt_val (pe_fd G_is_whole (hr.mono (by first | decide | omega)) rfl (pa_cons (pv 1) pa_nil)))) (pw_or1 (pt_not (pt_chain op_le op_le pe_int (pv 1) (pe_cI T.c_MOST_PLAYERS)))))) (pss_one (ps_no)) pss_nil)
  (pss_cons (ps_fld (pv 0) (pv 1) rfl)
  (pss_cons (ps_fld (pv 0) (pe_op op_repF (pe_tupF (pa_cons pe_non pa_nil)) (pv 1)) rfl)
  (pss_cons (ps_fld (pv 0) (pe_op op_repF (pe_tupF (pa_cons pe_non pa_nil)) (pv 1)) rfl)
  (pss_cons (ps_fld (pv 0) (pe_op op_repF (pe_tupF (pa_cons pe_non pa_nil)) (pv 1)) rfl)
  (pss_cons (ps_fld (pv 0) (pe_op op_repF (pe_tupF (pa_cons pe_non pa_nil)) (pv 1)) rfl)
  (pss_one (ps_fld (pv 0) (pe_tup pa_nil) rfl)))))))), ?_⟩
  have hn : (1 : Int) ≤ n ∧ (n : Int) ≤ 5 := by omega
  refine ⟨_, rfl, n, rfl, _, rfl, iteF ⟨_, rfl, _, _, rfl, rfl, _, rfl, ite_yes (decide_eq_true hn.1) ⟨_, _, rfl, rfl, _, rfl, ?_⟩⟩⟩
  rw [decide_eq_true hn.2]
  refine iteF ?_
  have rep : ∀ (H1 : Hp) (σ : L2.St) (Q1 : V → Hp → Prop), σ[1]? = some (some (.int n)) → (∀ q H', Same H1 H' → TF H' q (List.replicate n .non) → Q1 (.ref q) H') → tOp (rRepF K) (tTupF (tCons (tC .non) tNil)) (tVar 1) σ H1 Q1 := by
    intro H1 σ Q1 hσ hq
    refine ⟨szl (by decide), fun t o nt dt => ⟨_, hσ, t, n, [.non], rfl, rfl, TF.sq ⟨o, upd_same, dt⟩, by simp, by omega, by omega, by decide, fun z => ?_, fun z p o2 np d2 => ?_⟩⟩
    · have : n = 1 := by omega
      subst this
      exact hq t _ (same_new nt _) ⟨o, upd_same, dt⟩
    · refine hq p _ ((same_new nt _).trans (same_new np _)) ⟨o2, ?_, d2⟩
      rw [upd_same]
      simp
  refine ⟨_, rfl, _, rfl, d, C, dx, [], rfl, hd, hC.cl, hC.nM, by decide, ?_⟩
  have b1 : But [d] H (upd H d (.ins C dx (putF "many" (.int n) []))) := (But.refl _ H).put (by simp)
  have x1 : upd H d (.ins C dx (putF "many" (.int n) [])) dx = some (.own d) := by
    rw [upd_ne (fun z => by rw [z, hd] at hx; cases hx)]; exact hx
  refine rep _ _ _ rfl fun a H2 g2 h2 => ?_
  refine ⟨_, rfl, d, C, dx, _, rfl, g2 _ _ upd_same, hC.cl, hC.nC, by show 1 < 1000; decide, ?_⟩
  have nx : dx ≠ d := fun z => by rw [z, hd] at hx; cases hx
  have b2 := (b1.trans (.of g2)).put (p := d) (o := .ins C dx (putF "came" (.ref a) (putF "many" (.int n) []))) (by simp)
  have ad : a ≠ d := fun z => by obtain ⟨o, z2, _⟩ := h2; have q := g2 _ _ upd_same; rw [← z, z2] at q; cases q
  refine rep _ _ _ rfl fun b H3 g3 h3 => ?_
  refine ⟨_, rfl, d, C, dx, _, rfl, g3 _ _ upd_same, hC.cl, hC.nL, by show 2 < 1000; decide, ?_⟩
  have b3 := (b2.trans (.of g3)).put (p := d) (o := .ins C dx (putF "levels" (.ref b) (putF "came" (.ref a) (putF "many" (.int n) [])))) (by simp)
  have bd : b ≠ d := fun z => by obtain ⟨o, z2, _⟩ := h3; have q := g3 _ _ upd_same; rw [← z, z2] at q; cases q
  refine rep _ _ _ rfl fun c H4 g4 h4 => ?_
  refine ⟨_, rfl, d, C, dx, _, rfl, g4 _ _ upd_same, hC.cl, hC.nH, by show 3 < 1000; decide, ?_⟩
  have b4 := (b3.trans (.of g4)).put (p := d) (o := .ins C dx (putF "heard" (.ref c) (putF "levels" (.ref b) (putF "came" (.ref a) (putF "many" (.int n) []))))) (by simp)
  have cd : c ≠ d := fun z => by obtain ⟨o, z2, _⟩ := h4; have q := g4 _ _ upd_same; rw [← z, z2] at q; cases q
  refine rep _ _ _ rfl fun e H5 g5 h5' => ?_
  refine ⟨_, rfl, d, C, dx, _, rfl, g5 _ _ upd_same, hC.cl, hC.nS, by show 4 < 1000; decide, ?_⟩
  have b5 := (b4.trans (.of g5)).put (p := d) (o := .ins C dx (putF "seen" (.ref e) (putF "heard" (.ref c) (putF "levels" (.ref b) (putF "came" (.ref a) (putF "many" (.int n) [])))))) (by simp)
  have ed : e ≠ d := fun z => by obtain ⟨o, z2, _⟩ := h5'; have q := g5 _ _ upd_same; rw [← z, z2] at q; cases q
  refine ⟨szl (by decide), fun f nf => ?_⟩
  have fd : f ≠ d := fun z => by rw [z, upd_same] at nf; cases nf
  refine ⟨_, rfl, d, C, dx, _, rfl, by rw [upd_ne (Ne.symm fd)]; exact upd_same, hC.cl, hC.nD, by show 5 < 1000; decide, ?_⟩
  have b6 := (b5.new (o := .tup []) nf).put (p := d) (o := .ins C dx (putF "deeds" (.ref f) (putF "seen" (.ref e) (putF "heard" (.ref c) (putF "levels" (.ref b) (putF "came" (.ref a) (putF "many" (.int n) []))))))) (by simp)
  rw [d_all] at b6 ⊢
  have kp : ∀ {q : Addr} {o : HO}, q ≠ d → H5 q = some o → upd (upd (upd H5 d (.ins C dx (putF "seen" (.ref e) (putF "heard" (.ref c) (putF "levels" (.ref b) (putF "came" (.ref a) (putF "many" (.int n) []))))))) f (.tup [])) d (.ins C dx (dfl n a b c e f)) q = some o := fun {q o} ne h => by
    rw [upd_ne ne, upd_ne (fun z => by rw [z] at h; rw [upd_ne fd, h] at nf; cases nf), upd_ne ne]; exact h
  have k4 : ∀ {q : Addr} {o : HO}, q ≠ d → H4 q = some o → H5 q = some o := fun {q o} ne h => g5 _ _ (by rw [upd_ne ne]; exact h)
  have k3 : ∀ {q : Addr} {o : HO}, q ≠ d → H3 q = some o → H4 q = some o := fun {q o} ne h => g4 _ _ (by rw [upd_ne ne]; exact h)
  have k2 : ∀ {q : Addr} {o : HO}, q ≠ d → H2 q = some o → H3 q = some o := fun {q o} ne h => g3 _ _ (by rw [upd_ne ne]; exact h)
  have tf : ∀ {q : Addr} {xs : List V} {Ha Hb : Hp}, q ≠ d → TF Ha q xs → (∀ {o}, Ha q = some o → Hb q = some o) → TF Hb q xs := fun _ ⟨o, h, z⟩ f => ⟨o, f h, z⟩
  have rp : ∀ {β : Type} {F : V → Option β → Prop}, F .non none → Paired F (List.replicate n .non) (List.replicate n (none : Option β)) := fun h => pr_rep h n
  refine k _ b6 ⟨dx, a, b, c, e, f, List.replicate n .non, List.replicate n .non, List.replicate n .non, [], ?_⟩
  refine ⟨?_, ?_, tf ad h2 fun h => kp ad (k4 ad (k3 ad (k2 ad h))), rp rfl, ?_, tf cd h4 fun h => kp cd (k4 cd h), rp rfl, tf ed h5' fun h => kp ed h, rp rfl, ?_, .nil, fun p v hv => ?_, DS.WF.new h1 h5⟩
  · rw [upd_same]; show _ = some (HO.ins C dx (dfl ((List.replicate n (none : Lv)).length : Nat) a b c e f)); rw [List.length_replicate]
  · exact kp nx (k4 nx (k3 nx (k2 nx (g2 _ _ x1))))
  · show TF _ b ((List.replicate n (none : Lv)).map lvV); rw [List.map_replicate]; exact tf bd h3 fun h => kp bd (k4 bd (k3 bd h))
  · rw [upd_ne fd]; exact upd_same
  · rw [DS.cm_new] at hv; cases hv
abbrev s_Door_check_player : Stmt := inClass (top 21) 7
theorem sc_Door_check_player : FnScope ["self", "player"] ["self", "player"] (defScope s_Door_check_player) := ⟨rfl, rfl, rfl, by decide +kernel, rfl, by decide +kernel, by decide +kernel⟩
theorem ok_Door_check_player (F : Fun K "check_player" "Door.check_player" s_Door_check_player f fd) (T : PTx mg) (hC : DC K C) (G_is_below : Fd P w K mg base CX0 "is_below" 2 ["value", "many"] spBelow) : FnOk P w K mg base CX0 3 f fd ["self", "player"] (spCheck C) := by
  refine F.ok sc_Door_check_player (fun vs H Q E h => ?_) (fun cdv A outer s H vs Q E hr h => ?_)
  · obtain ⟨d, p, s, rfl, _⟩ := h
    rfl
  obtain ⟨d, p, s, rfl, hD, hp, k⟩ := h
  refine ⟨_, (pss_one (ps_if (pt_not (pt_val (pe_fd G_is_below (hr.mono (by first | decide | omega)) rfl (pa_cons (pv 1) (pa_cons (pe_fld (pv 0) rfl) pa_nil))))) (pss_one (ps_no)) pss_nil)), ?_⟩
  obtain ⟨dx, a, b, c, e, f, cv, hv, sv, dv, D⟩ := hD
  refine ⟨_, rfl, _, rfl, d, C, dx, _, _, rfl, D.obj, hC.cl, hC.nM, d_many, _, _, rfl, _, rfl, ?_⟩
  rw [decide_eq_true (show (0 : Int) ≤ (p : Int) ∧ (p : Int) < (s.lev.length : Nat) by omega)]
  exact iteF k
abbrev s_Door_next : Stmt := inClass (top 21) 6
theorem sc_Door_next : FnScope ["self", "player"] ["self", "player"] (defScope s_Door_next) := ⟨rfl, rfl, rfl, by decide +kernel, rfl, by decide +kernel, by decide +kernel⟩
theorem ok_Door_next (F : Fun K "next" "Door.next" s_Door_next f fd) (T : PTx mg) (hC : DC K C) (M_check_player : Md P w K mg base CX0 C "check_player" 3 ["self", "player"] (spCheck C)) : FnOk P w K mg base CX0 4 f fd ["self", "player"] (spNext C) := by
  refine F.ok sc_Door_next (fun vs H Q E h => ?_) (fun cdv A outer s H vs Q E hr h => ?_)
  · obtain ⟨d, p, s, rfl, _⟩ := h
    rfl
  obtain ⟨d, p, s, rfl, hD, hp, k⟩ := h
  refine ⟨_, (pss_cons (ps_expr (pe_md (pv 0) hC.cl M_check_player (hr.mono (by first | decide | omega)) (pa_cons (pv 1) pa_nil)))
  (pss_cons (ps_if (pt_cmpR op_isN (pe_ix ix_tup (pe_fld (pv 0) rfl) (pv 1) (fun _ _ => rfl)) pe_non (nomark _)) (pss_one (ps_ret pe_non)) pss_nil)
  (pss_cons (ps_if (pt_cmpR op_in_seq (pe_ix ix_tup (pe_fld (pv 0) rfl) (pv 1) (fun _ _ => rfl)) (pe_tup (pa_cons pe_int (pa_cons pe_int pa_nil))) rfl) (pss_one (ps_ret pe_str)) pss_nil)
  (pss_cons (ps_if (PW.pt (pw_and (pt_cmpR op_eq (pe_ix ix_tup (pe_fld (pv 0) rfl) (pv 1) (fun _ _ => rfl)) pe_int (nomark _)) (pw_and1 (pt_cmpR op_isN (pe_ix ix_tup (pe_fld (pv 0) rfl) (pv 1) (fun _ _ => rfl)) pe_non (nomark _))))) (pss_one (ps_ret pe_str)) pss_nil)
  (pss_one (ps_ret pe_str)))))), ?_⟩
  have hD' := hD
  obtain ⟨dx, a, b, c, e, f, cv, hv, sv, dv, D⟩ := hD'
  have W := D.wf
  refine ⟨_, rfl, d, dx, _, rfl, D.obj, no_check, _, rfl, d, p, s, rfl, hD, hp, ?_⟩
  obtain ⟨xc, hxc, oc⟩ := pr_at D.cameP (W.acm hp)
  obtain ⟨xs, hxs, os⟩ := pr_at D.seenP (W.asn hp)
  refine ⟨_, rfl, d, C, dx, _, _, rfl, D.obj, hC.cl, hC.nC, d_came, _, rfl, a, cv, _, _, rfl, rfl, D.came.sq, atI_nat hxc, rfl, _, rfl, ?_⟩
  rw [oc.is]
  cases hc : s.cm p with
  | none =>
    have k' := k H (Same.refl _)
    unfold DS.next at k'
    rw [hc] at k'
    exact iteT k'
  | some v =>
    refine iteF ?_
    have flx : flatV (lvV (s.lv p)) = true := by cases s.lv p <;> rfl
    refine ⟨_, rfl, d, C, dx, _, _, rfl, D.obj, hC.cl, hC.nL, d_lev, _, rfl, b, _, _, _, rfl, rfl, D.lev.sq, atI_nat (alvV hp), szl (by decide), fun t nt => ⟨t, [.int 0, .int 2], rfl, .inr (.of upd_same), flx, rfl, _, rfl, ?_⟩⟩
    have g := same_new nt (.tup [.int 0, .int 2])
    have k' := k _ g
    unfold DS.next at k'
    rw [hc] at k'
    have D' := D.mono (.of g) (fun o q => g _ _ q) (by rw [g _ _ D.own]; exact D.own.symm)
    have ein : inV (lvV (s.lv p)) [.int 0, .int 2] = decide (s.lv p = some 0 ∨ s.lv p = some 2) := by
      cases s.lv p with
      | none => rfl
      | some x => show ((0 == x) || ((2 == x) || false)) = _; rw [Bool.or_false, Bool.eq_iff_iff]; simp; omega
    have es : scal (lvV (s.lv p)) (.int 1) = true := by cases s.lv p <;> rfl
    rw [ein]
    refine ite2 (fun cc => ?_) (fun cc => ?_)
    · have cc := of_decide_eq_true cc
      have e : s.stg p = 3 := DS.stg3.mpr (by rcases cc with z | z <;> exact ⟨_, z, by decide⟩)
      rw [e] at k'
      exact k'
    · have cc : ¬ (s.lv p = some 0 ∨ s.lv p = some 2) := of_decide_eq_false (by simpa using cc)
      refine ⟨_, rfl, d, C, dx, _, _, rfl, D'.obj, hC.cl, hC.nL, d_lev, _, rfl, b, _, _, _, rfl, rfl, D'.lev.sq, atI_nat (alvV hp), es, _, rfl, ?_⟩
      refine ite2 (fun c1 => ?_) (fun c1 => ?_)
      · have c1 : s.lv p = some 1 := by
          have c1 := of_decide_eq_true c1
          cases z : s.lv p with
          | none => rw [z] at c1; cases c1
          | some x => rw [z] at c1; injection c1 with c1; rw [c1]
        refine ⟨_, rfl, d, C, dx, _, _, rfl, D'.obj, hC.cl, hC.nS, d_seen, _, rfl, e, sv, _, _, rfl, rfl, D'.seen.sq, atI_nat hxs, rfl, _, rfl, ?_⟩
        rw [os.is]
        cases z : s.sn p with
        | none => rw [DS.stg1.mpr ⟨c1, z⟩] at k'; exact iteT k'
        | some l => rw [DS.stg2.mpr ⟨c1, by rw [z]; simp⟩] at k'; exact iteF k'
      · have c1 : s.lv p ≠ some 1 := fun z => c1 (by rw [z]; rfl)
        refine iteF ?_
        have e : s.lv p = none := by
          cases z : s.lv p with
          | none => rfl
          | some x =>
            rcases W.vals p x z with rfl | rfl | rfl
            · exact absurd (.inl z) cc
            · exact absurd z c1
            · exact absurd (.inr z) cc
        rw [DS.stg0.mpr e] at k'
        exact k'
abbrev s_Door_shows_level : Stmt := inClass (top 21) 8
theorem sc_Door_shows_level : FnScope ["self", "player", "level"] ["self", "player"] (defScope s_Door_shows_level) := ⟨rfl, rfl, rfl, by decide +kernel, rfl, by decide +kernel, by decide +kernel⟩
theorem ok_Door_shows_level (F : Fun K "shows_level" "Door.shows_level" s_Door_shows_level f fd) (hC : DC K C) (G_exchanged : Fd P w K mg base CX0 "exchanged" 1 ["row", "at", "thing"] (spExch K)) : FnOk P w K mg base CX0 2 f fd ["self", "player"] (spShows C) := by
  refine F.ok sc_Door_shows_level (fun vs H Q E h => ?_) (fun cdv A outer s H vs Q E hr h => ?_)
  · obtain ⟨d, p, s, rfl, _⟩ := h
    rfl
  obtain ⟨d, p, s, rfl, hD, hp, hs, hc, k⟩ := h
  refine ⟨_, (pss_cons (ps_set (i := 2) sc_Door_shows_level.nd rfl (Or.inl rfl) pe_int)
  (C8.pss_cut (ps_if (pt_cmpR op_notN (pe_ix ix_tup (pe_fld (pv 0) rfl) (pv 1) (fun _ _ => rfl)) pe_non (nomark _)) (pss_one (ps_set (i := 2) sc_Door_shows_level.nd rfl (Or.inl rfl) (pe_ifExp (pt_cmpR op_in_seq pe_int (pe_ix ix_tup (pe_fld (pv 0) rfl) (pv 1) (fun _ _ => rfl)) rfl) pe_int pe_int))) pss_nil)
  (pss_cons (ps_fld (pv 0) (pe_fd G_exchanged (hr.mono (by first | decide | omega)) rfl (pa_cons (pe_fld (pv 0) rfl) (pa_cons (pv 1) (pa_cons (pv 2) pa_nil)))) rfl)
  (pss_one (ps_ret (pe_tup (pa_cons pe_str (pa_cons (pv 2) pa_nil)))))))), ?_⟩
  obtain ⟨dx, a, b, c, e, f, cv, hv, sv, dv, D⟩ := hD
  have W := D.wf
  obtain ⟨xs, hxs, os⟩ := pr_at D.seenP (W.asn hp)
  have hn0 : s.stg p = 0 → s.sn p = none := fun z => by
    cases q : s.sn p with
    | none => rfl
    | some l => exact absurd (DS.stg0.mp z) (W.snv p (by rw [q]; simp))
  have stepL : ∀ x : Int, s.told p = .level x → s.step p = { s with deeds := (s.step p).deeds, lev := s.lev.set p (some x) } := fun x hx => by
    rcases hs with z | z
    · rw [DS.step0 z]; rw [DS.told0 z] at hx; injection hx with hx; rw [← hx]
    · rw [DS.step2 z]; rw [DS.told2 z] at hx; injection hx with hx; rw [← hx]
  refine ⟨fun σ H1 => ∃ x : Int, σ = [some (.ref d), some (.int p), some (.int x)] ∧ H1 = H ∧ s.told p = .level x, ?_, ?_⟩
  · refine ⟨_, rfl, d, C, dx, _, _, rfl, D.obj, hC.cl, hC.nS, d_seen, _, rfl, e, sv, _, _, rfl, rfl, D.seen.sq, atI_nat hxs, rfl, _, rfl, ?_⟩
    rw [os.is]
    cases z : s.sn p with
    | none =>
      refine iteF ⟨1, rfl, rfl, ?_⟩
      rcases hs with z' | z'
      · exact DS.told0 z'
      · exact absurd z (DS.stg2.mp z').2
    | some l =>
      have z2 : s.stg p = 2 := by
        rcases hs with z' | z'
        · rw [hn0 z'] at z; cases z
        · exact z'
      have tl : s.told p = .level (s.wr p) := DS.told2 z2
      rw [z] at os
      obtain ⟨q, rfl, hq⟩ := os
      refine iteT ⟨_, rfl, d, C, dx, _, _, rfl, D.obj, hC.cl, hC.nS, d_seen, _, rfl, e, sv, _, _, rfl, rfl, D.seen.sq, atI_nat hxs, q, _, rfl, .inr hq.sq, rfl, lv_flat l, _, rfl, ?_⟩
      have sw : s.saw p = decide (some 2 ∈ l) := by unfold DS.saw; rw [z]; rfl
      rw [show (if false = true then !inV (.int 2) (l.map lvV) else inV (.int 2) (l.map lvV)) = s.saw p by rw [sw, inV_lv]; rfl]
      refine ite2 (fun c => ⟨0, rfl, rfl, ?_⟩) (fun c => ⟨2, rfl, rfl, ?_⟩)
      · rw [tl]; unfold DS.wr; rw [if_pos c]
      · rw [tl]; unfold DS.wr; rw [if_neg c]
  · rintro σ H1 ⟨x, rfl, rfl, ht⟩
    refine ⟨_, rfl, d, C, dx, _, _, rfl, D.obj, hC.cl, hC.nL, d_lev, _, rfl, _, rfl, b, _, p, _, rfl, D.lev.sq, by rw [List.length_map]; exact hp, by rw [List.length_map]; have := W.n5; omega, fun q H2 g2 h2 => ?_⟩
    refine ⟨_, rfl, d, C, dx, _, rfl, g2 _ _ D.obj, hC.cl, hC.nL, by show 6 < 1000; decide, ?_⟩
    rw [dp_lev]
    have b3 := (But.of (S := [d]) g2).put (o := .ins C dx (dfl (s.lev.length : Nat) a q c e f)) (p := d) (by simp)
    refine ⟨_, rfl, szl (by show 2 ≤ _; decide), fun t nt => ?_⟩
    have tk : TK H1 (upd H2 d (.ins C dx (dfl (s.lev.length : Nat) a q c e f))) := (TK.of g2).trans (.put (g2 _ _ D.obj) fun z => z)
    have ndq : q ≠ d := fun z => by obtain ⟨o, z2, _⟩ := h2; have := g2 _ _ D.obj; rw [← z, z2] at this; cases this
    have h2' : TF (upd H2 d (.ins C dx (dfl (s.lev.length : Nat) a q c e f))) q ((s.lev.map lvV).set p (.int x)) := by obtain ⟨o, z2, z3⟩ := h2; exact ⟨o, by rw [upd_ne ndq]; exact z2, z3⟩
    have ndx : dx ≠ d := fun z => by have := D.obj; rw [← z, D.own] at this; cases this
    refine k t _ (b3.new nt) (by rw [ht]; exact upd_same) ?_
    have D2 : DoorIn C (upd H2 d (.ins C dx (dfl (s.lev.length : Nat) a q c e f))) d { s.step p with deeds := s.deeds } dx a q c e f cv hv sv dv := by
      have wf2 := W.step hc
      have es := stepL x ht
      have e1 : (s.step p).lev = s.lev.set p (some x) := by rw [es]
      have e2 : (s.step p).came = s.came := by rw [es]
      have e3 : (s.step p).heard = s.heard := by rw [es]
      have e4 : (s.step p).seen = s.seen := by rw [es]
      refine ⟨?_, ?_, tk.f D.came, ?_, ?_, tk.f D.heard, ?_, tk.f D.seen, ?_, tk.t D.deeds, pr_imp (fun _ _ => DeedAt.mono tk) D.deedsP, fun r v hv => (D.good r v (by rw [← DS.cm_step (p := p)]; exact hv)).mono tk, ⟨wf2.n1, wf2.n5, wf2.lc, wf2.lh, wf2.ls, wf2.vals, wf2.cmv, wf2.snv, wf2.lok, wf2.z2, wf2.s2⟩⟩
      · rw [upd_same]; show _ = some (HO.ins C dx (dfl ((s.step p).lev.length : Nat) a q c e f)); rw [DS.len_step]
      · rw [upd_ne ndx]; exact g2 _ _ D.own
      · show Paired _ cv (s.step p).came; rw [e2]; exact pr_imp (fun _ _ => One.mono tk) D.cameP
      · show TF _ q ((s.step p).lev.map lvV); rw [e1, List.map_set]; exact h2'
      · show Paired _ hv (s.step p).heard; rw [e3]; exact pr_imp (fun _ _ => One.mono tk) D.heardP
      · show Paired _ sv (s.step p).seen; rw [e4]; exact pr_imp (fun _ _ => SeenAt.mono tk) D.seenP
    exact DoorAt.same ⟨_, _, _, _, _, _, _, _, _, _, D2⟩ (same_new nt _)
abbrev s_Door_asks : Stmt := inClass (top 21) 9
theorem sc_Door_asks : FnScope ["self", "player", "word"] ["self", "player"] (defScope s_Door_asks) := ⟨rfl, rfl, rfl, by decide +kernel, rfl, by decide +kernel, by decide +kernel⟩
theorem ok_Door_asks (F : Fun K "asks" "Door.asks" s_Door_asks f fd) (hC : DC K C) (G_exchanged : Fd P w K mg base CX0 "exchanged" 1 ["row", "at", "thing"] (spExch K)) : FnOk P w K mg base CX0 2 f fd ["self", "player"] (spAsks C) := by
  refine F.ok sc_Door_asks (fun vs H Q E h => ?_) (fun cdv A outer s H vs Q E hr h => ?_)
  · obtain ⟨d, p, s, rfl, _⟩ := h
    rfl
  obtain ⟨d, p, s, rfl, hD, hp, hs, hc, k⟩ := h
  refine ⟨_, (pss_cons (ps_if (pt_cmpR op_in_seq pe_int (pe_fld (pv 0) rfl) rfl) (pss_one (ps_ret (pe_tup (pa_cons pe_str pa_nil)))) pss_nil)
  (pss_cons (ps_set (i := 2) sc_Door_asks.nd rfl (Or.inl rfl) (pe_ix ix_tup (pe_fld (pv 0) rfl) (pe_tindex (pe_fld (pv 0) rfl) pe_int) (fun _ _ => rfl)))
  (pss_cons (ps_fld (pv 0) (pe_fd G_exchanged (hr.mono (by first | decide | omega)) rfl (pa_cons (pe_fld (pv 0) rfl) (pa_cons (pv 1) (pa_cons (pv 2) pa_nil)))) rfl)
  (pss_one (ps_ret (pe_tup (pa_cons pe_str (pa_cons (pe_ix ix_tup (pv 2) pe_int (fun _ _ => rfl)) pa_nil)))))))), ?_⟩
  obtain ⟨dx, a, b, c, e, f, cv, hv, sv, dv, D⟩ := hD
  have W := D.wf
  refine ⟨_, rfl, d, C, dx, _, _, rfl, D.obj, hC.cl, hC.nL, d_lev, b, _, rfl, .inr D.lev.sq, rfl, lv_flat s.lev, _, rfl, ?_⟩
  rw [show (if false = true then !inV (.int 1) (s.lev.map lvV) else inV (.int 1) (s.lev.map lvV)) = decide (some 1 ∈ s.lev) by rw [inV_lv]; rfl]
  have et := DS.told3 hs
  have es := DS.step3 hs
  refine ite2 (fun z => ?_) (fun z => ?_)
  · have z := of_decide_eq_true z
    rw [if_pos z] at et es
    refine ⟨szl (by decide), fun t nt => ?_⟩
    refine k t _ (.of (same_new nt _)) (by rw [et]; exact upd_same) ?_
    rw [es]
    exact DoorAt.same ⟨_, _, _, _, _, _, _, _, _, _, D⟩ (same_new nt _)
  · have z : ¬ some 1 ∈ s.lev := of_decide_eq_false (by simpa using z)
    rw [if_neg z] at et es
    have h2 := DS.ask_two W hs
    obtain ⟨l1, l2, l3⟩ := DS.two_lev h2
    obtain ⟨v, hv2⟩ := DS.two_came W h2
    obtain ⟨xc, hxc, oc⟩ := pr_at D.cameP (W.acm l1)
    rw [hv2] at oc
    obtain ⟨q, rfl, hq⟩ := oc
    refine ⟨_, rfl, d, C, dx, _, _, rfl, D.obj, hC.cl, hC.nC, d_came, ?_⟩
    refine ⟨_, rfl, d, C, dx, _, _, rfl, D.obj, hC.cl, hC.nL, d_lev, ⟨b, _, rfl, D.lev⟩, b, _, s.two, lvV (s.lv s.two), rfl, D.lev.sq, rfl, lv_flat s.lev, alvV l1, by rw [eqV_lv, l2]; decide, fun m z' hm hz' => ?_, ?_⟩
    · rw [alvV (by omega)] at hz'
      cases hz'
      rw [eqV_lv]
      exact decide_eq_false (l3 m hm)
    refine ⟨a, cv, _, _, rfl, rfl, D.came.sq, atI_nat hxc, ?_⟩
    refine ⟨_, rfl, d, C, dx, _, _, rfl, D.obj, hC.cl, hC.nH, d_heard, _, rfl, _, rfl, c, hv, p, _, rfl, D.heard.sq, ?_, ?_, fun r H2 g2 h2r => ?_⟩
    · rw [pr_len D.heardP, W.lh]; exact hp
    · rw [pr_len D.heardP, W.lh]; have := W.n5; omega
    refine ⟨_, rfl, d, C, dx, _, rfl, g2 _ _ D.obj, hC.cl, hC.nH, by show 6 < 1000; decide, ?_⟩
    rw [dp_heard]
    have b3 := (But.of (S := [d]) g2).put (o := .ins C dx (dfl (s.lev.length : Nat) a b r e f)) (p := d) (by simp)
    have tk : TK H (upd H2 d (.ins C dx (dfl (s.lev.length : Nat) a b r e f))) := (TK.of g2).trans (.put (g2 _ _ D.obj) fun z => z)
    have ndr : r ≠ d := fun z => by obtain ⟨o, z2, _⟩ := h2r; have := g2 _ _ D.obj; rw [← z, z2] at this; cases this
    have ndx : dx ≠ d := fun z => by have := D.obj; rw [← z, D.own] at this; cases this
    have h2' : TF (upd H2 d (.ins C dx (dfl (s.lev.length : Nat) a b r e f))) r (hv.set p (.ref q)) := by obtain ⟨o, z2, z3⟩ := h2r; exact ⟨o, by rw [upd_ne ndr]; exact z2, z3⟩
    refine ⟨_, rfl, q, [v], _, _, rfl, rfl, .of (tk.t hq), atI_nat (j := 0) rfl, szl (by show 2 ≤ _; decide), fun t nt => ?_⟩
    refine k t _ (b3.new nt) (by rw [et, hv2]; exact upd_same) ?_
    have D2 : DoorIn C (upd H2 d (.ins C dx (dfl (s.lev.length : Nat) a b r e f))) d { s.step p with deeds := s.deeds } dx a b r e f cv (hv.set p (.ref q)) sv dv := by
      have wf2 := W.step hc
      have e1 : (s.step p).lev = s.lev := by rw [es]
      have e2 : (s.step p).came = s.came := by rw [es]
      have e3 : (s.step p).heard = s.heard.set p (some v) := by rw [es]; show s.heard.set p (s.cm s.two) = _; rw [hv2]
      have e4 : (s.step p).seen = s.seen := by rw [es]
      refine ⟨?_, ?_, tk.f D.came, ?_, ?_, h2', ?_, tk.f D.seen, ?_, tk.t D.deeds, pr_imp (fun _ _ => DeedAt.mono tk) D.deedsP, fun r v hv => (D.good r v (by rw [← DS.cm_step (p := p)]; exact hv)).mono tk, ⟨wf2.n1, wf2.n5, wf2.lc, wf2.lh, wf2.ls, wf2.vals, wf2.cmv, wf2.snv, wf2.lok, wf2.z2, wf2.s2⟩⟩
      · rw [upd_same]; show _ = some (HO.ins C dx (dfl ((s.step p).lev.length : Nat) a b r e f)); rw [DS.len_step]
      · rw [upd_ne ndx]; exact g2 _ _ D.own
      · show Paired _ cv (s.step p).came; rw [e2]; exact pr_imp (fun _ _ => One.mono tk) D.cameP
      · show TF _ b ((s.step p).lev.map lvV); rw [e1]; exact tk.f D.lev
      · show Paired _ (hv.set p (.ref q)) (s.step p).heard; rw [e3]; exact pr_set (show One _ (.ref q) (some v) from ⟨q, rfl, tk.t hq⟩) p (pr_imp (fun _ _ => One.mono tk) D.heardP)
      · show Paired _ sv (s.step p).seen; rw [e4]; exact pr_imp (fun _ _ => SeenAt.mono tk) D.seenP
    exact DoorAt.same ⟨_, _, _, _, _, _, _, _, _, _, D2⟩ (same_new nt _)
abbrev s_Door_step : Stmt := inClass (top 21) 5
theorem sc_Door_step : FnScope ["self", "player", "kind"] ["self", "player"] (defScope s_Door_step) := ⟨rfl, rfl, rfl, by decide +kernel, rfl, by decide +kernel, by decide +kernel⟩
theorem ok_Door_step (F : Fun K "step" "Door.step" s_Door_step f fd) (hC : DC K C) (G_exchanged : Fd P w K mg base CX0 "exchanged" 1 ["row", "at", "thing"] (spExch K)) (M_next : Md P w K mg base CX0 C "next" 4 ["self", "player"] (spNext C)) (M_shows_level : Md P w K mg base CX0 C "shows_level" 2 ["self", "player"] (spShows C)) (M_asks : Md P w K mg base CX0 C "asks" 2 ["self", "player"] (spAsks C)) : FnOk P w K mg base CX0 5 f fd ["self", "player"] (spStep C) := by
  refine F.ok sc_Door_step (fun vs H Q E h => ?_) (fun cdv A outer s H vs Q E hr h => ?_)
  · obtain ⟨d, p, s, rfl, _⟩ := h
    rfl
  obtain ⟨d, p, s, rfl, hD, hc, hdl, k⟩ := h
  refine ⟨_, (pss_cons (ps_set (i := 2) sc_Door_step.nd rfl (Or.inl rfl) (pe_md (pv 0) hC.cl M_next (hr.mono (by first | decide | omega)) (pa_cons (pv 1) pa_nil)))
  (pss_cons (ps_if (pt_cmpR op_isN (pv 2) pe_non (nomark _)) (pss_one (ps_no)) pss_nil)
  (pss_cons (ps_fld (pv 0) (pe_mid (pe_op op_catA (pe_fld (pv 0) rfl) (pe_tup (pa_cons (pe_tup (pa_cons pe_str (pa_cons (pv 1) (pa_cons (pv 2) pa_nil)))) pa_nil)))) rfl)
  (pss_cons (ps_if (pt_cmpR op_eq (pv 2) pe_str (nomark _)) (pss_one (ps_ret (pe_md (pv 0) hC.cl M_shows_level (hr.mono (by first | decide | omega)) (pa_cons (pv 1) pa_nil)))) pss_nil)
  (pss_cons (ps_if (pt_cmpR op_eq (pv 2) pe_str (nomark _)) (pss_cons (ps_fld (pv 0) (pe_fd G_exchanged (hr.mono (by first | decide | omega)) rfl (pa_cons (pe_fld (pv 0) rfl) (pa_cons (pv 1) (pa_cons (pe_fld (pv 0) rfl) pa_nil)))) rfl)
  (pss_one (ps_ret (pe_tup (pa_cons pe_str (pa_cons (pe_fld (pv 0) rfl) pa_nil)))))) pss_nil)
  (pss_one (ps_ret (pe_md (pv 0) hC.cl M_asks (hr.mono (by first | decide | omega)) (pa_cons (pv 1) pa_nil))))))))), ?_⟩
  have hD0 := hD
  obtain ⟨dx, a, b, c, e, f, cv, hv, sv, dv, D⟩ := hD0
  have W := D.wf
  have hp := DS.lt_of_cm W hc
  have en : s.next p = some (DS.kindOf (s.stg p)) := by unfold DS.next; rw [if_pos (by cases z : s.cm p with | none => exact absurd z hc | some v => rfl)]
  refine ⟨_, rfl, d, dx, _, rfl, D.obj, no_next, _, rfl, d, p, s, rfl, hD, hp, fun H1 g1 => ?_⟩
  rw [en]
  refine ⟨_, rfl, rfl, _, rfl, iteF ?_⟩
  have D1 := D.mono (.of g1) (fun o q => g1 _ _ q) (by rw [g1 _ _ D.own]; exact D.own.symm)
  refine ⟨fun y H' => ∃ q t1, y = .ref q ∧ Same H1 H' ∧ H' q = some (.tup (dv ++ [.ref t1])) ∧ H' t1 = some (.tup [.str "step", .int p, .str (DS.kindOf (s.stg p))]), ?_, ?_⟩
  · refine ⟨_, rfl, d, C, dx, _, _, rfl, D1.obj, hC.cl, hC.nD, d_deeds, _, rfl, _, rfl, szl (by show 3 ≤ _; decide), fun t1 n1 => ?_⟩
    refine ⟨szl (by show 1 ≤ _; decide), fun t2 n2 => ?_⟩
    have ga := same_new n1 (.tup [.str "step", .int p, .str (DS.kindOf (s.stg p))])
    have gb := same_new n2 (.tup [.ref t1])
    have h1 := gb _ _ (show upd H1 t1 (.tup [.str "step", .int p, .str (DS.kindOf (s.stg p))]) t1 = _ from upd_same)
    refine ⟨f, t2, dv, _, rfl, rfl, .of (gb _ _ (ga _ _ D1.deeds)), .of upd_same, ?_, fun z => ?_, fun _ z => ?_, fun _ _ q nq => ?_⟩
    · rw [pr_len D1.deedsP]; exact szl (by show s.deeds.length + 1 ≤ _; omega)
    · exact ⟨t2, t1, rfl, ga.trans gb, by rw [z]; exact upd_same, h1⟩
    · cases z
    · exact ⟨q, t1, rfl, (ga.trans gb).trans (same_new nq _), upd_same, same_new nq _ _ _ h1⟩
  rintro y H2 ⟨f2, t1, rfl, g2, hf2, ht1⟩
  refine ⟨_, rfl, d, C, dx, _, rfl, g2 _ _ D1.obj, hC.cl, hC.nD, by show 6 < 1000; decide, ?_⟩
  rw [dp_deeds]
  have b3 := (But.of (S := [d]) (g1.trans g2)).put (o := .ins C dx (dfl (s.lev.length : Nat) a b c e f2)) (p := d) (by simp)
  have ndx : dx ≠ d := fun z => by have := D.obj; rw [← z, D.own] at this; cases this
  have tk : TK H1 (upd H2 d (.ins C dx (dfl (s.lev.length : Nat) a b c e f2))) := (TK.of g2).trans (.put (g2 _ _ D1.obj) fun z => z)
  have ne : ∀ {q : Addr} {xs : List V}, H2 q = some (.tup xs) → q ≠ d := fun h z => by have := g2 _ _ D1.obj; rw [← z, h] at this; cases this
  have D3 : DoorIn C (upd H2 d (.ins C dx (dfl (s.lev.length : Nat) a b c e f2))) d (s.log p) dx a b c e f2 cv hv sv (dv ++ [.ref t1]) := by
    refine ⟨upd_same, by rw [upd_ne ndx]; exact g2 _ _ D1.own, tk.f D1.came, pr_imp (fun _ _ => One.mono tk) D1.cameP, tk.f D1.lev, tk.f D1.heard, pr_imp (fun _ _ => One.mono tk) D1.heardP, tk.f D1.seen, pr_imp (fun _ _ => SeenAt.mono tk) D1.seenP, by rw [upd_ne (ne hf2)]; exact hf2, ?_, fun r v hv => (D1.good r v hv).mono tk, W.log⟩
    exact pr_snoc ⟨t1, rfl, by rw [upd_ne (ne ht1)]; exact ht1⟩ (pr_imp (fun _ _ => DeedAt.mono tk) D1.deedsP)
  have els := DS.log_step s p
  have e0 : (s.log p).stg p = s.stg p := rfl
  have hk4 := DS.stg_lt s p
  have done : ∀ t H', But [d] (upd H2 d (.ins C dx (dfl (s.lev.length : Nat) a b c e f2))) H' → ToldAt H' t ((s.log p).told p) → DoorAt C H' d { (s.log p).step p with deeds := (s.log p).deeds } → Q (.ref t) H' := fun t H' gg ht hD => by
    rw [els] at hD
    exact k t H' (b3.trans gg) ht hD
  refine ⟨_, rfl, rfl, _, rfl, ?_⟩
  rcases (show s.stg p = 0 ∨ s.stg p = 1 ∨ s.stg p = 2 ∨ s.stg p = 3 by omega) with z | z | z | z
  · refine ite_yes (by rw [z]; decide +kernel) ⟨_, rfl, d, dx, _, rfl, D3.obj, no_shows, _, rfl, d, p, _, rfl, ⟨_, _, _, _, _, _, _, _, _, _, D3⟩, hp, .inl z, hc, done⟩
  · refine ite_no (by rw [z]; decide +kernel) ⟨_, rfl, rfl, _, rfl, ite_yes (by rw [z]; decide +kernel) ?_⟩
    have hlen : sv.length = s.lev.length := by rw [pr_len D3.seenP]; exact W.ls
    refine ⟨_, rfl, d, C, dx, _, _, rfl, D3.obj, hC.cl, hC.nS, d_seen, _, rfl, _, rfl, d, C, dx, _, _, rfl, D3.obj, hC.cl, hC.nL, d_lev, e, sv, p, _, rfl, D3.seen.sq, by rw [hlen]; exact hp, by rw [hlen]; have := W.n5; omega, fun r H4 g4 h4 => ?_⟩
    refine ⟨_, rfl, d, C, dx, _, rfl, g4 _ _ D3.obj, hC.cl, hC.nS, by show 6 < 1000; decide, ?_⟩
    rw [dp_seen]
    have tk4 : TK _ (upd H4 d (.ins C dx (dfl (s.lev.length : Nat) a b c r f2))) := (TK.of g4).trans (.put (g4 _ _ D3.obj) fun z => z)
    have ndr : r ≠ d := fun z => by obtain ⟨o, z2, _⟩ := h4; have := g4 _ _ D3.obj; rw [← z, z2] at this; cases this
    have h4' : TF (upd H4 d (.ins C dx (dfl (s.lev.length : Nat) a b c r f2))) r (sv.set p (.ref b)) := by obtain ⟨o, z2, z3⟩ := h4; exact ⟨o, by rw [upd_ne ndr]; exact z2, z3⟩
    have b5 := (But.of (S := [d]) g4).put (o := .ins C dx (dfl (s.lev.length : Nat) a b c r f2)) (p := d) (by simp)
    refine ⟨_, rfl, d, C, dx, _, _, rfl, upd_same, hC.cl, hC.nL, d_lev, szl (by show 2 ≤ _; decide), fun t nt => ?_⟩
    have hlb : TF (upd H4 d (.ins C dx (dfl (s.lev.length : Nat) a b c r f2))) b (s.lev.map lvV) := tk4.f D3.lev
    refine done t _ (b5.new nt) (by rw [DS.told1 (s := s.log p) z]; exact ⟨b, upd_same, .inr ((TK.of (same_new nt _)).f hlb)⟩) (DoorAt.same ⟨dx, a, b, c, r, f2, cv, hv, sv.set p (.ref b), dv ++ [.ref t1], ?_⟩ (same_new nt _))
    have wf2 := (W.log (p := p)).step (p := p) hc
    have es := DS.step1 (s := s.log p) z
    have e4 : ((s.log p).step p).seen = s.seen.set p (some s.lev) := by rw [es]; rfl
    have e1 : ((s.log p).step p).lev = s.lev := by rw [es]; rfl
    have e2 : ((s.log p).step p).came = s.came := by rw [es]; rfl
    have e3 : ((s.log p).step p).heard = s.heard := by rw [es]; rfl
    refine ⟨?_, by rw [upd_ne ndx]; exact g4 _ _ D3.own, tk4.f D3.came, ?_, ?_, tk4.f D3.heard, ?_, h4', ?_, tk4.t D3.deeds, pr_imp (fun _ _ => DeedAt.mono tk4) D3.deedsP, fun r v hv => (D3.good r v (by rw [← DS.cm_step (p := p)]; exact hv)).mono tk4, ⟨wf2.n1, wf2.n5, wf2.lc, wf2.lh, wf2.ls, wf2.vals, wf2.cmv, wf2.snv, wf2.lok, wf2.z2, wf2.s2⟩⟩
    · rw [upd_same]; show _ = some (HO.ins C dx (dfl (((s.log p).step p).lev.length : Nat) a b c r f2)); rw [e1]; rfl
    · show Paired _ cv ((s.log p).step p).came; rw [e2]; exact pr_imp (fun _ _ => One.mono tk4) D3.cameP
    · show TF _ b (((s.log p).step p).lev.map lvV); rw [e1]; exact hlb
    · show Paired _ hv ((s.log p).step p).heard; rw [e3]; exact pr_imp (fun _ _ => One.mono tk4) D3.heardP
    · show Paired _ (sv.set p (.ref b)) ((s.log p).step p).seen; rw [e4]; exact pr_set (show SeenAt _ (.ref b) (some s.lev) from ⟨b, rfl, hlb⟩) p (pr_imp (fun _ _ => SeenAt.mono tk4) D3.seenP)
  · refine ite_yes (by rw [z]; decide +kernel) ⟨_, rfl, d, dx, _, rfl, D3.obj, no_shows, _, rfl, d, p, _, rfl, ⟨_, _, _, _, _, _, _, _, _, _, D3⟩, hp, .inr z, hc, done⟩
  · refine ite_no (by rw [z]; decide +kernel) ⟨_, rfl, rfl, _, rfl, ite_no (by rw [z]; decide +kernel) ?_⟩
    exact ⟨_, rfl, d, dx, _, rfl, D3.obj, no_asks, _, rfl, d, p, _, rfl, ⟨_, _, _, _, _, _, _, _, _, _, D3⟩, hp, z, hc, done⟩
abbrev s_Door_come : Stmt := inClass (top 21) 4
theorem sc_Door_come : FnScope ["self", "player", "value"] ["self", "player", "value"] (defScope s_Door_come) := ⟨rfl, rfl, rfl, by decide +kernel, rfl, by decide +kernel, by decide +kernel⟩
theorem ok_Door_come (F : Fun K "come" "Door.come" s_Door_come f fd) (hC : DC K C) (G_exchanged : Fd P w K mg base CX0 "exchanged" 1 ["row", "at", "thing"] (spExch K)) (G_is_small_value : Fd P w K mg base CX0 "is_small_value" 7 ["value"] spSmall) (M_check_player : Md P w K mg base CX0 C "check_player" 3 ["self", "player"] (spCheck C)) : FnOk P w K mg base CX0 8 f fd ["self", "player", "value"] (spCome C) := by
  refine F.ok sc_Door_come (fun vs H Q E h => ?_) (fun cdv A outer s H vs Q E hr h => ?_)
  · obtain ⟨d, p, v, s, rfl, _⟩ := h
    rfl
  obtain ⟨d, p, v, s, rfl, hD, hp, hc, hg, hdl, k⟩ := h
  refine ⟨_, (pss_cons (ps_expr (pe_md (pv 0) hC.cl M_check_player (hr.mono (by first | decide | omega)) (pa_cons (pv 1) pa_nil)))
  (pss_cons (ps_if (pt_not (pt_val (pe_fd G_is_small_value (hr.mono (by first | decide | omega)) rfl (pa_cons (pv 2) pa_nil)))) (pss_one (ps_no)) pss_nil)
  (pss_cons (ps_if (pt_cmpR op_notN (pe_ix ix_tup (pe_fld (pv 0) rfl) (pv 1) (fun _ _ => rfl)) pe_non (nomark _)) (pss_one (ps_no)) pss_nil)
  (pss_cons (ps_fld (pv 0) (pe_fd G_exchanged (hr.mono (by first | decide | omega)) rfl (pa_cons (pe_fld (pv 0) rfl) (pa_cons (pv 1) (pa_cons (pe_tup (pa_cons (pv 2) pa_nil)) pa_nil)))) rfl)
  (pss_one (ps_fld (pv 0) (pe_mid (pe_op op_catA (pe_fld (pv 0) rfl) (pe_tup (pa_cons (pe_tup (pa_cons pe_str (pa_cons (pv 1) (pa_cons (pv 2) pa_nil)))) pa_nil)))) rfl)))))), ?_⟩
  have hD0 := hD
  obtain ⟨dx, a, b, c, e, f, cv, hv, sv, dv, D⟩ := hD0
  have W := D.wf
  refine ⟨_, rfl, d, dx, _, rfl, D.obj, no_check, _, rfl, d, p, s, rfl, hD, hp, ?_⟩
  refine ⟨_, rfl, v, rfl, hg, fun H1 g1 => ⟨_, rfl, iteF ?_⟩⟩
  have D1 := D.mono (.of g1) (fun o q => g1 _ _ q) (by rw [g1 _ _ D.own]; exact D.own.symm)
  obtain ⟨xc, hxc, oc⟩ := pr_at D1.cameP (W.acm hp)
  refine ⟨_, rfl, d, C, dx, _, _, rfl, D1.obj, hC.cl, hC.nC, d_came, _, rfl, a, cv, _, _, rfl, rfl, D1.came.sq, atI_nat hxc, rfl, _, rfl, ?_⟩
  rw [oc.is, hc]
  refine iteF ?_
  have hlen : cv.length = s.lev.length := by rw [pr_len D1.cameP, W.lc]
  refine ⟨_, rfl, d, C, dx, _, _, rfl, D1.obj, hC.cl, hC.nC, d_came, _, rfl, _, rfl, szl (by show 1 ≤ _; decide), fun t0 n0 => ?_⟩
  have g0 := same_new n0 (.tup [v])
  refine ⟨a, cv, p, _, rfl, D1.came.sq.ext g0, by rw [hlen]; exact hp, by rw [hlen]; have := W.n5; omega, fun r H2 g2 h2 => ?_⟩
  refine ⟨_, rfl, d, C, dx, _, rfl, g2 _ _ (g0 _ _ D1.obj), hC.cl, hC.nC, by show 6 < 1000; decide, ?_⟩
  rw [dp_came]
  have hobj2 := g2 _ _ (g0 _ _ D1.obj)
  have ndx : dx ≠ d := fun z => by have := D.obj; rw [← z, D.own] at this; cases this
  have ndr : r ≠ d := fun z => by obtain ⟨o, z2, _⟩ := h2; rw [← z, z2] at hobj2; cases hobj2
  have tk : TK H1 (upd H2 d (.ins C dx (dfl (s.lev.length : Nat) r b c e f))) := ((TK.of g0).trans (TK.of g2)).trans (.put hobj2 fun z => z)
  have b3 := (But.of (S := [d]) ((g1.trans g0).trans g2)).put (o := .ins C dx (dfl (s.lev.length : Nat) r b c e f)) (p := d) (by simp)
  have h2' : TF (upd H2 d (.ins C dx (dfl (s.lev.length : Nat) r b c e f))) r (cv.set p (.ref t0)) := by obtain ⟨o, z2, z3⟩ := h2; exact ⟨o, by rw [upd_ne ndr]; exact z2, z3⟩
  have ht0 : H2 t0 = some (.tup [v]) := g2 _ _ upd_same
  have ht0' : upd H2 d (.ins C dx (dfl (s.lev.length : Nat) r b c e f)) t0 = some (.tup [v]) := by rw [upd_ne (fun z => by rw [z, hobj2] at ht0; cases ht0)]; exact ht0
  refine ⟨fun y H' => ∃ q t1, y = .ref q ∧ Same (upd H2 d (.ins C dx (dfl (s.lev.length : Nat) r b c e f))) H' ∧ H' q = some (.tup (dv ++ [.ref t1])) ∧ H' t1 = some (.tup [.str "come", .int p, v]), ?_, ?_⟩
  · refine ⟨_, rfl, d, C, dx, _, _, rfl, upd_same, hC.cl, hC.nD, d_deeds, _, rfl, _, rfl, szl (by show 3 ≤ _; decide), fun t1 n1 => ?_⟩
    refine ⟨szl (by show 1 ≤ _; decide), fun t2 n2 => ?_⟩
    have ga := same_new n1 (.tup [.str "come", .int p, v])
    have gb := same_new n2 (.tup [.ref t1])
    have h1 := gb _ _ (show upd (upd H2 d (.ins C dx (dfl (s.lev.length : Nat) r b c e f))) t1 (.tup [.str "come", .int p, v]) t1 = _ from upd_same)
    refine ⟨f, t2, dv, _, rfl, rfl, .of (gb _ _ (ga _ _ (tk.t D1.deeds))), .of upd_same, ?_, fun z => ?_, fun _ z => ?_, fun _ _ q nq => ?_⟩
    · rw [pr_len D1.deedsP]; exact szl (by show s.deeds.length + 1 ≤ _; omega)
    · exact ⟨t2, t1, rfl, ga.trans gb, by rw [z]; exact upd_same, h1⟩
    · cases z
    · exact ⟨q, t1, rfl, (ga.trans gb).trans (same_new nq _), upd_same, same_new nq _ _ _ h1⟩
  rintro y H3 ⟨f2, t1, rfl, g3, hf2, ht1⟩
  refine ⟨_, rfl, d, C, dx, _, rfl, g3 _ _ upd_same, hC.cl, hC.nD, by show 6 < 1000; decide, ?_⟩
  rw [dp_deeds]
  have hobj3 := g3 _ _ (show upd H2 d (.ins C dx (dfl (s.lev.length : Nat) r b c e f)) d = _ from upd_same)
  have b4 := (b3.trans (.of g3)).put (o := .ins C dx (dfl (s.lev.length : Nat) r b c e f2)) (p := d) (by simp)
  have tk2 : TK (upd H2 d (.ins C dx (dfl (s.lev.length : Nat) r b c e f))) (upd H3 d (.ins C dx (dfl (s.lev.length : Nat) r b c e f2))) := (TK.of g3).trans (.put hobj3 fun z => z)
  have tk3 := tk.trans tk2
  have ne : ∀ {q : Addr} {xs : List V}, H3 q = some (.tup xs) → q ≠ d := fun h z => by rw [← z, h] at hobj3; cases hobj3
  refine k _ b4 ⟨dx, r, b, c, e, f2, cv.set p (.ref t0), hv, sv, dv ++ [.ref t1], ?_⟩
  refine ⟨upd_same, by rw [upd_ne ndx]; exact g3 _ _ (by rw [upd_ne ndx]; exact g2 _ _ (g0 _ _ D1.own)), tk2.f h2', ?_, tk3.f D1.lev, tk3.f D1.heard, pr_imp (fun _ _ => One.mono tk3) D1.heardP, tk3.f D1.seen, pr_imp (fun _ _ => SeenAt.mono tk3) D1.seenP, by rw [upd_ne (ne hf2)]; exact hf2, ?_, fun r v' hv => ?_, W.come⟩
  · exact pr_set (show One _ (.ref t0) (some v) from ⟨t0, rfl, tk2.t ht0'⟩) p (pr_imp (fun _ _ => One.mono tk3) D1.cameP)
  · exact pr_snoc ⟨t1, rfl, by rw [upd_ne (ne ht1)]; exact ht1⟩ (pr_imp (fun _ _ => DeedAt.mono tk3) D1.deedsP)
  · rw [DS.cm_come] at hv
    split at hv
    · cases hv; exact (hg.mono (.of g1)).mono tk3
    · exact (D1.good r v' hv).mono tk3
abbrev s_held_by : Stmt := top 22
theorem sc_held_by : FnScope ["door", "player", "level"] ["door"] (defScope s_held_by) := ⟨rfl, rfl, rfl, by decide +kernel, rfl, by decide +kernel, by decide +kernel⟩
theorem ok_held_by (F : Fun K "held_by" "held_by" s_held_by f fd) (T : PTx mg) (hC : DC K C) : FnOk P w K mg base CX0 1 f fd ["door"] (spHeld C) := by
  refine F.ok sc_held_by (fun vs H Q E h => ?_) (fun cdv A outer s H vs Q E hr h => ?_)
  · obtain ⟨d, s, rfl, _⟩ := h
    rfl
  obtain ⟨d, s, rfl, hD, k⟩ := h
  refine ⟨_, (pss_one (ps_ret (pe_callTy call_tuple_of rfl T.tuple (by decide +kernel) (pa_cons (pe_lc (own := [("player", 1), ("level", 2)]) (g := (gTup K 2 (gCons (gName 1) (gCons (gName 2) gNil))))  rfl sc_held_by.nd (pi_enumT rfl T.enumerate (pa_cons (pe_fld (pv 0) rfl) pa_nil)) (blkOk_by (own := [("player", 1), ("level", 2)]) (N := ["door", "player", "level"]) (sc := defScope s_held_by) (by decide +kernel)) (fun _ _ _ _ _ => (pg_tup rfl (pgs_cons (pg_name (i := 1) sc_held_by.nd rfl (Or.inl rfl)) (pgs_cons (pg_name (i := 2) sc_held_by.nd rfl (Or.inl rfl)) pgs_nil)))) (fun _ _ _ _ _ => (pts_one (pt_cmpR op_eq (pv 2) pe_int (nomark _)))) (fun _ _ _ _ _ => (pv 1))) pa_nil)))), ?_⟩
  obtain ⟨dx, a, b, c, e, f, cv, hv, sv, dv, D⟩ := hD
  have W := D.wf
  refine ⟨_, rfl, d, C, dx, _, _, rfl, D.obj, hC.cl, hC.nL, d_lev, b, _, rfl, D.lev.sq, fun D0 hD0 => ?_⟩
  refine lc_it (walk_enumT (xs := s.lev.map lvV)) (fun i H' => Same H H' ∧ H' D0 = some (.lst (((List.range i).filter fun p => decide (s.lv p = some 1)).map fun (p : Nat) => V.int (p : Int)))) ⟨same_new hD0 _, upd_same⟩ (fun i H' _ z => D.lev.sq.ext z.1) ?_ ?_
  · rintro i x H1 H2 hi ⟨g1, h1⟩ ⟨T', y, rfl, hT, rfl, hy⟩
    have hi' : i < s.lev.length := by rw [List.length_map] at hi; exact hi
    rw [alvV hi'] at hy
    cases hy
    have g2 := same_new hT (.tup [.int (0 + (i : Nat)), lvV (s.lv i)])
    have es : scal (lvV (s.lv i)) (.int 1) = true := by cases s.lv i <;> rfl
    have ed : decide (lvV (s.lv i) = .int 1) = decide (s.lv i = some 1) := by
      cases s.lv i with
      | none => rfl
      | some x => rw [Bool.eq_iff_iff, decide_eq_true_iff, decide_eq_true_iff]; constructor <;> (intro z; injection z with z; rw [z] <;> rfl)
    refine ⟨T', _, rfl, .of upd_same, rfl, _, _, rfl, _, _, rfl, rfl, rfl, ?_⟩
    refine ⟨_, rfl, es, _, rfl, ?_⟩
    rw [ed]
    have hr : List.range (i + 1) = List.range i ++ [i] := List.range_succ
    refine ite2 (fun z => ?_) (fun z => ?_)
    · refine ⟨_, rfl, _, g2 _ _ h1, szt ?_, fun o q hq => ?_, ?_⟩
      · rw [List.length_map]
        have := List.length_filter_le (fun p => decide (s.lv p = some 1)) (List.range i)
        rw [List.length_range] at this
        have := W.n5
        omega
      · rw [upd_ne (ne_of_none hq hD0)]; exact g2 _ _ (g1 _ _ hq)
      · rw [upd_same, hr, List.filter_append, List.map_append]
        simp [of_decide_eq_true z]
    · have z : ¬ s.lv i = some 1 := of_decide_eq_false (by simpa using z)
      refine ⟨g1.trans g2, ?_⟩
      rw [g2 _ _ h1, hr, List.filter_append]
      simp [z]
  · rintro H1 ⟨g1, h1⟩
    refine ⟨D0, _, rfl, .inl ⟨.of h1, fun l nl => ?_⟩⟩
    refine k l _ (g1.trans (same_new nl _)) ?_
    rw [upd_same, List.length_map]
    rfl
end
end Fp
namespace Fp
open PySem PySem.Spec PyProof.Rows L2
structure LTx (mg : Str → Option Value) : Prop where
  len : mg "len" = none
  int : mg "int" = none
  sum : mg "sum" = none
  abs : mg "abs" = none
  list : mg "list" = none
  tuple : mg "tuple" = none
  range : mg "range" = none
  max : mg "max" = none
  min : mg "min" = none
  repr : mg "repr" = none
  all : mg "all" = none
  enumerate : mg "enumerate" = none
theorem modNat'' : True := trivial
theorem atI0 {α : Type} {l : List α} {v : α} (h : l[0]? = some v) : atI l 0 = some v := atI_nat (j := 0) h
section
variable {P : Program} {w : World} {K : PySem.W.Frag} {mg : Str → Option Value} {base : Heap} {f : Addr} {fd : FuncData} {C : Addr}
abbrev s_law_take : Stmt := top 28
theorem sc_law_take : FnScope ["pot", "upto", "digit", "prime", "blend"] ["pot", "upto"] (defScope s_law_take) := ⟨rfl, rfl, rfl, by decide +kernel, rfl, by decide +kernel, by decide +kernel⟩
theorem ok_law_take (F : Fun K "_law_take" "_law_take" s_law_take f fd) (T : LTx mg) : FnOk P w K mg base CX0 1 f fd ["pot", "upto"] spTake := by
  refine F.ok sc_law_take (fun vs H Q E h => ?_) (fun cdv A outer s H vs Q E hr h => ?_)
  · obtain ⟨p, u, n, rfl, _⟩ := h
    rfl
  obtain ⟨p, u, n, rfl, h0, h1, hn, hP, q⟩ := h
  obtain ⟨a, b, c, hp, hb0, hb1, hc0, hc1⟩ := hP
  refine ⟨_, (pss_cons (ps_if (pt_cmpR op_gt (pe_ix ix_list (pv 0) pe_int (fun _ _ => rfl)) pe_int (nomark _)) (pss_cons (ps_set (i := 2) sc_law_take.nd rfl (Or.inl rfl) (pe_op op_mod (pe_callTy call_int1 rfl T.int (by decide +kernel) (pa_cons (pe_ix ix_list (pv 0) pe_int (fun _ _ => rfl)) pa_nil)) (pv 1)))
  (pss_cons (ps_asg (pe_op op_fdiv (pe_ix ix_list (pv 0) pe_int (fun _ _ => rfl)) (pv 1)) (pg_sub (pv 0) pe_int set_list))
  (pss_one (ps_ret (pv 2))))) pss_nil)
  (pss_cons (ps_asg (pe_op op_add (pe_ix ix_list (pv 0) pe_int (fun _ _ => rfl)) pe_int) (pg_sub (pv 0) pe_int set_list))
  (pss_cons (ps_set (i := 3) sc_law_take.nd rfl (Or.inl rfl) (pe_ix ix_list (pe_lst (pa_cons pe_int (pa_cons pe_int (pa_cons pe_int (pa_cons pe_int (pa_cons pe_int pa_nil)))))) (pe_op op_mod (pe_callTy call_int1 rfl T.int (by decide +kernel) (pa_cons (pe_ix ix_list (pv 0) pe_int (fun _ _ => rfl)) pa_nil)) pe_int) (fun _ _ => rfl)))
  (pss_cons (ps_set (i := 4) sc_law_take.nd rfl (Or.inl rfl) (pe_op op_mod (pe_callTy call_int1 rfl T.int (by decide +kernel) (pa_cons (pe_op op_pow (pe_callTy call_int1 rfl T.int (by decide +kernel) (pa_cons (pe_op op_add (pe_op op_add (pe_ix ix_list (pv 0) pe_int (fun _ _ => rfl)) (pe_op op_mul (pe_op op_mul pe_int (pe_ix ix_list (pv 0) pe_int (fun _ _ => rfl))) (pe_ix ix_list (pv 0) pe_int (fun _ _ => rfl)))) pe_int) pa_nil)) pe_int) pa_nil)) (pv 3)))
  (pss_one (ps_ret (pe_op op_mod (pe_callTy call_int1 rfl T.int (by decide +kernel) (pa_cons (pe_op op_fdiv (pe_op op_mul (pv 4) (pe_op op_add (pe_op op_mod (pe_callTy call_int1 rfl T.int (by decide +kernel) (pa_cons (pv 4) pa_nil)) pe_int) (pe_op op_mul pe_int (pe_ix ix_list (pv 0) pe_int (fun _ _ => rfl))))) pe_int) pa_nil)) (pv 1)))))))), ?_⟩
  refine ⟨_, rfl, p, _, _, _, rfl, rfl, .of hp, rfl, _, _, rfl, rfl, _, rfl, ?_⟩
  refine ite2 (fun ca => ?_) (fun ca => ?_)
  · refine ⟨_, rfl, p, _, _, _, rfl, rfl, .of hp, rfl, .inl ⟨_, rfl, _, rfl, _, _, rfl, rfl, h0, ?_⟩⟩
    refine ⟨_, rfl, p, _, _, _, rfl, rfl, .of hp, rfl, _, rfl, _, _, rfl, rfl, ⟨h0, by omega⟩, ?_⟩
    refine ⟨_, rfl, p, _, _, _, rfl, rfl, hp, rfl, ?_⟩
    refine ⟨_, rfl, ?_⟩
    obtain ⟨d, hd, hd2⟩ := modNat a h0
    show Q (V.int (a % u)) _
    rw [hd]
    refine q d _ hd2 ((But.refl _ H).put (by simp)) ?_
    exact ⟨a / u, b, c, upd_same, hb0, hb1, hc0, by omega⟩
  · refine ⟨_, rfl, p, _, _, _, rfl, rfl, .of hp, rfl, _, _, rfl, rfl, ?_⟩
    refine ⟨_, rfl, p, _, _, _, rfl, rfl, hp, rfl, ?_⟩
    have hp1 : upd H p (.lst [V.int a, V.int b, V.int (c + 1)]) p = some (.lst [V.int a, V.int b, V.int (c + 1)]) := upd_same
    have g1 : But [p] H (upd H p (.lst [V.int a, V.int b, V.int (c + 1)])) := (But.refl _ H).put (by simp)
    refine ⟨(by show 5 ≤ sizeLine; decide), fun l hl => ?_⟩
    have g2 := g1.new (o := .lst [V.int 2147483647, V.int 2147483629, V.int 2147483587, V.int 2147483579, V.int 2147483563]) hl
    have np : p ≠ l := ne_of_none hp1 hl
    have hp2 : upd (upd H p (.lst [V.int a, V.int b, V.int (c + 1)])) l (.lst [V.int 2147483647, V.int 2147483629, V.int 2147483587, V.int 2147483579, V.int 2147483563]) p = some (.lst [V.int a, V.int b, V.int (c + 1)]) := by
      rw [upd_ne np]; exact hp1
    obtain ⟨i5, hi5, hi5b⟩ := modNat (c + 1) (show (0 : Int) < 5 by decide)
    obtain ⟨pr, hpr, hpr0, hpr1⟩ : ∃ pr : Int, ([V.int 2147483647, V.int 2147483629, V.int 2147483587, V.int 2147483579, V.int 2147483563] : List V)[i5]? = some (.int pr) ∧ 0 < pr ∧ pr < 2147483648 := by
      have : i5 < 5 := by omega
      match i5, this with
      | 0, _ => exact ⟨_, rfl, by decide, by decide⟩
      | 1, _ => exact ⟨_, rfl, by decide, by decide⟩
      | 2, _ => exact ⟨_, rfl, by decide, by decide⟩
      | 3, _ => exact ⟨_, rfl, by decide, by decide⟩
      | 4, _ => exact ⟨_, rfl, by decide, by decide⟩
    refine ⟨_, rfl, p, _, _, _, rfl, rfl, .of hp2, rfl, .inl ⟨_, rfl, _, _, rfl, rfl, (by show (0 : Int) < 5; decide), ?_⟩⟩
    refine ⟨l, _, (c + 1) % 5, _, rfl, rfl, .of upd_same, (by rw [hi5]; exact atI_nat hpr), ?_⟩
    refine ⟨_, rfl, p, _, _, _, rfl, rfl, .of hp2, rfl, _, rfl, p, _, _, _, rfl, rfl, .of hp2, rfl, _, _, rfl, rfl, .inl (by constructor <;> decide), ?_⟩
    refine ⟨_, rfl, p, _, _, _, rfl, rfl, .of hp2, rfl, _, _, rfl, rfl, .inr (by constructor <;> omega), _, _, rfl, rfl, _, _, rfl, rfl, .inl ⟨_, rfl, _, _, rfl, rfl, ⟨by decide, by decide, ?_⟩, .inl ⟨_, rfl, ?_⟩⟩⟩
    · have hq := sq_le 100935 (c := c + 1) (by omega) (by omega)
      generalize 100935 * (c + 1) * (c + 1) = z at hq ⊢
      omega
    refine ⟨_, rfl, _, _, rfl, rfl, hpr0, ?_⟩
    obtain ⟨bl, hbl, hbl2⟩ := modNat ((b + 100935 * (c + 1) * (c + 1) + 1419) ^ 3) hpr0
    refine ⟨_, rfl, _, rfl, .inl ⟨_, rfl, _, _, rfl, rfl, (by show (0 : Int) < 11387; decide), ?_⟩⟩
    refine ⟨_, rfl, p, _, _, _, rfl, rfl, .of hp2, rfl, _, _, rfl, rfl, .inl (by constructor <;> decide), _, _, rfl, rfl, _, _, rfl, rfl, .inl ?_, ?_⟩
    · show -(2 ^ 64) < (b + 100935 * (c + 1) * (c + 1) + 1419) ^ (Int.toNat 3) % pr ∧ (b + 100935 * (c + 1) * (c + 1) + 1419) ^ (Int.toNat 3) % pr < 2 ^ 64
      have e3 : Int.toNat 3 = 3 := rfl
      rw [e3, hbl]; constructor <;> omega
    refine ⟨_, _, rfl, rfl, ⟨by decide, by decide⟩, .inl ⟨_, rfl, _, rfl, _, _, rfl, rfl, h0, ?_⟩⟩
    refine (fun (z : ∀ x : Int, Q (.int (x % u)) (upd (upd H p (.lst [V.int a, V.int b, V.int (c + 1)])) l (.lst [V.int 2147483647, V.int 2147483629, V.int 2147483587, V.int 2147483579, V.int 2147483563]))) => z _) (fun x => ?_)
    obtain ⟨d, hd, hd2⟩ := modNat x h0
    rw [hd]
    exact q d _ hd2 g2 ⟨a, b, c + 1, hp2, hb0, hb1, by omega, by omega⟩
abbrev s_law_of : Stmt := top 29
theorem sc_law_of : FnScope ["pot", "some"] ["pot", "some"] (defScope s_law_of) := ⟨rfl, rfl, rfl, by decide +kernel, rfl, by decide +kernel, by decide +kernel⟩
theorem ok_law_of (F : Fun K "_law_of" "_law_of" s_law_of f fd) (T : LTx mg) (G_law_take : Fd P w K mg base CX0 "_law_take" 1 ["pot", "upto"] spTake) : FnOk P w K mg base CX0 2 f fd ["pot", "some"] (spOf K) := by
  refine F.ok sc_law_of (fun vs H Q E h => ?_) (fun cdv A outer s H vs Q E hr h => ?_)
  · obtain ⟨p, q, xs, n, rfl, _⟩ := h
    rfl
  obtain ⟨p, q, xs, n, rfl, hS, hne, hx, hx1, hn, hP, k⟩ := h
  refine ⟨_, (pss_one (ps_ret (pe_ix ix_list (pv 1) (pe_fd G_law_take (hr.mono (by first | decide | omega)) rfl (pa_cons (pv 0) (pa_cons (pe_callB call_len rfl T.len (by decide +kernel) (pa_cons (pv 1) pa_nil)) pa_nil))) (fun _ _ => rfl)))), ?_⟩
  have hpos : 0 < xs.length := List.length_pos_iff.mpr hx
  refine ⟨_, rfl, _, rfl, _, rfl, _, xs.length, rfl, .inl ⟨xs, hS, rfl⟩, p, _, n, rfl, by omega, by omega, hn, hP, fun d H' hd g hP' => ?_⟩
  have hdl : d < xs.length := by omega
  refine ⟨q, xs, _, xs[d], rfl, rfl, g.seq hS (by simpa using hne), atI_nat (by simp [hdl]), ?_⟩
  exact k d _ H' (by simp [hdl]) g hP'
abbrev s_law_cells : Stmt := top 30
theorem sc_law_cells : FnScope ["script", "limit"] ["script", "limit"] (defScope s_law_cells) := ⟨rfl, rfl, rfl, by decide +kernel, rfl, by decide +kernel, by decide +kernel⟩
theorem ok_law_cells (F : Fun K "_law_cells" "_law_cells" s_law_cells f fd) (T : LTx mg) : FnOk P w K mg base CX0 1 f fd ["script", "limit"] (spCells K) := by
  refine F.ok sc_law_cells (fun vs H Q E h => ?_) (fun cdv A outer s H vs Q E hr h => ?_)
  · obtain ⟨p, xs, m, rfl, _⟩ := h
    rfl
  obtain ⟨p, xs, m, rfl, hS, hl, hm, k⟩ := h
  refine ⟨_, (pss_one (ps_ret (pe_listRg rfl rfl T.list (prg_1 rfl T.range (pe_callB (call_max2 rfl) rfl T.max (by decide +kernel) (pa_cons pe_int (pa_cons (pe_callB (call_min2 rfl) rfl T.min (by decide +kernel) (pa_cons (pv 1) (pa_cons (pe_callB call_len rfl T.len (by decide +kernel) (pa_cons (pv 0) pa_nil)) pa_nil))) pa_nil))))))), ?_⟩
  refine ⟨_, rfl, _, rfl, _, xs.length, rfl, .inl ⟨_, hS, (List.length_map _).symm⟩, _, _, rfl, _, _, rfl, ?_⟩
  generalize hz : (if (if (xs.length : Int) < (m : Int) then (xs.length : Int) else (m : Int)) > 1 then (if (xs.length : Int) < (m : Int) then (xs.length : Int) else (m : Int)) else 1) = z
  have hz1 : 0 ≤ z ∧ z < 1000 := by subst hz; split <;> (try split) <;> omega
  refine ⟨z, rfl, .of_le (by omega) (by omega) (by omega) (by omega), fun l hln => ?_⟩
  refine k l _ z.toNat (by omega) (same_new hln _) hln ?_
  rw [upd_same]
  unfold rgV
  rw [show (z - 0).toNat = z.toNat by omega]
  simp
abbrev s_law_pot : Stmt := top 27
theorem sc_law_pot : FnScope ["script", "place", "cell", "own", "small"] ["script", "place"] (defScope s_law_pot) := ⟨rfl, rfl, rfl, by decide +kernel, rfl, by decide +kernel, by decide +kernel⟩
theorem ok_law_pot (F : Fun K "_law_pot" "_law_pot" s_law_pot f fd) (T : LTx mg) : FnOk P w K mg base CX0 1 f fd ["script", "place"] (spPot K) := by
  refine F.ok sc_law_pot (fun vs H Q E h => ?_) (fun cdv A outer s H vs Q E hr h => ?_)
  · obtain ⟨p, xs, m, rfl, _⟩ := h
    rfl
  obtain ⟨p, xs, m, rfl, hS, hl, hm, k⟩ := h
  refine ⟨_, (C8.pss_cut (ps_set (i := 2) sc_law_pot.nd rfl (Or.inl rfl) (pe_ifExp (pt_cmpR op_lt (pv 1) (pe_callB call_len rfl T.len (by decide +kernel) (pa_cons (pv 0) pa_nil)) (nomark _)) (pe_ix ix_list (pv 0) (pv 1) (fun _ _ => rfl)) (pe_op op_add (pe_op op_add (pe_op op_mod (pe_callTy call_int1 rfl T.int (by decide +kernel) (pa_cons (pe_callB (cr_sum rfl) rfl T.sum (by decide +kernel) (pa_cons (pe_slice sl_list (pv 0) po_none (po_some pe_int)) pa_nil)) pa_nil)) pe_int) (pe_op op_mul pe_int (pv 1))) pe_int)))
  (pss_cons (ps_set (i := 3) sc_law_pot.nd rfl (Or.inl rfl) (pe_op op_mul (pe_op op_mod (pe_callTy call_int1 rfl T.int (by decide +kernel) (pa_cons (pe_callB call_abs rfl T.abs (by decide +kernel) (pa_cons (pv 2) pa_nil)) pa_nil)) (pe_op op_powB (pe_op op_pow pe_int pe_int) pe_int)) (pe_callTy call_int1 rfl T.int (by decide +kernel) (pa_cons (pe_cmpR op_ge (pe_callB call_abs rfl T.abs (by decide +kernel) (pa_cons (pv 2) pa_nil)) (pe_op op_pow pe_int pe_int) (nomark _)) pa_nil))))
  (pss_cons (ps_set (i := 4) sc_law_pot.nd rfl (Or.inl rfl) (pe_op op_mod (pe_callTy call_int1 rfl T.int (by decide +kernel) (pa_cons (pv 2) pa_nil)) pe_int))
  (pss_one (ps_ret (pe_lst (pa_cons (pv 3) (pa_cons (pe_op op_mod (pe_callTy call_int1 rfl T.int (by decide +kernel) (pa_cons (pe_op op_add (pe_op op_add (pe_op op_mul (pv 4) pe_int) (pe_op op_mul (pe_op op_mul pe_int (pv 1)) (pv 1))) pe_int) pa_nil)) pe_int) (pa_cons pe_int pa_nil))))))))), ?_⟩
  refine ⟨fun σ H1 => ∃ c : Int, σ = [some (.ref p), some (.int m), some (.int c), none, none] ∧ Same H H1, ?_, ?_⟩
  · refine ⟨_, rfl, _, rfl, _, xs.length, rfl, .inl ⟨_, hS, (List.length_map _).symm⟩, _, _, rfl, rfl, _, rfl, ?_⟩
    refine ite2 (fun c => ?_) (fun c => ?_)
    · have c' : m < xs.length := by have := of_decide_eq_true c; omega
      refine ⟨_, rfl, _, rfl, p, _, _, _, rfl, rfl, hS, atI_nat (by rw [List.getElem?_map, List.getElem?_eq_getElem c']; rfl), ?_⟩
      exact ⟨_, rfl, Same.refl _⟩
    · refine ⟨_, rfl, 1, rfl, p, _, rfl, hS, fun l hln => ?_⟩
      have hcut : cutV (xs.map V.int) none (some 1) = (xs.take 1).map V.int := by
        have e1 : HT.sIx (xs.map V.int).length 0 none = 0 := rfl
        have e2 := HT.sIx_nat (xs.map V.int).length (xs.map V.int).length 1
        unfold cutV
        rw [e1, show ((1 : Int)) = ((1 : Nat) : Int) from rfl, e2, List.length_map, List.drop_zero, ← List.map_take]
        cases xs <;> simp
      refine ⟨l, xs.take 1, rfl, .of (by rw [hcut]; exact upd_same), .inl ⟨_, rfl, _, _, rfl, rfl, (by show (0 : Int) < 1000003; decide), ?_⟩⟩
      refine ⟨_, rfl, _, _, rfl, rfl, .inl (by constructor <;> decide), _, _, rfl, rfl, _, _, rfl, rfl, ?_⟩
      exact ⟨_, rfl, same_new hln _⟩
  · rintro σ H1 ⟨c, rfl, g⟩
    refine ⟨_, rfl, _, rfl, .inl ⟨_, rfl, _, _, rfl, rfl, ⟨by decide, by decide, by decide⟩, ?_⟩⟩
    refine ⟨_, _, rfl, rfl, ⟨by decide, bits_ok 200 (by decide +kernel) (by decide) (by decide)⟩, ?_⟩
    refine ⟨_, _, rfl, rfl, (by show (0 : Int) < ((10 : Int) ^ Int.toNat 60) ^ Int.toNat 5; decide +kernel), ?_⟩
    refine ⟨_, rfl, _, rfl, _, _, rfl, rfl, ⟨by decide, by decide, by decide⟩, _, _, rfl, rfl, .inr ⟨_, rfl, _, _, rfl, rfl, .inr (b01 _), ?_⟩⟩
    refine ⟨_, rfl, .inl ⟨_, rfl, _, _, rfl, rfl, (by show (0 : Int) < 2305843009213693951; decide), ?_⟩⟩
    obtain ⟨sm, hs1, hs2⟩ := modNat c (u := 2305843009213693951) (by decide)
    refine ⟨_, rfl, _, rfl, _, _, rfl, rfl, .inr (by constructor <;> decide), _, rfl, _, _, rfl, rfl, .inl (by constructor <;> decide), _, rfl, _, _, rfl, rfl, .inr (by constructor <;> omega), ?_⟩
    refine ⟨_, _, rfl, rfl, _, _, rfl, rfl, .inl ⟨_, rfl, _, _, rfl, rfl, (by show (0 : Int) < 2305843009213693921; decide), ?_⟩⟩
    refine ⟨(by show 3 ≤ sizeLine; decide), fun l hln => ?_⟩
    refine k l _ (fun b o q => same_new hln _ b o (g b o q)) (g.free hln) ?_
    refine ⟨_, _, 0, upd_same, ?_, ?_, Int.le_refl 0, Int.le_refl 0⟩
    · exact Int.emod_nonneg _ (by decide)
    · exact Int.lt_trans (Int.emod_lt_of_pos _ (by decide)) (by decide)
end
end Fp
namespace Fp
open PySem PySem.Spec PyProof.Rows L2
def VALS : List V := [.non, .int 0, .int 1, .int 7, .int (-9999), .int 9999, .int 42, .int 7]
theorem vals_ok {d : Nat} {v : V} (h : VALS[d]? = some v) (H : Hp) (n : Nat) : ∃ x, VAt H v x ∧ VOk n x := by
  have hd := get_lt h
  have : d < 8 := hd
  match d, this with
  | 0, _ => cases h; exact ⟨_, .non, .non⟩
  | 1, _ => cases h; exact ⟨_, .int _, .int (by decide) (by decide)⟩
  | 2, _ => cases h; exact ⟨_, .int _, .int (by decide) (by decide)⟩
  | 3, _ => cases h; exact ⟨_, .int _, .int (by decide) (by decide)⟩
  | 4, _ => cases h; exact ⟨_, .int _, .int (by decide) (by decide)⟩
  | 5, _ => cases h; exact ⟨_, .int _, .int (by decide) (by decide)⟩
  | 6, _ => cases h; exact ⟨_, .int _, .int (by decide) (by decide)⟩
  | 7, _ => cases h; exact ⟨_, .int _, .int (by decide) (by decide)⟩
section
variable {P : Program} {w : World} {K : PySem.W.Frag} {mg : Str → Option Value} {base : Heap} {f : Addr} {fd : FuncData} {C : Addr}
abbrev s_law_drawn_value : Stmt := top 37
theorem sc_law_drawn_value : FnScope ["pot", "deep", "way", "lap"] ["pot", "deep"] (defScope s_law_drawn_value) := ⟨rfl, rfl, rfl, by decide +kernel, rfl, by decide +kernel, by decide +kernel⟩
theorem ok_law_drawn_value {n : Nat} (F : Fun K "_law_drawn_value" "_law_drawn_value" s_law_drawn_value f fd) (T : LTx mg) (G_law_take : Fd P w K mg base CX0 "_law_take" 1 ["pot", "upto"] spTake) (G_law_of : Fd P w K mg base CX0 "_law_of" 2 ["pot", "some"] (spOf K)) (G_law_drawn_value : Fd P w K mg base CX0 "_law_drawn_value" (n + 2) ["pot", "deep"] (spVal n)) :
    FnOk P w K mg base CX0 (n + 3) f fd ["pot", "deep"] (spVal (n + 1)) := by
  refine F.ok sc_law_drawn_value (fun vs H Q E h => ?_) (fun cdv A outer s H vs Q E hr h => ?_)
  · obtain ⟨p, deep, m, rfl, _⟩ := h
    rfl
  obtain ⟨p, deep, m, rfl, hd, hd2, hm, hP, k⟩ := h
  have hr1 : Room 1 _ := hr.mono (by omega)
  have hr2 : Room 2 _ := hr.mono (by omega)
  refine ⟨_, (pss_cons (ps_set (i := 2) sc_law_drawn_value.nd rfl (Or.inl rfl) (pe_mid (pe_fd G_law_take hr1 rfl (pa_cons (pv 0) (pa_cons (pe_ifExp (pt_cmpR op_gt (pv 1) pe_int (nomark _)) pe_int pe_int) pa_nil)))))
  (pss_cons (ps_if (pt_cmpR op_lt (pv 2) pe_int (nomark _)) (pss_one (ps_ret (pe_fd G_law_of hr2 rfl (pa_cons (pv 0) (pa_cons (pe_lst (pa_cons pe_non (pa_cons pe_int (pa_cons pe_int (pa_cons pe_int (pa_cons (pe_un un_neg pe_int) (pa_cons pe_int (pa_cons pe_int (pa_cons pe_int pa_nil))))))))) pa_nil))))) pss_nil)
  (pss_one (ps_ret (pe_callTy call_tuple_of rfl T.tuple (by decide +kernel) (pa_cons (pe_lc (own := [("lap", 3)]) (g := (gName 3)) (tt := tYes) rfl sc_law_drawn_value.nd (pi_range1 rfl T.range (pa_cons (pe_fd G_law_take hr1 rfl (pa_cons (pv 0) (pa_cons pe_int pa_nil))) pa_nil)) (blkOk_by (own := [("lap", 3)]) (N := ["pot", "deep", "way", "lap"]) (sc := defScope s_law_drawn_value) (by decide +kernel)) (fun _ _ _ _ _ => (pg_name (i := 3) sc_law_drawn_value.nd rfl (Or.inl rfl))) (fun _ _ _ _ _ => pts_nil) (fun _ _ _ _ _ => (pe_fd G_law_drawn_value hr rfl (pa_cons (pv 0) (pa_cons (pe_op op_sub (pv 1) pe_int) pa_nil))))) pa_nil)))))), ?_⟩
  refine ⟨fun y H' => ∃ d : Nat, y = .int d ∧ (4 ≤ d → 0 < deep) ∧ But [p] H H' ∧ PotAt H' p (m + 1), ?_, ?_⟩
  · refine ⟨_, rfl, _, rfl, _, _, rfl, rfl, _, rfl, ?_⟩
    refine ite2 (fun c => ?_) (fun c => ?_)
    · have c' := of_decide_eq_true c
      exact ⟨p, 6, m, rfl, by decide, by decide, by omega, hP, fun d H' _ g hp => ⟨d, rfl, fun _ => by omega, g, hp⟩⟩
    · exact ⟨p, 4, m, rfl, by decide, by decide, by omega, hP, fun d H' hd4 g hp => ⟨d, rfl, fun z => by omega, g, hp⟩⟩
  rintro y H1 ⟨d, rfl, hpos, g1, hP1⟩
  refine ⟨_, rfl, _, _, rfl, rfl, _, rfl, ?_⟩
  refine ite2 (fun c => ?_) (fun c => ?_)
  · refine ⟨_, rfl, _, rfl, szl (by decide), fun l nl => ?_⟩
    have np : p ≠ l := ne_of_none hP1.there.choose_spec nl
    have hP2 : PotAt (upd H1 l (.lst VALS)) p (m + 1) := by
      obtain ⟨a, b, c, h1, h2⟩ := hP1
      exact ⟨a, b, c, by rw [upd_ne np]; exact h1, h2⟩
    have hvd : 2 ≤ vc deep := by cases deep with | zero => exact Nat.le_refl _ | succ j => unfold vc; omega
    refine ⟨p, l, VALS, m + 1, rfl, .of upd_same, Ne.symm np, by decide, by decide, by omega, hP2, fun j v H2 hv g2 hP3 => ?_⟩
    obtain ⟨x, h1, h2⟩ := vals_ok hv H2 deep
    refine k v x H2 ((g1.new nl).trans g2) h1 h2 (hP3.mono ?_)
    cases deep with
    | zero => exact Nat.le_refl _
    | succ j => unfold vc; omega
  · have c' : ¬ (d : Int) < 4 := fun z => c (decide_eq_true z)
    have hpos := hpos (by omega)
    obtain ⟨e, rfl⟩ : ∃ e, deep = e + 1 := ⟨deep - 1, by omega⟩
    have hvc : vc e ≤ 8 := by
      rcases (show e = 0 ∨ e = 1 by omega) with rfl | rfl <;> decide
    refine ⟨_, rfl, p, 4, m + 1, rfl, by decide, by decide, by omega, hP1, fun q H2 hq g2 hP2 => ?_⟩
    refine ⟨_, rfl, by omega, by omega, fun D hD => ?_⟩
    have nD : p ≠ D := ne_of_none hP2.there.choose_spec hD
    refine lc_it (walk_range (lo := 0) (n := q)) (fun i H' => But [p] H2 H' ∧ PotAt H' p (m + 2 + i * vc e) ∧ ∃ xs ds, H' D = some (.lst xs) ∧ xs.length = i ∧ VsAt H' xs ds ∧ ∀ d ∈ ds, VOk e d) ?_ (fun _ _ _ _ => True.intro) ?_ ?_
    · refine ⟨(But.refl _ _).new hD, ?_, [], [], upd_same, rfl, .nil, fun _ h => by cases h⟩
      obtain ⟨a, b, c, h1, h2, h3, h4, h5⟩ := hP2
      exact ⟨a, b, c, by rw [upd_ne nD]; exact h1, h2, h3, h4, by omega⟩
    · rintro i x H3 H4 hi ⟨g3, hP3, xs, ds, hx, hl, hv, ho⟩ ⟨rfl, rfl⟩
      have hi3 : i * vc e ≤ 3 * 8 := Nat.mul_le_mul (by omega) hvc
      refine ⟨rfl, _, rfl, _, rfl, _, _, rfl, rfl, p, e, _, (by show [V.ref p, V.int (((e + 1 : Nat) : Int) - 1)] = _; rw [show (((e + 1 : Nat) : Int) - 1) = (e : Int) by omega]), by omega, by omega, ?_, hP3, fun v d H5 g5 h1 h2 hP5 => ?_⟩
      · have h1 : (i + 1) * vc e ≤ 3 * vc e := Nat.mul_le_mul_right _ (by omega)
        rw [Nat.succ_mul] at h1
        unfold vc at hm
        omega
      have hx5 := g5.at hx (by simpa using Ne.symm nD)
      have tk5 : TK H4 H5 := TK.but g5 fun a ha z => by
        rw [List.mem_singleton.mp ha] at z
        obtain ⟨ys, e⟩ := hP3.there
        rw [e] at z; exact z
      refine ⟨xs, hx5, szt (by omega), fun b o nb q => ?_, ?_, xs ++ [v], ds ++ [d], upd_same, by rw [List.length_append, hl]; rfl, ?_, fun d' hd' => ?_⟩
      · have q4 := g3 b o nb q
        rw [upd_ne (fun z => by subst z; rw [hD] at q; cases q)]
        exact g5 b o nb q4
      · obtain ⟨a, b, c, h1, h2, h3, h4, h6⟩ := hP5
        refine ⟨a, b, c, by rw [upd_ne nD]; exact h1, h2, h3, h4, ?_⟩
        rw [Nat.succ_mul]; omega
      · exact VsAt.snoc (h1.mono (.put hx5 fun z => z)) (VsAt.mono (tk5.trans (.put hx5 fun z => z)) hv)
      · rcases List.mem_append.mp hd' with z | z
        · exact ho d' z
        · rw [List.mem_singleton.mp z]; exact h2
    · rintro H3 ⟨g3, hP3, xs, ds, hx, hl, hv, ho⟩
      refine ⟨D, xs, rfl, .inl ⟨.of hx, fun l nl => ?_⟩⟩
      have gn := same_new nl (.tup xs)
      refine k _ (.tuple ds) _ ?_ (.tup upd_same (VsAt.mono (.of gn) hv)) (.tup ho (by rw [← hv.len, hl]; omega)) ?_
      · exact ((g1.trans g2).trans g3).new nl
      · obtain ⟨a, b, c, h1, h2, h3, h4, h6⟩ := hP3
        refine ⟨a, b, c, gn _ _ h1, h2, h3, h4, ?_⟩
        have : q * vc e ≤ 3 * vc e := Nat.mul_le_mul_right _ (by omega)
        unfold vc
        omega
theorem all_value (F : Fun K "_law_drawn_value" "_law_drawn_value" s_law_drawn_value f fd) (b : Binds K fd ["pot", "deep"] []) (m : mg "_law_drawn_value" = some (.ref f)) (T : LTx mg) (G_law_take : Fd P w K mg base CX0 "_law_take" 1 ["pot", "upto"] spTake) (G_law_of : Fd P w K mg base CX0 "_law_of" 2 ["pot", "some"] (spOf K)) : ∀ n : Nat, Fd P w K mg base CX0 "_law_drawn_value" (n + 2) ["pot", "deep"] (spVal n)
  | 0 => ⟨f, fd, m, F.kp, b, (none0 (fun vs H Q E h => by obtain ⟨p, deep, m, _, h, _⟩ := h; omega)).mono (Nat.zero_le _)⟩
  | n + 1 => ⟨f, fd, m, F.kp, b, ok_law_drawn_value F T G_law_take G_law_of (all_value F b m T G_law_take G_law_of n)⟩
abbrev s_law_door : Stmt := top 31
theorem sc_law_door : FnScope ["many"] ["many"] (defScope s_law_door) := ⟨rfl, rfl, rfl, by decide +kernel, rfl, by decide +kernel, by decide +kernel⟩
theorem ok_law_door (F : Fun K "_law_door" "_law_door" s_law_door f fd) : FnOk P w K mg base CX0 1 f fd ["many"] spODoor := by
  refine F.ok sc_law_door (fun vs H Q E h => ?_) (fun cdv A outer s H vs Q E hr h => ?_)
  · obtain ⟨n, rfl, _⟩ := h
    rfl
  obtain ⟨n, rfl, h5, k⟩ := h
  refine ⟨_, (pss_one (ps_ret (pe_disp (pps_cons pe_str (pe_op op_rep (pe_lst (pa_cons pe_non pa_nil)) (pv 0)) (pps_cons pe_str (pe_op op_rep (pe_lst (pa_cons pe_non pa_nil)) (pv 0)) (pps_cons pe_str (pe_op op_rep (pe_lst (pa_cons pe_int pa_nil)) (pv 0)) (pps_cons pe_str (pe_op op_rep (pe_lst (pa_cons pe_bl pa_nil)) (pv 0)) (pps_cons pe_str (pe_op op_rep (pe_lst (pa_cons pe_non pa_nil)) (pv 0)) (pps_cons pe_str pe_int pps_nil)))))) (by rfl) (by rfl) (by simp) (by decide)))), ?_⟩
  have rep : ∀ (H1 : Hp) (v : V) (Q1 : V → Hp → Prop), (∀ l H', Same H1 H' → H1 l = none → H' l = some (.lst (List.replicate n v)) → Q1 (.ref l) H') → tOp rRep (tLst (tCons (tC v) tNil)) (tVar 0) [some (.int n)] H1 Q1 := by
    intro H1 v Q1 hq
    refine ⟨szl (by show 1 ≤ _; decide), fun t nt => ⟨_, rfl, t, n, [v], rfl, rfl, upd_same, by omega, by omega, szl (by show 1 * _ ≤ _; omega), fun l nl => ?_⟩⟩
    refine hq l _ ((same_new nt _).trans (same_new nl _)) ((same_new nt _).free nl) ?_
    rw [upd_same]
    simp
  refine fun o no => ?_
  refine rep _ _ _ fun l1 H1 g1 n1 h1 => rep _ _ _ fun l2 H2 g2 n2 h2 => rep _ _ _ fun l3 H3 g3 n3 h3 => rep _ _ _ fun l4 H4 g4 n4 h4 => rep _ _ _ fun l5 H5 g5 n5 h5' => ?_
  have g0 := same_new no (.dK [])
  have ho5 : H5 o = some (.dK []) := g5 _ _ (g4 _ _ (g3 _ _ (g2 _ _ (g1 _ _ upd_same))))
  refine ⟨ho5, odict l1 l2 l3 l4 l5 0, rfl, by show 6 ≤ 15; decide, ?_⟩
  rw [o_merge]
  have gs : Same H (upd H5 o (.dK (odict l1 l2 l3 l4 l5 0))) := fun a u e => by
    rw [upd_ne (ne_of_none e no)]; exact g5 _ _ (g4 _ _ (g3 _ _ (g2 _ _ (g1 _ _ (g0 _ _ e)))))
  have ol : ∀ {l : Addr} {xs : List V}, H5 l = some (.lst xs) → l ≠ o := fun h z => by rw [z, ho5] at h; cases h
  have a1 := g5 _ _ (g4 _ _ (g3 _ _ (g2 _ _ h1)))
  have a2 := g5 _ _ (g4 _ _ (g3 _ _ h2))
  have a3 := g5 _ _ (g4 _ _ h3)
  have a4 := g5 _ _ h4
  have m2 : H l2 = none := g0.free (g1.free n2)
  have m3 : H l3 = none := g0.free (g1.free (g2.free n3))
  have m4 : H l4 = none := g0.free (g1.free (g2.free (g3.free n4)))
  have m5 : H l5 = none := g0.free (g1.free (g2.free (g3.free (g4.free n5))))
  have d12 : l1 ≠ l2 := ne_of_none h1 n2
  have d13 : l1 ≠ l3 := ne_of_none (g2 _ _ h1) n3
  have d14 : l1 ≠ l4 := ne_of_none (g3 _ _ (g2 _ _ h1)) n4
  have d15 : l1 ≠ l5 := ne_of_none (g4 _ _ (g3 _ _ (g2 _ _ h1))) n5
  have d23 : l2 ≠ l3 := ne_of_none h2 n3
  have d24 : l2 ≠ l4 := ne_of_none (g3 _ _ h2) n4
  have d25 : l2 ≠ l5 := ne_of_none (g4 _ _ (g3 _ _ h2)) n5
  have d34 : l3 ≠ l4 := ne_of_none h3 n4
  have d35 : l3 ≠ l5 := ne_of_none (g4 _ _ h3) n5
  have d45 : l4 ≠ l5 := ne_of_none h4 n5
  refine k o [o, l1, l2, l3, l4, l5] _ gs (fun x hx => ?_) ⟨l1, l2, l3, l4, l5, List.replicate n .non, List.replicate n .non, rfl, upd_same, by rw [upd_ne (ol a1)]; exact a1, pr_rep (show One _ .non none from rfl) n, ?_, ?_, ?_, by rw [upd_ne (ol h5')]; exact h5', pr_rep (show One _ .non none from rfl) n, ?_⟩
  · simp only [List.mem_cons, List.not_mem_nil, or_false] at hx
    rcases hx with rfl | rfl | rfl | rfl | rfl | rfl
    · exact no
    · exact g0.free n1
    · exact m2
    · exact m3
    · exact m4
    · exact m5
  · rw [upd_ne (ol a2), a2]; show _ = some (HO.lst ((List.replicate n (none : Lv)).map lvV)); rw [List.map_replicate]; rfl
  · rw [upd_ne (ol a3), a3]
    show _ = some (HO.lst ((List.range (List.replicate n (none : Lv)).length).map fun p => V.int ((DS.new n).stg p : Nat)))
    rw [List.length_replicate]
    have e : ∀ p, (DS.new n).stg p = 0 := fun p => DS.stg0.mpr (DS.lv_new n p)
    simp only [e]
    rw [List.map_const', List.length_range]; rfl
  · rw [upd_ne (ol a4), a4]
    show _ = some (HO.lst ((List.range (List.replicate n (none : Lv)).length).map fun p => V.bl ((DS.new n).won p)))
    rw [List.length_replicate]
    have e : ∀ p, (DS.new n).won p = false := fun p => by unfold DS.won; rw [DS.sn_new]
    simp only [e]
    rw [List.map_const', List.length_range]
  · simp only [List.nodup_cons, List.mem_cons, List.not_mem_nil, or_false, not_or, not_false_eq_true, List.nodup_nil, and_true]
    exact ⟨⟨(ol a1).symm, (ol a2).symm, (ol a3).symm, (ol a4).symm, (ol h5').symm⟩, ⟨d12, d13, d14, d15⟩, ⟨d23, d24, d25⟩, ⟨d34, d35⟩, d45⟩
abbrev s_law_door_come : Stmt := top 33
theorem sc_law_door_come : FnScope ["door", "player", "value"] ["door", "player", "value"] (defScope s_law_door_come) := ⟨rfl, rfl, rfl, by decide +kernel, rfl, by decide +kernel, by decide +kernel⟩
theorem ok_law_door_come (F : Fun K "_law_door_come" "_law_door_come" s_law_door_come f fd) : FnOk P w K mg base CX0 1 f fd ["door", "player", "value"] spOCome := by
  refine F.ok sc_law_door_come (fun vs H Q E h => ?_) (fun cdv A outer s H vs Q E hr h => ?_)
  · obtain ⟨o, L, p, v, s, k, rfl, _⟩ := h
    rfl
  obtain ⟨o, L, p, v, s, k0, rfl, hO, hp, W, k⟩ := h
  refine ⟨_, (pss_one (ps_asg (pe_tup (pa_cons (pv 2) pa_nil)) (pg_sub (pe_dget (hu_of hr) (pv 0) pe_str (fun _ _ => rfl)) (pv 1) set_list))), ?_⟩
  obtain ⟨l1, l2, l3, l4, l5, cv, hv, rfl, D⟩ := hO
  have nd := D.nd
  simp only [List.nodup_cons, List.mem_cons, List.not_mem_nil, or_false, not_or, not_false_eq_true, List.nodup_nil, and_true] at nd
  obtain ⟨⟨o1, o2, o3, o4, o5⟩, ⟨d12, d13, d14, d15⟩, ⟨d23, d24, d25⟩, ⟨d34, d35⟩, d45⟩ := nd
  refine ⟨_, rfl, szl (by show 1 ≤ _; decide), fun t nt => ?_⟩
  have g := same_new nt (.tup [v])
  have hl : cv.length = s.lev.length := by rw [pr_len D.cameP, W.lc]
  refine ⟨_, rfl, o, _, rfl, og_came (g _ _ D.dict), _, rfl, l1, cv, p, p, rfl, rfl, g _ _ D.came, ?_, ?_⟩
  · exact ixn (by rw [hl]; exact hp)
  have tk : TK H (upd (upd H t (.tup [v])) l1 (.lst (cv.set p (.ref t)))) := (TK.of g).trans (.put (g _ _ D.came) fun z => z)
  have ht : upd (upd H t (.tup [v])) l1 (.lst (cv.set p (.ref t))) t = some (.tup [v]) := by rw [upd_ne (fun z => by have := g _ _ D.came; rw [← z, upd_same] at this; cases this)]; exact upd_same
  refine k _ ((But.of g).put (by simp)) ⟨l1, l2, l3, l4, l5, cv.set p (.ref t), hv, rfl, ?_⟩
  refine ⟨by rw [upd_ne o1]; exact g _ _ D.dict, upd_same, pr_set (show One _ (.ref t) (some v) from ⟨t, rfl, ht⟩) p (pr_imp (fun _ _ => One.mono tk) D.cameP), by rw [upd_ne (Ne.symm d12)]; exact g _ _ D.lev, by rw [upd_ne (Ne.symm d13)]; exact g _ _ D.stg, by rw [upd_ne (Ne.symm d14)]; exact g _ _ D.won, by rw [upd_ne (Ne.symm d15)]; exact g _ _ D.heard, pr_imp (fun _ _ => One.mono tk) D.heardP, D.nd⟩
abbrev s_law_door_step : Stmt := top 34
theorem sc_law_door_step : FnScope ["door", "player", "stage"] ["door", "player"] (defScope s_law_door_step) := ⟨rfl, rfl, rfl, by decide +kernel, rfl, by decide +kernel, by decide +kernel⟩
theorem ok_law_door_step (F : Fun K "_law_door_step" "_law_door_step" s_law_door_step f fd) (T : LTx mg) : FnOk P w K mg base CX0 1 f fd ["door", "player"] spOStep := by
  refine F.ok sc_law_door_step (fun vs H Q E h => ?_) (fun cdv A outer s H vs Q E hr h => ?_)
  · obtain ⟨o, L, p, s, k, rfl, _⟩ := h
    rfl
  obtain ⟨o, L, p, s, k0, rfl, hO, hc, W, k⟩ := h
  refine ⟨_, (pss_cons (ps_set (i := 2) sc_law_door_step.nd rfl (Or.inl rfl) (pe_ix ix_list (pe_dget (hu_of hr) (pv 0) pe_str (fun _ _ => rfl)) (pv 1) (fun _ _ => rfl)))
  (pss_cons (ps_dput (hu_of hr) (pv 0) pe_str (pe_op op_add (pe_dget (hu_of hr) (pv 0) pe_str (fun _ _ => rfl)) pe_int) rfl)
  (pss_cons (ps_asg (pe_callB (call_min2 rfl) rfl T.min (by decide +kernel) (pa_cons pe_int (pa_cons (pe_op op_add (pv 2) pe_int) pa_nil))) (pg_sub (pe_dget (hu_of hr) (pv 0) pe_str (fun _ _ => rfl)) (pv 1) set_list))
  (pss_cons (ps_if (pt_cmpR op_eq (pv 2) pe_int (nomark _)) (pss_cons (ps_asg pe_int (pg_sub (pe_dget (hu_of hr) (pv 0) pe_str (fun _ _ => rfl)) (pv 1) set_list))
  (pss_one (ps_ret (pe_tup (pa_cons pe_str (pa_cons pe_int pa_nil)))))) pss_nil)
  (pss_cons (ps_if (pt_cmpR op_eq (pv 2) pe_int (nomark _)) (pss_cons (ps_asg (pe_cmpR op_notIn_seq pe_int (pe_dget (hu_of hr) (pv 0) pe_str (fun _ _ => rfl)) rfl) (pg_sub (pe_dget (hu_of hr) (pv 0) pe_str (fun _ _ => rfl)) (pv 1) set_list))
  (pss_one (ps_ret (pe_tup (pa_cons pe_str (pa_cons (pe_callTy call_tuple_of rfl T.tuple (by decide +kernel) (pa_cons (pe_dget (hu_of hr) (pv 0) pe_str (fun _ _ => rfl)) pa_nil)) pa_nil)))))) pss_nil)
  (pss_cons (ps_if (pt_cmpR op_eq (pv 2) pe_int (nomark _)) (pss_cons (ps_asg (pe_mid (pe_ifExp (pt_val (pe_ix ix_list (pe_dget (hu_of hr) (pv 0) pe_str (fun _ _ => rfl)) (pv 1) (fun _ _ => rfl))) pe_int pe_int)) (pg_sub (pe_dget (hu_of hr) (pv 0) pe_str (fun _ _ => rfl)) (pv 1) set_list))
  (pss_one (ps_ret (pe_tup (pa_cons pe_str (pa_cons (pe_ix ix_list (pe_dget (hu_of hr) (pv 0) pe_str (fun _ _ => rfl)) (pv 1) (fun _ _ => rfl)) pa_nil)))))) pss_nil)
  (pss_cons (ps_if (pt_cmpR op_in_seq pe_int (pe_dget (hu_of hr) (pv 0) pe_str (fun _ _ => rfl)) rfl) (pss_one (ps_ret (pe_tup (pa_cons pe_str pa_nil)))) pss_nil)
  (pss_cons (ps_asg (pe_ix ix_list (pe_dget (hu_of hr) (pv 0) pe_str (fun _ _ => rfl)) (pe_bm PySem.F.plainAttrs_list PySem.F.slot_list_index PySem.F.type_list_index mt_index (pe_dget (hu_of hr) (pv 0) pe_str (fun _ _ => rfl)) (pa_cons pe_int pa_nil)) (fun _ _ => rfl)) (pg_sub (pe_dget (hu_of hr) (pv 0) pe_str (fun _ _ => rfl)) (pv 1) set_list))
  (pss_one (ps_ret (pe_op op_catA (pe_tup (pa_cons pe_str pa_nil)) (pe_ix ix_list (pe_dget (hu_of hr) (pv 0) pe_str (fun _ _ => rfl)) (pv 1) (fun _ _ => rfl))))))))))))), ?_⟩
  obtain ⟨l1, l2, l3, l4, l5, cv, hv, rfl, D⟩ := hO
  have nd := D.nd
  simp only [List.nodup_cons, List.mem_cons, List.not_mem_nil, or_false, not_or, not_false_eq_true, List.nodup_nil, and_true] at nd
  obtain ⟨⟨o1, o2, o3, o4, o5⟩, ⟨d12, d13, d14, d15⟩, ⟨d23, d24, d25⟩, ⟨d34, d35⟩, d45⟩ := nd
  have hp := DS.lt_of_cm W hc
  have hps : p < s.seen.length := by rw [W.ls]; exact hp
  have hst : ((List.range s.lev.length).map fun p => V.int (s.stg p : Nat))[p]? = some (.int (s.stg p : Nat)) := by rw [List.getElem?_map, List.getElem?_range hp]; rfl
  refine ⟨_, rfl, o, _, rfl, og_stg D.dict, _, rfl, l3, _, _, _, rfl, rfl, .of D.stg, atI_nat hst, ?_⟩
  refine ⟨_, rfl, o, _, rfl, og_steps D.dict, _, _, rfl, rfl, _, rfl, o, _, rfl, oput_steps D.dict, ?_⟩
  have b1 : But [o, l1, l2, l3, l4, l5] H (upd H o (.dK (odict l1 l2 l3 l4 l5 (k0 + 1)))) := (But.refl _ _).put (by simp)
  have q1 : ∀ {l : Addr} {u : HO}, l ≠ o → H l = some u → upd H o (.dK (odict l1 l2 l3 l4 l5 (k0 + 1))) l = some u := fun ne h => by rw [upd_ne ne]; exact h
  refine ⟨_, rfl, _, _, rfl, rfl, _, _, rfl, _, rfl, o, _, rfl, og_stg upd_same, _, rfl, l3, _, p, p, rfl, rfl, q1 (Ne.symm o3) D.stg, ixn (by simpa using hp), ?_⟩
  generalize hm : (if (s.stg p : Int) + 1 < 3 then (s.stg p : Int) + 1 else 3) = m
  have hm' : m = ((min 3 (s.stg p + 1) : Nat) : Int) := by subst hm; split <;> omega
  subst hm'
  have b2 := b1.put (o := .lst (((List.range s.lev.length).map fun p => V.int (s.stg p : Nat)).set p (.int (min 3 (s.stg p + 1) : Nat)))) (p := l3) (by simp)
  have tk0 : TK H (upd (upd H o (.dK (odict l1 l2 l3 l4 l5 (k0 + 1)))) l3 (.lst (((List.range s.lev.length).map fun p => V.int (s.stg p : Nat)).set p (.int (min 3 (s.stg p + 1) : Nat))))) := (TK.put D.dict fun z => z).trans (.put (q1 (Ne.symm o3) D.stg) fun z => z)
  have est : ((List.range s.lev.length).map fun p => V.int (s.stg p : Nat)).set p (.int (min 3 (s.stg p + 1) : Nat)) = (List.range (s.step p).lev.length).map fun q => V.int ((s.step p).stg q : Nat) := by
    rw [DS.len_step]
    refine List.ext_getElem? fun i => ?_
    rw [List.getElem?_set, List.length_map, List.length_range, List.getElem?_map, List.getElem?_map]
    by_cases hi : i < s.lev.length
    · rw [List.getElem?_range hi]
      by_cases e : p = i
      · subst e; rw [if_pos rfl, if_pos hp, Option.map_some, DS.stg_step W hc, if_pos rfl]
      · rw [if_neg e, Option.map_some, Option.map_some, DS.stg_step W hc, if_neg e]
    · rw [List.getElem?_eq_none (by simpa using hi)]
      by_cases e : p = i
      · exact absurd (e ▸ hp) hi
      · rw [if_neg e]; rfl
  rw [est] at b2 tk0 ⊢
  generalize hH2 : upd (upd H o (.dK (odict l1 l2 l3 l4 l5 (k0 + 1)))) l3 (.lst ((List.range (s.step p).lev.length).map fun q => V.int ((s.step p).stg q : Nat))) = H2 at b2 tk0 ⊢
  have e_o : H2 o = some (.dK (odict l1 l2 l3 l4 l5 (k0 + 1))) := by rw [← hH2, upd_ne o3]; exact upd_same
  have e1 : H2 l1 = some (.lst cv) := by rw [← hH2, upd_ne d13]; exact q1 (Ne.symm o1) D.came
  have e2 : H2 l2 = some (.lst (s.lev.map lvV)) := by rw [← hH2, upd_ne d23]; exact q1 (Ne.symm o2) D.lev
  have e3 : H2 l3 = some (.lst ((List.range (s.step p).lev.length).map fun q => V.int ((s.step p).stg q : Nat))) := by rw [← hH2]; exact upd_same
  have e4 : H2 l4 = some (.lst ((List.range s.lev.length).map fun p => V.bl (s.won p))) := by rw [← hH2, upd_ne (Ne.symm d34)]; exact q1 (Ne.symm o4) D.won
  have e5 : H2 l5 = some (.lst hv) := by rw [← hH2, upd_ne (Ne.symm d35)]; exact q1 (Ne.symm o5) D.heard
  have cP := pr_imp (fun _ _ => One.mono tk0) D.cameP
  have hP := pr_imp (fun _ _ => One.mono tk0) D.heardP
  have won_same : (∀ q, (s.step p).sn q = s.sn q) → (List.range (s.step p).lev.length).map (fun p' => V.bl ((s.step p).won p')) = (List.range s.lev.length).map fun p => V.bl (s.won p) := fun h => by
    rw [DS.len_step]; refine List.map_congr_left fun q _ => ?_; unfold DS.won; rw [h]
  have came_s := DS.came_step (s := s) (p := p)
  have h4 := DS.stg_lt s p
  have tl : ∀ {i : Int} {l : List Lv} {xs : List V}, xs = l.map lvV → xs.all flatV = true := fun e => by rw [e]; exact lv_flat _
  rcases (show s.stg p = 0 ∨ s.stg p = 1 ∨ s.stg p = 2 ∨ s.stg p = 3 by omega) with z | z | z | z
  · refine ⟨_, rfl, rfl, _, rfl, ite_yes (by rw [z]; rfl) ?_⟩
    refine ⟨_, rfl, o, _, rfl, og_lev e_o, _, rfl, l2, _, p, p, rfl, rfl, e2, ixn (by simpa using hp), ?_⟩
    refine ⟨szl (by show 2 ≤ _; decide), fun t nt => ?_⟩
    have tk := TK.put (u := .lst ((s.lev.map lvV).set p (.int 1))) e2 (fun z => z)
    have gn := same_new nt (.tup [.str "level", .int 1])
    refine k t _ ((b2.put (p := l2) (by simp)).new nt) (by rw [DS.told0 z]; exact upd_same) (OwnAt.same ⟨l1, l2, l3, l4, l5, cv, hv, rfl, ?_⟩ gn)
    have es := DS.step0 z
    refine ⟨by rw [upd_ne o2]; exact e_o, by rw [upd_ne d12]; exact e1, ?_, ?_, by rw [upd_ne (Ne.symm d23)]; exact e3, ?_, by rw [upd_ne (Ne.symm d25)]; exact e5, ?_, D.nd⟩
    · rw [came_s]; exact pr_imp (fun _ _ => One.mono tk) cP
    · rw [upd_same, es]; show _ = some (HO.lst ((s.lev.set p (some 1)).map lvV)); rw [List.map_set]; rfl
    · rw [upd_ne (Ne.symm d24), e4, won_same (DS.sn_stepN (by omega))]
    · rw [es]; exact pr_imp (fun _ _ => One.mono tk) hP
  · refine ⟨_, rfl, rfl, _, rfl, ite_no (by rw [z]; rfl) ⟨_, rfl, rfl, _, rfl, ite_yes (by rw [z]; rfl) ?_⟩⟩
    refine ⟨_, rfl, o, _, rfl, og_lev e_o, l2, _, rfl, .inl (.of e2), rfl, lv_flat _, ?_⟩
    rw [show (if true = true then !inV (.int 2) (s.lev.map lvV) else inV (.int 2) (s.lev.map lvV)) = !decide (some 2 ∈ s.lev) by rw [inV_lv]; rfl]
    refine ⟨_, rfl, o, _, rfl, og_won e_o, _, rfl, l4, _, p, p, rfl, rfl, e4, ixn (by simpa using hp), ?_⟩
    have tk := TK.put (u := .lst (((List.range s.lev.length).map fun p => V.bl (s.won p)).set p (.bl (!decide (some 2 ∈ s.lev))))) e4 (fun z => z)
    refine ⟨_, rfl, o, _, rfl, og_lev (by rw [upd_ne o4]; exact e_o), l2, _, rfl, .inl ⟨.of (by rw [upd_ne d24]; exact e2), fun r nr => ?_⟩⟩
    have gr := same_new nr (.tup (s.lev.map lvV))
    refine ⟨szl (by show 2 ≤ _; decide), fun t nt => ?_⟩
    have gn := gr.trans (same_new nt (.tup [.str "look", .ref r]))
    refine k t _ (((b2.put (p := l4) (by simp)).new nr).new nt) (by rw [DS.told1 z]; exact ⟨r, upd_same, .inl (same_new nt _ _ _ upd_same)⟩) (OwnAt.same ⟨l1, l2, l3, l4, l5, cv, hv, rfl, ?_⟩ gn)
    have es := DS.step1 z
    refine ⟨by rw [upd_ne o4]; exact e_o, by rw [upd_ne d14]; exact e1, ?_, ?_, by rw [upd_ne d34]; exact e3, ?_, by rw [upd_ne (Ne.symm d45)]; exact e5, ?_, D.nd⟩
    · rw [came_s]; exact pr_imp (fun _ _ => One.mono tk) cP
    · rw [upd_ne d24, e2, es]
    · rw [upd_same, DS.len_step]
      congr 2
      refine List.ext_getElem? fun i => ?_
      rw [List.getElem?_set, List.length_map, List.length_range, List.getElem?_map, List.getElem?_map]
      by_cases hi : i < s.lev.length
      · rw [List.getElem?_range hi]
        by_cases e : p = i
        · subst e; rw [if_pos rfl, if_pos hp, Option.map_some]; unfold DS.won; rw [DS.sn_step1 z hps, if_pos rfl]
        · rw [if_neg e, Option.map_some, Option.map_some]; unfold DS.won; rw [DS.sn_step1 z hps, if_neg e]
      · rw [List.getElem?_eq_none (by simpa using hi)]
        by_cases e : p = i
        · exact absurd (e ▸ hp) hi
        · rw [if_neg e]; rfl
    · rw [es]; exact pr_imp (fun _ _ => One.mono tk) hP
  · refine ⟨_, rfl, rfl, _, rfl, ite_no (by rw [z]; rfl) ⟨_, rfl, rfl, _, rfl, ite_no (by rw [z]; rfl) ⟨_, rfl, rfl, _, rfl, ite_yes (by rw [z]; rfl) ?_⟩⟩⟩
    have hw : ((List.range s.lev.length).map fun p => V.bl (s.won p))[p]? = some (.bl (s.won p)) := by rw [List.getElem?_map, List.getElem?_range hp]; rfl
    have ewr : (if s.won p = true then (2 : Int) else 0) = s.wr p := by
      obtain ⟨l, hl⟩ : ∃ l, s.sn p = some l := by
        cases q : s.sn p with
        | none => exact absurd q (DS.stg2.mp z).2
        | some l => exact ⟨l, rfl⟩
      unfold DS.won DS.wr DS.saw
      rw [hl]
      simp only [Option.getD_some]
      by_cases h : some 2 ∈ l <;> simp [h]
    refine ⟨fun y H' => y = .int (s.wr p) ∧ H' = H2, ⟨_, rfl, o, _, rfl, og_won e_o, _, rfl, l4, _, _, _, rfl, rfl, .of e4, atI_nat hw, _, rfl, ?_⟩, ?_⟩
    · rw [← ewr]
      cases s.won p
      · exact iteF ⟨rfl, rfl⟩
      · exact iteT ⟨rfl, rfl⟩
    rintro y H3 ⟨rfl, rfl⟩
    refine ⟨_, rfl, o, _, rfl, og_lev e_o, _, rfl, l2, _, p, p, rfl, rfl, e2, ixn (by simpa using hp), ?_⟩
    have tk := TK.put (u := .lst ((s.lev.map lvV).set p (.int (s.wr p)))) e2 (fun z => z)
    refine ⟨_, rfl, o, _, rfl, og_lev (by rw [upd_ne o2]; exact e_o), _, rfl, l2, _, _, .int (s.wr p), rfl, rfl, .of upd_same, atI_nat (by rw [List.getElem?_set]; simp [hp]), szl (by show 2 ≤ _; decide), fun t nt => ?_⟩
    have gn := same_new nt (.tup [.str "level", .int (s.wr p)])
    refine k t _ ((b2.put (p := l2) (by simp)).new nt) (by rw [DS.told2 z]; exact upd_same) (OwnAt.same ⟨l1, l2, l3, l4, l5, cv, hv, rfl, ?_⟩ gn)
    have es := DS.step2 z
    refine ⟨by rw [upd_ne o2]; exact e_o, by rw [upd_ne d12]; exact e1, ?_, ?_, by rw [upd_ne (Ne.symm d23)]; exact e3, ?_, by rw [upd_ne (Ne.symm d25)]; exact e5, ?_, D.nd⟩
    · rw [came_s]; exact pr_imp (fun _ _ => One.mono tk) cP
    · rw [upd_same, es]; show _ = some (HO.lst ((s.lev.set p (some (s.wr p))).map lvV)); rw [List.map_set]; rfl
    · rw [upd_ne (Ne.symm d24), e4, won_same (DS.sn_stepN (by omega))]
    · rw [es]; exact pr_imp (fun _ _ => One.mono tk) hP
  · refine ⟨_, rfl, rfl, _, rfl, ite_no (by rw [z]; rfl) ⟨_, rfl, rfl, _, rfl, ite_no (by rw [z]; rfl) ⟨_, rfl, rfl, _, rfl, ite_no (by rw [z]; rfl) ?_⟩⟩⟩
    refine ⟨_, rfl, o, _, rfl, og_lev e_o, l2, _, rfl, .inl (.of e2), rfl, lv_flat _, _, rfl, ?_⟩
    rw [show (if false = true then !inV (.int 1) (s.lev.map lvV) else inV (.int 1) (s.lev.map lvV)) = decide (some 1 ∈ s.lev) by rw [inV_lv]; rfl]
    have et := DS.told3 z
    have es := DS.step3 z
    have wns := won_same (DS.sn_stepN (by omega))
    refine ite2 (fun zz => ?_) (fun zz => ?_)
    · have zz := of_decide_eq_true zz
      rw [if_pos zz] at et es
      refine ⟨szl (by decide), fun t nt => ?_⟩
      have gn := same_new nt (.tup [.str "wait"])
      refine k t _ (b2.new nt) (by rw [et]; exact upd_same) (OwnAt.same ⟨l1, l2, l3, l4, l5, cv, hv, rfl, e_o, e1, ?_, ?_, e3, ?_, e5, ?_, D.nd⟩ gn)
      · rw [came_s]; exact cP
      · rw [e2, es]
      · rw [e4, wns]
      · rw [es]; exact hP
    · have zz : ¬ some 1 ∈ s.lev := of_decide_eq_false (by simpa using zz)
      rw [if_neg zz] at et es
      have h2 := DS.ask_two W z
      obtain ⟨m1, m2, m3⟩ := DS.two_lev h2
      obtain ⟨v, hv2⟩ := DS.two_came W h2
      obtain ⟨xc, hxc, oc⟩ := pr_at cP (W.acm m1)
      rw [hv2] at oc
      obtain ⟨q, rfl, hq⟩ := oc
      refine ⟨_, rfl, o, _, rfl, og_came e_o, _, rfl, o, _, rfl, og_lev e_o, .inl ⟨rfl, _, .of e2⟩, l2, _, .int 2, s.two, lvV (s.lv s.two), rfl, rfl, .of e2, rfl, lv_flat s.lev, alvV m1, by rw [eqV_lv, m2]; decide, fun m z' hm hz' => ?_, ?_⟩
      · rw [alvV (by omega)] at hz'
        cases hz'
        rw [eqV_lv]
        exact decide_eq_false (m3 m hm)
      have hlv : hv.length = s.lev.length := by rw [pr_len hP, W.lh]
      refine ⟨l1, cv, _, _, rfl, rfl, .of e1, atI_nat hxc, ?_⟩
      refine ⟨_, rfl, o, _, rfl, og_heard e_o, _, rfl, l5, hv, p, p, rfl, rfl, e5, ixn (by rw [hlv]; exact hp), ?_⟩
      have tk := TK.put (u := .lst (hv.set p (.ref q))) e5 (fun z => z)
      refine ⟨szl (by show 1 ≤ _; decide), fun t0 n0 => ?_⟩
      have g0 := same_new n0 (.tup [.str "word"])
      have e_o' : upd (upd H2 l5 (.lst (hv.set p (.ref q)))) t0 (.tup [.str "word"]) o = some (.dK (odict l1 l2 l3 l4 l5 (k0 + 1))) := g0 _ _ (by rw [upd_ne o5]; exact e_o)
      refine ⟨_, rfl, o, _, rfl, og_heard e_o', _, rfl, l5, _, _, .ref q, rfl, rfl, .of (g0 _ _ upd_same), atI_nat (by rw [List.getElem?_set]; simp [hlv, hp]), ?_⟩
      refine ⟨t0, q, [.str "word"], [v], rfl, rfl, .of upd_same, .of (g0 _ _ (tk.t hq)), szl (by show 1 + 1 ≤ _; decide), fun zn => (by cases zn), fun _ zn => (by cases zn), fun _ _ r nr => ?_⟩
      have gn := g0.trans (same_new nr (.tup ([.str "word"] ++ [v])))
      refine k r _ (((b2.put (p := l5) (by simp)).new n0).new nr) (by rw [et, hv2]; exact upd_same) (OwnAt.same ⟨l1, l2, l3, l4, l5, cv, hv.set p (.ref q), rfl, ?_⟩ gn)
      refine ⟨by rw [upd_ne o5]; exact e_o, by rw [upd_ne d15]; exact e1, ?_, ?_, by rw [upd_ne d35]; exact e3, ?_, upd_same, ?_, D.nd⟩
      · rw [came_s]; exact pr_imp (fun _ _ => One.mono tk) cP
      · rw [upd_ne d25, e2, es]
      · rw [upd_ne d45, e4, wns]
      · rw [es]; show Paired _ (hv.set p (.ref q)) (s.heard.set p (s.cm s.two)); rw [hv2]; exact pr_set (show One _ (.ref q) (some v) from ⟨q, rfl, tk.t hq⟩) p (pr_imp (fun _ _ => One.mono tk) hP)
abbrev s_law_drawn_deed : Stmt := top 38
theorem sc_law_drawn_deed : FnScope ["pot", "own", "player"] ["pot", "own"] (defScope s_law_drawn_deed) := ⟨rfl, rfl, rfl, by decide +kernel, rfl, by decide +kernel, by decide +kernel⟩
theorem ok_law_drawn_deed (F : Fun K "_law_drawn_deed" "_law_drawn_deed" s_law_drawn_deed f fd) (T : LTx mg) (G_law_take : Fd P w K mg base CX0 "_law_take" 1 ["pot", "upto"] spTake) (G_law_drawn_value : Fd P w K mg base CX0 "_law_drawn_value" 5 ["pot", "deep"] (spVal 3)) : FnOk P w K mg base CX0 6 f fd ["pot", "own"] spDeed := by
  refine F.ok sc_law_drawn_deed (fun vs H Q E h => ?_) (fun cdv A outer s H vs Q E hr h => ?_)
  · obtain ⟨pt, o, L, s, k, m, rfl, _⟩ := h
    rfl
  obtain ⟨pt, o, L, s, k0, m, rfl, hO, W, hpt, hP, hm, k⟩ := h
  refine ⟨_, (pss_cons (ps_set (i := 2) sc_law_drawn_deed.nd rfl (Or.inl rfl) (pe_fd G_law_take (hr.mono (by first | decide | omega)) rfl (pa_cons (pv 0) (pa_cons (pe_callB call_len rfl T.len (by decide +kernel) (pa_cons (pe_dget (hu_of hr) (pv 1) pe_str (fun _ _ => rfl)) pa_nil)) pa_nil))))
  (pss_cons (ps_if (pt_cmpR op_isN (pe_ix ix_list (pe_dget (hu_of hr) (pv 1) pe_str (fun _ _ => rfl)) (pv 2) (fun _ _ => rfl)) pe_non (nomark _)) (pss_one (ps_ret (pe_tup (pa_cons (pv 2) (pa_cons (pe_tup (pa_cons (pe_fd G_law_drawn_value (hr.mono (by first | decide | omega)) rfl (pa_cons (pv 0) (pa_cons pe_int pa_nil))) pa_nil)) pa_nil))))) pss_nil)
  (pss_one (ps_ret (pe_tup (pa_cons (pv 2) (pa_cons pe_non pa_nil))))))), ?_⟩
  have hO0 := hO
  obtain ⟨l1, l2, l3, l4, l5, cv, hv, rfl, D⟩ := hO0
  have hl : cv.length = s.lev.length := by rw [pr_len D.cameP, W.lc]
  have h1 := W.n1
  have h5 := W.n5
  refine ⟨_, rfl, _, rfl, o, _, rfl, og_came D.dict, _, cv.length, rfl, .inl ⟨_, .of D.came, rfl⟩, pt, cv.length, m, rfl, by omega, by omega, by omega, hP, fun p H1 hp g1 hP1 => ?_⟩
  have hp' : p < s.lev.length := by omega
  have tk1 : TK H H1 := TK.but g1 fun a ha z => by
    rw [List.mem_singleton.mp ha] at z
    obtain ⟨ys, e⟩ := hP.there
    rw [e] at z; exact z
  have hO1 := hO.but g1 (fun x hx => by rw [List.mem_singleton.mp hx]; exact hpt) tk1
  obtain ⟨l1', l2', l3', l4', l5', cv', hv', eL, D1⟩ := hO1
  obtain ⟨xc, hxc, oc⟩ := pr_at D1.cameP (W.acm hp')
  refine ⟨_, rfl, o, _, rfl, og_came D1.dict, _, rfl, l1', cv', _, _, rfl, rfl, .of D1.came, atI_nat hxc, rfl, _, rfl, ?_⟩
  rw [oc.is]
  cases hc : s.cm p with
  | none =>
    refine iteT ⟨_, rfl, _, rfl, pt, 2, m + 1, rfl, by decide, by decide, by show m + 1 + 26 ≤ _; omega, hP1, fun v d H2 g2 hv hd hP2 => ?_⟩
    refine ⟨szl (by show 1 ≤ _; decide), fun q nq => ⟨szl (by show 2 ≤ _; decide), fun t nt => ?_⟩⟩
    have gq := same_new nq (.tup [v])
    have gt := same_new nt (.tup [.int p, .ref q])
    refine k t p _ (((g1.trans g2).new nq).new nt) ?_ hp' (.inl ⟨hc, q, v, upd_same, gt _ _ upd_same, d, hv.mono ((TK.of gq).trans (.of gt)), hd⟩)
    obtain ⟨a, b, c, x1, x2, x3, x4, x5⟩ := hP2
    exact ⟨a, b, c, gt _ _ (gq _ _ x1), x2, x3, x4, by have : vc 2 = 26 := rfl; omega⟩
  | some v =>
    refine iteF ⟨_, rfl, szl (by show 2 ≤ _; decide), fun t nt => ?_⟩
    have gt := same_new nt (.tup [.int p, .non])
    refine k t p _ (g1.new nt) ?_ hp' (.inr ⟨by rw [hc]; simp, upd_same⟩)
    obtain ⟨a, b, c, x1, x2, x3, x4, x5⟩ := hP1
    exact ⟨a, b, c, gt _ _ x1, x2, x3, x4, by omega⟩
end
end Fp
namespace Fp
open PySem PySem.Spec PyProof.Rows L2
theorem u65 {k : Nat} {A : Around} (r : Room k A) : A.units + 65 < cLine := by have := r.un; omega
/-! ### rules that may stand within a comprehension -/
theorem op_eqDK {X : Cx} {K : PySem.W.Frag} (hu : X.A.units + 64 < cLine) (e : X.K = K := by rfl) : OpR X (compareOp .Eq) (rEqD K) := by subst e; exact op_eqD hu
theorem op_neDK {X : Cx} {K : PySem.W.Frag} (hu : X.A.units + 64 < cLine) (e : X.K = K := by rfl) : OpR X (compareOp .NotEq) (rNeD K) := by subst e; exact op_neD hu
theorem ix_tupK {X : Cx} {K : PySem.W.Frag} (e : X.K = K := by rfl) : IxR X (rIxT K) := by subst e; exact ix_tup
theorem ix_listK {X : Cx} {K : PySem.W.Frag} (e : X.K = K := by rfl) : IxR X (rIxL K) := by subst e; exact ix_list
def rRepr (K : PySem.W.Frag) : List V → Hp → VK → Prop := fun xs H Q => ∃ (x : V) (d : PyData) (k n : Nat), xs = [x] ∧ Dp K H x d ∧ Sm k n d ∧ k ≤ 64 ∧ n ≤ 1000000 ∧ Q (.str d.shown) H
theorem call_reprK {X : Cx} {K : PySem.W.Frag} (hgu : X.A.guards = some []) (hu : X.A.units + 66 < cLine) (e : X.K = K := by rfl) : CallR X (.builtin "repr") (rRepr K) := by subst e; exact call_reprA hgu hu
theorem pe_fldK {X : Cx} {K : PySem.W.Frag} {o : Expr} {f : Str} {pos : Pos} {to : TE} (h : PE X (.Attribute o f pos) (tFld X.K to f)) (e : X.K = K := by rfl) : PE X (.Attribute o f pos) (tFld K to f) := by subst e; exact h
/-! ### what is told, as data -/
def TOk (H : Hp) : Told → Prop
  | .level i => 0 ≤ i ∧ i ≤ 2
  | .look l => l.length ≤ 5 ∧ ∀ x, some x ∈ l → 0 ≤ x ∧ x ≤ 2
  | .wait => True
  | .word v => Good H v
theorem TOk.mono {H H' : Hp} (g : TK H H') {x : Told} (h : TOk H x) : TOk H' x := by
  cases x with
  | level i => exact h
  | look l => exact h
  | wait => exact h
  | word v => exact Good.mono g h
theorem DS.WF.small {s : DS} (W : s.WF) : s.lev.length ≤ 5 ∧ ∀ x, some x ∈ s.lev → 0 ≤ x ∧ x ≤ 2 := ⟨W.n5, fun x h => by
  obtain ⟨q, hq⟩ := mem_getD.mp h
  rcases W.vals q x hq with rfl | rfl | rfl <;> decide⟩
theorem DoorAt.tok {C : Addr} {H : Hp} {d : Addr} {s : DS} {p : Nat} (h : DoorAt C H d s) : TOk H (s.told p) := by
  obtain ⟨dx, a, b, c, e, f, cv, hv, sv, dv, D⟩ := h
  have W := D.wf
  have h4 := DS.stg_lt s p
  rcases (show s.stg p = 0 ∨ s.stg p = 1 ∨ s.stg p = 2 ∨ s.stg p = 3 by omega) with z | z | z | z
  · rw [DS.told0 z]; exact ⟨by decide, by decide⟩
  · rw [DS.told1 z]; exact W.small
  · rw [DS.told2 z]; rcases DS.wr02 s p with ⟨e, _⟩ | ⟨e, _⟩ <;> rw [e] <;> exact ⟨by decide, by decide⟩
  · rw [DS.told3 z]; split
    · trivial
    · obtain ⟨v, hv⟩ := DS.two_came W (DS.ask_two W z)
      rw [hv]
      exact D.good _ _ hv
def lvD : Lv → PyData
  | none => .none
  | some i => .int i
theorem lv_dp {K : PySem.W.Frag} {H : Hp} : ∀ l : List Lv, DpAll K H (l.map lvV) (l.map lvD)
  | [] => .nil
  | none :: l => .cons .non (lv_dp l)
  | some i :: l => .cons (.int i) (lv_dp l)
theorem lv_sms {l : List Lv} (h : ∀ x, some x ∈ l → 0 ≤ x ∧ x ≤ 2) (hl : l.length ≤ 5) : Sms 1 5 (l.map lvD) := by
  refine (Sms.all (k := 1) (n := 0) fun d hd => ?_).mono (Nat.le_refl _) (by rw [List.length_map]; omega)
  obtain ⟨x, hx, rfl⟩ := List.mem_map.mp hd
  cases x with
  | none => exact Sm.non
  | some i => have := h i hx; exact Sm.int (by omega) (by omega)
theorem Good.dp {K : PySem.W.Frag} {H : Hp} {v : V} (h : Good H v) : ∃ d, Dp K H v d ∧ Sm 4 39 d := by
  obtain ⟨d, a, b⟩ := h
  exact ⟨d, a.dp, b.sm⟩
theorem sm_word (z : Str) (h : (decide (z.cps.size ≤ 10) && z.cps.toList.all (fun c => decide (c < 16 ^ 8)) && PyData.strOk z) = true) : Sm 1 10 (.str z) := by
  rw [Bool.and_eq_true, Bool.and_eq_true] at h
  exact Sm.str (of_decide_eq_true h.1.1) h.1.2 h.2
/-- what is told, as one data, wherever it stands -/
theorem told_data {H : Hp} {x : Told} (o : TOk H x) : ∃ d, Sm 6 100 d ∧ ∀ (K : PySem.W.Frag) (H' : Hp) (t : Addr), TK H H' → ToldAt H' t x → Dp K H' (.ref t) d := by
  cases x with
  | level i =>
    refine ⟨.tuple [.str "level", .int i], ?_, fun K H' t _ h => .tup (.of h) (.cons (.str _) (.cons (.int _) .nil))⟩
    exact (Sms.tup (.cons (sm_word _ (by decide +kernel)) (.cons ((Sm.int (i := i) (by have := o.1; omega) (by have := o.2; omega)).mono (Nat.le_refl 1) (Nat.le_refl 0)) (Sms.nil (n := 0))))).mono (by decide) (by decide)
  | look l =>
    refine ⟨.tuple [.str "look", .tuple (l.map lvD)], ?_, fun K H' t _ h => by obtain ⟨q, a, b⟩ := h; exact .tup (.of a) (.cons (.str _) (.cons (.tup b.sq (lv_dp l)) .nil))⟩
    exact (Sms.tup (.cons ((sm_word "look" (by decide +kernel)).mono (by decide : 1 ≤ 2) (Nat.le_refl 10)) (.cons (lv_sms o.2 o.1).tup (Sms.nil (n := 0))))).mono (by decide) (by decide)
  | wait =>
    refine ⟨.tuple [.str "wait"], ?_, fun K H' t _ h => .tup (.of h) (.cons (.str _) .nil)⟩
    exact (Sms.tup (.cons (sm_word "wait" (by decide +kernel)) (Sms.nil (n := 0)))).mono (by decide) (by decide)
  | word v =>
    obtain ⟨d, hd, ho⟩ := o
    refine ⟨.tuple [.str "word", d], ?_, fun K H' t g h => .tup (.of h) (.cons (.str _) (.cons (hd.mono g).dp .nil))⟩
    exact (Sms.tup (.cons ((sm_word "word" (by decide +kernel)).mono (by decide : 1 ≤ 4) (Nat.le_refl 10)) (.cons ho.sm (Sms.nil (n := 0))))).mono (by decide) (by decide)
/-- two tellings of one thing are one in data -/
theorem told_two {K : PySem.W.Frag} {H : Hp} {t1 t2 : Addr} {x : Told} (h1 : ToldAt H t1 x) (h2 : ToldAt H t2 x) (o : TOk H x) : ∃ d, Dp K H (.ref t1) d ∧ Dp K H (.ref t2) d ∧ Sm 6 100 d := by
  cases x with
  | level i =>
    refine ⟨.tuple [.str "level", .int i], .tup (.of h1) (.cons (.str _) (.cons (.int _) .nil)), .tup (.of h2) (.cons (.str _) (.cons (.int _) .nil)), ?_⟩
    exact (Sms.tup (.cons (sm_word _ (by decide +kernel)) (.cons ((Sm.int (i := i) (by have := o.1; omega) (by have := o.2; omega)).mono (Nat.le_refl 1) (Nat.le_refl 0)) (Sms.nil (n := 0))))).mono (by decide) (by decide)
  | look l =>
    obtain ⟨q1, a1, b1⟩ := h1
    obtain ⟨q2, a2, b2⟩ := h2
    refine ⟨.tuple [.str "look", .tuple (l.map lvD)], .tup (.of a1) (.cons (.str _) (.cons (.tup b1.sq (lv_dp l)) .nil)), .tup (.of a2) (.cons (.str _) (.cons (.tup b2.sq (lv_dp l)) .nil)), ?_⟩
    exact (Sms.tup (.cons ((sm_word "look" (by decide +kernel)).mono (by decide : 1 ≤ 2) (Nat.le_refl 10)) (.cons (lv_sms o.2 o.1).tup (Sms.nil (n := 0))))).mono (by decide) (by decide)
  | wait =>
    refine ⟨.tuple [.str "wait"], .tup (.of h1) (.cons (.str _) .nil), .tup (.of h2) (.cons (.str _) .nil), ?_⟩
    exact (Sms.tup (.cons (sm_word "wait" (by decide +kernel)) (Sms.nil (n := 0)))).mono (by decide) (by decide)
  | word v =>
    obtain ⟨d, hd, sm⟩ := Good.dp (K := K) o
    refine ⟨.tuple [.str "word", d], .tup (.of h1) (.cons (.str _) (.cons hd .nil)), .tup (.of h2) (.cons (.str _) (.cons hd .nil)), ?_⟩
    exact (Sms.tup (.cons ((sm_word "word" (by decide +kernel)).mono (by decide : 1 ≤ 4) (Nat.le_refl 10)) (.cons sm (Sms.nil (n := 0))))).mono (by decide) (by decide)
/-! ### lots of players -/
def natV (l : List Nat) : List V := l.map fun (p : Nat) => V.int (p : Int)
theorem natV_dp {K : PySem.W.Frag} {H : Hp} : ∀ l : List Nat, DpAll K H (natV l) (l.map fun (p : Nat) => PyData.int (p : Int))
  | [] => .nil
  | p :: l => .cons (.int _) (natV_dp l)
theorem natV_sm {l : List Nat} (h : ∀ p ∈ l, p ≤ 5) (hl : l.length ≤ 5) : Sm 2 5 (.tuple (l.map fun (p : Nat) => PyData.int (p : Int))) := by
  refine (Sms.all (k := 1) (n := 0) fun d hd => ?_).tup.mono (Nat.le_refl _) (by rw [List.length_map]; omega)
  obtain ⟨x, hx, rfl⟩ := List.mem_map.mp hd
  have := h x hx
  exact Sm.int (by omega) (by omega)
theorem held_small {s : DS} (W : s.WF) : (∀ p ∈ s.held, p ≤ 5) ∧ s.held.length ≤ 5 := by
  have h5 := W.n5
  refine ⟨fun p hp => ?_, ?_⟩
  · have := List.mem_range.mp (List.mem_filter.mp hp).1
    omega
  · have := List.length_filter_le (fun p => decide (s.lv p = some 1)) (List.range s.lev.length)
    rw [List.length_range] at this
    unfold DS.held
    omega
/-! ### a law's state: a door, an own door, a pot -/
theorem But.into {S T : List Addr} {H0 H H' : Hp} (a : But S H0 H) (b : But T H H') (h : ∀ x ∈ T, H0 x = none ∨ x ∈ S) : But S H0 H' := fun c o n e => b c o (fun m => by
  rcases h c m with z | z
  · rw [z] at e; cases e
  · exact n z) (a c o n e)
theorem But.free {pt d : Addr} {H H1 : Hp} (g : But [pt] H H1) (hp : H1 pt ≠ none) (h : H1 d = none) : H d = none := by
  cases e : H d with
  | none => rfl
  | some o =>
    have := g d o (by simp only [List.mem_singleton]; intro z; exact hp (z ▸ h)) e
    rw [h] at this; cases this
theorem PotAt.ne0 {H : Hp} {p : Addr} {n : Nat} (h : PotAt H p n) : H p ≠ none := by
  obtain ⟨xs, e⟩ := h.there
  rw [e]; simp
structure Sta (C : Addr) (H0 : Hp) (pt d o : Addr) (L : List Addr) (H : Hp) (s1 s2 : DS) (m : Nat) (q : Nat) : Prop where
  fr : But [pt] H0 H
  door : DoorAt C H d s1
  own : ∃ k, OwnAt H o L s2 k
  pot : PotAt H pt m
  p0 : H0 pt ≠ none
  d0 : H0 d = none
  L0 : ∀ x ∈ L, H0 x = none
  dl : s1.deeds.length ≤ q
theorem DoorAt.ins {C : Addr} {H : Hp} {d : Addr} {s : DS} (h : DoorAt C H d s) : ∃ dx fs, H d = some (.ins C dx fs) := by
  obtain ⟨dx, a, b, c, e, f, cv, hv, sv, dv, D⟩ := h
  exact ⟨_, _, D.obj⟩
theorem DoorAt.tk {C : Addr} {H H' : Hp} {d : Addr} {s : DS} (h : DoorAt C H d s) (g : But [d] H H') : TK H H' := TK.but g fun a ha z => by
  obtain ⟨dx, fs, e⟩ := h.ins
  rw [List.mem_singleton.mp ha, e] at z
  exact z
theorem PotAt.tk {H H' : Hp} {pt : Addr} {m : Nat} (h : PotAt H pt m) (g : But [pt] H H') : TK H H' := TK.but g fun a ha z => by
  obtain ⟨xs, e⟩ := h.there
  rw [List.mem_singleton.mp ha, e] at z
  exact z
theorem OwnAt.tk {H H' : Hp} {o : Addr} {L : List Addr} {s : DS} {k : Int} (h : OwnAt H o L s k) (g : But L H H') : TK H H' := TK.but g fun a ha z => by
  rcases h.kind a ha with ⟨xs, e⟩ | ⟨xs, e⟩ <;> rw [e] at z <;> exact z
theorem PotAt.but {H H' : Hp} {pt : Addr} {m : Nat} {S : List Addr} (h : PotAt H pt m) (g : But S H H') (n : pt ∉ S) : PotAt H' pt m := by
  obtain ⟨a, b, c, e, r⟩ := h
  exact ⟨a, b, c, g _ _ n e, r⟩
section
variable {C : Addr} {H0 H H' : Hp} {pt d o : Addr} {L : List Addr} {s1 s2 s' : DS} {m m' q q' : Nat}
theorem Sta.ptL (S : Sta C H0 pt d o L H s1 s2 m q) : pt ∉ L := fun z => S.p0 (S.L0 _ z)
theorem Sta.dL (S : Sta C H0 pt d o L H s1 s2 m q) : d ∉ L := fun z => by
  obtain ⟨k, O⟩ := S.own
  obtain ⟨dx, fs, e⟩ := S.door.ins
  rcases O.kind d z with ⟨xs, e2⟩ | ⟨xs, e2⟩ <;> rw [e] at e2 <;> cases e2
theorem Sta.ptd (S : Sta C H0 pt d o L H s1 s2 m q) : pt ≠ d := fun z => S.p0 (by rw [z]; exact S.d0)
theorem Sta.same (S : Sta C H0 pt d o L H s1 s2 m q) (g : Same H H') : Sta C H0 pt d o L H' s1 s2 m q :=
  ⟨S.fr.trans (.of g), S.door.same g, let ⟨k, O⟩ := S.own; ⟨k, O.same g⟩, S.pot.but (.of (S := []) g) (by simp), S.p0, S.d0, S.L0, S.dl⟩
theorem Sta.take (S : Sta C H0 pt d o L H s1 s2 m q) (g : But [pt] H H') (hp : PotAt H' pt m') : Sta C H0 pt d o L H' s1 s2 m' q :=
  ⟨S.fr.trans g, S.door.but g fun x hx => by rw [List.mem_singleton.mp hx]; exact .inl S.pot.there, let ⟨k, O⟩ := S.own; ⟨k, O.but g (fun x hx => by rw [List.mem_singleton.mp hx]; exact S.ptL) (S.pot.tk g)⟩, hp, S.p0, S.d0, S.L0, S.dl⟩
theorem Sta.stepD (S : Sta C H0 pt d o L H s1 s2 m q) (g : But [d] H H') (hd : DoorAt C H' d s') (hl : s'.deeds.length ≤ q') : Sta C H0 pt d o L H' s' s2 m q' :=
  ⟨S.fr.into g fun x hx => by rw [List.mem_singleton.mp hx]; exact .inl S.d0, hd, let ⟨k, O⟩ := S.own; ⟨k, O.but g (fun x hx => by rw [List.mem_singleton.mp hx]; exact S.dL) (S.door.tk g)⟩, S.pot.but g (by simpa using S.ptd), S.p0, S.d0, S.L0, hl⟩
theorem Sta.stepO (S : Sta C H0 pt d o L H s1 s2 m q) (g : But L H H') {k : Int} (ho : OwnAt H' o L s' k) : Sta C H0 pt d o L H' s1 s' m q :=
  ⟨S.fr.into g fun x hx => .inl (S.L0 x hx), let ⟨k, O⟩ := S.own; S.door.but g O.kind, ⟨k, ho⟩, S.pot.but g S.ptL, S.p0, S.d0, S.L0, S.dl⟩
end
theorem deeds_step {s : DS} {p : Nat} : (s.step p).deeds.length = s.deeds.length + 1 := by
  unfold DS.step
  split <;> (try split) <;> simp
theorem deeds_come {s : DS} {p : Nat} {v : V} : (s.come p v).deeds.length = s.deeds.length + 1 := by simp [DS.come]
theorem DoorAt.ob {C : Addr} {H : Hp} {d : Addr} {s : DS} (h : DoorAt C H d s) : ∃ dx fs, H d = some (.ins C dx fs) ∧ fs.lookup ("step" : Str) = none ∧ fs.lookup ("come" : Str) = none ∧ fs.lookup ("next" : Str) = none ∧ fs.lookup ("copy" : Str) = none := by
  obtain ⟨dx, a, b, c, e, f, cv, hv, sv, dv, D⟩ := h
  exact ⟨_, _, D.obj, no_step, no_come, no_next, no_copy⟩
theorem DS.lv_other {s : DS} {p q : Nat} (W : s.WF) (hc : s.cm p ≠ none) (h : p ≠ q) : (s.step p).lv q = s.lv q := by
  have hp := DS.lt_of_cm W hc
  have h4 := DS.stg_lt s p
  rcases (show s.stg p = 0 ∨ s.stg p = 1 ∨ s.stg p = 2 ∨ s.stg p = 3 by omega) with e | e | e | e
  · rw [DS.lv_step0 e hp, if_neg h]
  · rw [DS.lv_step1 e]
  · rw [DS.lv_step2 e hp, if_neg h]
  · rw [DS.lv_step3 e]
theorem natV_rep (n : Nat) (l : List Nat) : (List.replicate n (natV l)).flatten = natV (List.replicate n l).flatten := by
  unfold natV
  rw [List.map_flatten, List.map_replicate]
theorem count_rep (n p : Nat) (l : List Nat) (h : p ∈ l) : n ≤ (List.replicate n l).flatten.count p := by
  induction n with
  | zero => omega
  | succ n ih =>
    rw [List.replicate_succ, List.flatten_cons, List.count_append]
    have := List.count_pos_iff.mpr h
    omega
theorem mem_rep {n p : Nat} {l : List Nat} (h : p ∈ (List.replicate n l).flatten) : p ∈ l := by
  obtain ⟨x, hx, hp⟩ := List.mem_flatten.mp h
  rw [(List.mem_replicate.mp hx).2] at hp
  exact hp
theorem natV_get {l : List Nat} {i : Nat} {x : V} (h : (natV l)[i]? = some x) : ∃ p, l[i]? = some p ∧ x = .int (p : Int) := by
  unfold natV at h
  rw [List.getElem?_map] at h
  cases e : l[i]? with
  | none => rw [e] at h; cases h
  | some p => rw [e] at h; cases h; exact ⟨p, rfl, rfl⟩
theorem take_snoc {l : List Nat} {i p : Nat} (h : l[i]? = some p) : l.take (i + 1) = l.take i ++ [p] := by
  rw [List.take_add_one, h]; rfl
theorem rep_len (n : Nat) (l : List Nat) : (List.replicate n l).flatten.length = n * l.length := by simp
theorem two_str {a b : Str} (h : a = b) : (!decide (V.str a = V.str b)) = false := by rw [h]; simp
theorem Fst {H : Hp} {t : Addr} {x : Told} (h : ToldAt H t x) : ∃ ys, H t = some (.tup (.str (match x with | .level _ => "level" | .look _ => "look" | .wait => "wait" | .word _ => "word") :: ys)) := by
  cases x with
  | level i => exact ⟨_, h⟩
  | look l => obtain ⟨q, h, _⟩ := h; exact ⟨_, h⟩
  | wait => exact ⟨_, h⟩
  | word v => exact ⟨_, h⟩
theorem stg_ge {s : DS} {p q : Nat} {l : List Nat} (W : s.WF) (hc : s.cm p ≠ none) (h : min 3 (l.count q) ≤ s.stg q) : min 3 ((l ++ [p]).count q) ≤ (s.step p).stg q := by
  rw [DS.stg_step W hc, List.count_append, List.count_singleton]
  by_cases e : p = q
  · subst e; simp; omega
  · rw [if_neg e]; simp [e]; omega
/-- a door and an own door are made -/
theorem Sta.make {C : Addr} {H H1 H2 H3 : Hp} {pt d dx o : Addr} {L : List Addr} {N m : Nat} (hP : PotAt H pt 0) (g1 : But [pt] H H1) (hP1 : PotAt H1 pt m) (hd : H1 d = none) (hdx : H1 dx = none) (hne : dx ≠ d)
    (b : But [d] (upd (upd H1 dx (.own d)) d (.ins C dx [])) H2) (D : DoorAt C H2 d (DS.new N)) (g3 : Same H2 H3) (hL : ∀ x ∈ L, H2 x = none) (O : OwnAt H3 o L (DS.new N) 0) : Sta C H pt d o L H3 (DS.new N) (DS.new N) m 0 := by
  have g2 : Same H1 (upd (upd H1 dx (.own d)) d (.ins C dx [])) := (same_new hdx _).trans (same_new (by rw [upd_ne (Ne.symm hne)]; exact hd) _)
  have pd : pt ≠ d := fun z => hP1.ne0 (by rw [z]; exact hd)
  have fr2 : But [pt] H H2 := (g1.trans (.of g2)).into b fun x hx => by rw [List.mem_singleton.mp hx]; exact .inl (g1.free hP1.ne0 hd)
  have hP2 : PotAt H2 pt m := (hP1.but (.of (S := []) g2) (by simp)).but b (by simpa using pd)
  exact ⟨fr2.trans (.of g3), D.same g3, ⟨_, O⟩, hP2.but (.of (S := []) g3) (by simp), hP.ne0, g1.free hP1.ne0 hd, fun x hx => fr2.free hP2.ne0 (hL x hx), Nat.le_refl _⟩
theorem filter_one : ∀ N, N ≤ 5 → ∀ st, st < N → (List.range N).filter (fun p => decide (p = st)) = [st] := by decide
theorem eqv_self_nat (l : List Nat) : PyData.eqv (.tuple (l.map fun (p : Nat) => PyData.int (p : Int))) (.tuple (l.map fun (p : Nat) => PyData.int (p : Int))) = true := by
  have h : ∀ l : List Nat, PyData.eqvAll (l.map fun (p : Nat) => PyData.int (p : Int)) (l.map fun (p : Nat) => PyData.int (p : Int)) = true := fun l => by
    induction l with
    | nil => simp [PyData.eqvAll]
    | cons a r ih => simp [PyData.eqvAll, PyData.eqv, ih]
  simp only [PyData.eqv]
  exact h l
theorem held_none {s : DS} (h : ∀ p, p < s.lev.length → s.lv p ≠ some 1) : s.held = [] := by
  unfold DS.held
  rw [List.filter_eq_nil_iff]
  intro p hp
  simpa using h p (List.mem_range.mp hp)
theorem held_only {s : DS} (W : s.WF) {st : Nat} (hst : st < s.lev.length) (h1 : s.lv st = some 1) (h : ∀ p, p < s.lev.length → p ≠ st → s.lv p ≠ some 1) : s.held = [st] := by
  unfold DS.held
  rw [← filter_one _ W.n5 st hst]
  refine List.filter_congr fun p hp => ?_
  rw [decide_eq_decide]
  constructor
  · intro z
    by_cases e : p = st
    · exact e
    · exact absurd z (h p (List.mem_range.mp hp) e)
  · intro z; rw [z]; exact h1
theorem lv_of3 {s : DS} {p : Nat} (h : s.stg p = 3) : s.lv p ≠ some 1 := by
  obtain ⟨x, hx, h1⟩ := DS.stg3.mp h
  rw [hx]; intro z; injection z with z; exact h1 z
theorem Sta.put {C : Addr} {H0 H : Hp} {pt d o D : Addr} {L : List Addr} {s1 s2 : DS} {m q : Nat} {xs ys : List V} (S : Sta C H0 pt d o L H s1 s2 m q) (h : H D = some (.lst xs)) (n0 : H0 D = none) (nL : D ∉ L) : Sta C H0 pt d o L (upd H D (.lst ys)) s1 s2 m q := by
  have g : But [D] H (upd H D (.lst ys)) := (But.refl _ _).put (by simp)
  have np : pt ≠ D := fun z => S.p0 (by rw [z]; exact n0)
  have tk : TK H (upd H D (.lst ys)) := .put h fun z => z
  exact ⟨S.fr.into g fun x hx => by rw [List.mem_singleton.mp hx]; exact .inl n0, S.door.but g fun x hx => by rw [List.mem_singleton.mp hx]; exact .inl ⟨_, h⟩,
    let ⟨k, O⟩ := S.own; ⟨k, O.but g (fun x hx => by rw [List.mem_singleton.mp hx]; exact nL) tk⟩, S.pot.but g (by simpa using np), S.p0, S.d0, S.L0, S.dl⟩
/-- an address that is new is none of the state's -/
theorem Sta.new {C : Addr} {H0 H : Hp} {pt d o D : Addr} {L : List Addr} {s1 s2 : DS} {m q : Nat} (S : Sta C H0 pt d o L H s1 s2 m q) (h : H D = none) : H0 D = none ∧ D ∉ L ∧ D ≠ d ∧ D ≠ pt := by
  obtain ⟨k, O⟩ := S.own
  refine ⟨S.fr.free S.pot.ne0 h, fun z => ?_, fun z => ?_, fun z => S.pot.ne0 (by rw [← z]; exact h)⟩
  · rcases O.kind D z with ⟨ys, e⟩ | ⟨ys, e⟩ <;> rw [e] at h <;> cases h
  · obtain ⟨dx', fs, e⟩ := S.door.ins; rw [z, e] at h; cases h
theorem Sta.up {C : Addr} {H0 H : Hp} {pt d o : Addr} {L : List Addr} {s1 s2 : DS} {m q m' q' : Nat} (S : Sta C H0 pt d o L H s1 s2 m q) (hm : m ≤ m') (hq : q ≤ q') : Sta C H0 pt d o L H s1 s2 m' q' :=
  ⟨S.fr, S.door, S.own, S.pot.mono hm, S.p0, S.d0, S.L0, Nat.le_trans S.dl hq⟩
/-! ### one word -/
def DS.hd (s : DS) (p : Nat) : Option V := s.heard.getD p none
def DS.Closed (s : DS) : Prop := (∃ q, s.lv q = some 2) ∧ ∀ p, s.stg p = 2 → s.saw p = true
section
variable {s : DS} {p : Nat} {v : V}
theorem DS.hd_new (n p : Nat) : (DS.new n).hd p = none := DS.rep_none n p
theorem DS.hd_come (q : Nat) : (s.come p v).hd q = s.hd q := rfl
theorem DS.hd_step (W : s.WF) (hc : s.cm p ≠ none) (q : Nat) : (s.step p).hd q = if p = q ∧ s.stg p = 3 ∧ some 1 ∉ s.lev then s.cm s.two else s.hd q := by
  have hp := DS.lt_of_cm W hc
  have h4 := DS.stg_lt s p
  rcases (show s.stg p = 0 ∨ s.stg p = 1 ∨ s.stg p = 2 ∨ s.stg p = 3 by omega) with e | e | e | e
  · rw [if_neg (by omega)]; unfold DS.hd; rw [DS.step0 e]
  · rw [if_neg (by omega)]; unfold DS.hd; rw [DS.step1 e]
  · rw [if_neg (by omega)]; unfold DS.hd; rw [DS.step2 e]
  · unfold DS.hd
    rw [DS.step3 e]
    by_cases z : some 1 ∈ s.lev
    · rw [if_pos z, if_neg (by intro h; exact h.2.2 z)]
    · rw [if_neg z]
      show (s.heard.set p (s.cm s.two)).getD q none = _
      rw [getD_set]
      by_cases h : p = q
      · rw [if_pos ⟨h, by rw [W.lh]; exact hp⟩, if_pos ⟨h, e, z⟩]
      · rw [if_neg (fun h' => h h'.1), if_neg (fun h' => h h'.1)]
theorem closed_of (h : ∃ q, s.lv q = some 2) (n : some 1 ∉ s.lev) : s.Closed := ⟨h, fun p hp => absurd (mem_getD.mpr ⟨p, (DS.stg2.mp hp).1⟩) n⟩
theorem DS.Closed.step (c : s.Closed) (W : s.WF) (hc : s.cm p ≠ none) : (s.step p).Closed ∧ (s.step p).two = s.two := by
  have hp := DS.lt_of_cm W hc
  have hps : p < s.seen.length := by rw [W.ls]; exact hp
  have h4 := DS.stg_lt s p
  have k2 := DS.has2_step W hc c.1
  rcases (show s.stg p = 0 ∨ s.stg p = 1 ∨ s.stg p = 2 ∨ s.stg p = 3 by omega) with e | e | e | e
  · refine ⟨⟨k2, fun q hq => ?_⟩, DS.two_same DS.len_step fun q => ?_⟩
    · rw [DS.stg_step W hc] at hq
      have hne : p ≠ q := by intro z; rw [if_pos z, e] at hq; cases hq
      rw [if_neg hne] at hq
      unfold DS.saw; rw [DS.sn_stepN (by omega)]; exact c.2 q hq
    · rw [DS.lv_step0 e hp]; split
      · rename_i z; subst z; rw [DS.stg0.mp e]; simp
      · rfl
  · refine ⟨⟨k2, fun q hq => ?_⟩, DS.two_same DS.len_step fun q => by rw [DS.lv_step1 e]⟩
    rw [DS.stg_step W hc] at hq
    unfold DS.saw; rw [DS.sn_step1 e hps]
    by_cases z : p = q
    · rw [if_pos z]; exact decide_eq_true (mem_getD.mpr c.1)
    · rw [if_neg z] at hq ⊢; exact c.2 q hq
  · have sw := c.2 p e
    have ew : s.wr p = 0 := by unfold DS.wr; rw [if_pos sw]
    refine ⟨⟨k2, fun q hq => ?_⟩, DS.two_same DS.len_step fun q => ?_⟩
    · rw [DS.stg_step W hc] at hq
      have hne : p ≠ q := by intro z; rw [if_pos z, e] at hq; cases hq
      rw [if_neg hne] at hq
      unfold DS.saw; rw [DS.sn_stepN (by omega)]; exact c.2 q hq
    · rw [DS.lv_step2 e hp]; split
      · rename_i z; subst z; rw [ew, (DS.stg2.mp e).1]; simp
      · rfl
  · refine ⟨⟨k2, fun q hq => ?_⟩, DS.two_same DS.len_step fun q => by rw [DS.lv_step3 e]⟩
    rw [DS.stg_step W hc] at hq
    have hne : p ≠ q := by intro z; rw [if_pos z, e] at hq; cases hq
    rw [if_neg hne] at hq
    unfold DS.saw; rw [DS.sn_stepN (by omega)]; exact c.2 q hq
theorem DS.Closed.come (c : s.Closed) : (s.come p v).Closed ∧ (s.come p v).two = s.two := ⟨c, rfl⟩
theorem stg_out (W : s.WF) (h : s.cm p = none) : s.stg p = 0 := by
  refine DS.stg0.mpr ?_
  cases e : s.lv p with
  | none => rfl
  | some x => exact absurd h (W.cmv p (by rw [e]; simp))
end
/-! ### lists of players -/
def unV : V → Nat
  | .int i => i.toNat
  | _ => 0
theorem natV_perm {ys : List V} {R : List Nat} (h : ys.Perm (natV R)) : ∃ Y : List Nat, ys = natV Y ∧ Y.Perm R := by
  refine ⟨ys.map unV, ?_, ?_⟩
  · unfold natV
    rw [List.map_map]
    conv => lhs; rw [← List.map_id ys]
    refine List.map_congr_left fun x hx => ?_
    have := h.mem_iff.mp hx
    unfold natV at this
    obtain ⟨p, _, rfl⟩ := List.mem_map.mp this
    show V.int p = V.int ((unV (V.int p) : Nat) : Int)
    unfold unV
    simp
  · have := h.map unV
    refine this.trans ?_
    have e : (natV R).map unV = R := by
      unfold natV
      rw [List.map_map]
      conv => rhs; rw [← List.map_id R]
      refine List.map_congr_left fun x _ => ?_
      show unV (V.int x) = x
      unfold unV
      simp
    rw [e]
/-! ### a door and a pot -/
structure Dn (C : Addr) (H : Hp) (pt d : Addr) (s : DS) (m q : Nat) : Prop where
  door : DoorAt C H d s
  pot : PotAt H pt m
  dl : s.deeds.length ≤ q
section
variable {C : Addr} {H H' : Hp} {pt d D : Addr} {s s' : DS} {m m' q q' : Nat}
theorem Dn.ptd (S : Dn C H pt d s m q) : pt ≠ d := fun z => by
  obtain ⟨dx, fs, e⟩ := S.door.ins
  obtain ⟨xs, e2⟩ := S.pot.there
  rw [z, e] at e2; cases e2
theorem Dn.same (S : Dn C H pt d s m q) (g : Same H H') : Dn C H' pt d s m q := ⟨S.door.same g, S.pot.but (.of (S := []) g) (by simp), S.dl⟩
theorem Dn.take (S : Dn C H pt d s m q) (g : But [pt] H H') (hp : PotAt H' pt m') : Dn C H' pt d s m' q := ⟨S.door.but g fun x hx => by rw [List.mem_singleton.mp hx]; exact .inl S.pot.there, hp, S.dl⟩
theorem Dn.stepD (S : Dn C H pt d s m q) (g : But [d] H H') (hd : DoorAt C H' d s') (hl : s'.deeds.length ≤ q') : Dn C H' pt d s' m q' := ⟨hd, S.pot.but g (by simpa using S.ptd), hl⟩
theorem Dn.put {xs ys : List V} (S : Dn C H pt d s m q) (h : H D = some (.lst xs)) (n : D ≠ pt) : Dn C (upd H D (.lst ys)) pt d s m q := by
  have g : But [D] H (upd H D (.lst ys)) := (But.refl _ _).put (by simp)
  exact ⟨S.door.but g fun x hx => by rw [List.mem_singleton.mp hx]; exact .inl ⟨_, h⟩, S.pot.but g (by simpa using n.symm), S.dl⟩
theorem Dn.new (S : Dn C H pt d s m q) (h : H D = none) : D ≠ d ∧ D ≠ pt := ⟨fun z => (by obtain ⟨dx', fs, e⟩ := S.door.ins; rw [z, e] at h; cases h), fun z => S.pot.ne0 (by rw [← z]; exact h)⟩
theorem Dn.up (S : Dn C H pt d s m q) (hm : m ≤ m') (hq : q ≤ q') : Dn C H pt d s m' q' := ⟨S.door, S.pot.mono hm, Nat.le_trans S.dl hq⟩
end
/-- how often a place was asked from lap 8 on -/
def laps (e j i : Nat) : Nat := ((List.range i).filter fun l => decide (8 ≤ l ∧ l % e = j)).length
theorem laps_succ (e j i : Nat) : laps e j (i + 1) = laps e j i + if 8 ≤ i ∧ i % e = j then 1 else 0 := by
  unfold laps
  rw [List.range_succ, List.filter_append, List.length_append]
  congr 1
  by_cases h : 8 ≤ i ∧ i % e = j <;> simp [h]
theorem laps_20 : ∀ e, e ≤ 4 → ∀ j, j < e → 3 ≤ laps e j 20 := by decide
theorem word_data {dv : PyData} (ho : VOk 3 dv) : Sm 5 60 (.tuple [dv]) := (Sms.tup (.cons ho.sm (Sms.nil (n := 0)))).mono (by decide) (by decide)
theorem word_dp {K : PySem.W.Frag} {H0 H : Hp} {v : V} {dv : PyData} {t : Addr} (hv : VAt H0 v dv) (g : TK H0 H) (ht : H t = some (.tup [v])) : Dp K H (.ref t) (.tuple [dv]) := .tup (.of ht) (.cons (hv.mono g).dp .nil)
theorem sm_level {i : Int} (h0 : 0 ≤ i) (h2 : i ≤ 2) : Sm 6 100 (.tuple [.str "level", .int i]) := (Sms.tup (.cons (sm_word _ (by decide +kernel)) (.cons ((Sm.int (i := i) (by omega) (by omega)).mono (Nat.le_refl 1) (Nat.le_refl 0)) (Sms.nil (n := 0))))).mono (by decide) (by decide)
theorem sm_wait : Sm 6 100 (.tuple [.str "wait"]) := (Sms.tup (.cons (sm_word "wait" (by decide +kernel)) (Sms.nil (n := 0)))).mono (by decide) (by decide)
theorem sm_wordD {dv : PyData} (ho : VOk 3 dv) : Sm 6 100 (.tuple [.str "word", dv]) := (Sms.tup (.cons ((sm_word "word" (by decide +kernel)).mono (by decide : 1 ≤ 4) (Nat.le_refl 10)) (.cons ho.sm (Sms.nil (n := 0))))).mono (by decide) (by decide)
theorem DS.Closed.win {s : DS} (c : s.Closed) {w : Nat} (h : w = s.two ∨ (s.lv w = some 1 ∧ s.won w = true)) : w = s.two := by
  rcases h with h | ⟨h1, h2⟩
  · exact h
  · exfalso
    unfold DS.won at h2
    cases e : s.sn w with
    | none => rw [e] at h2; cases h2
    | some l =>
      rw [e] at h2
      have h2 : (!decide (some 2 ∈ l)) = true := h2
      have := c.2 w (DS.stg2.mpr ⟨h1, by rw [e]; simp⟩)
      unfold DS.saw at this
      rw [e] at this
      simp only [Option.getD_some] at this
      rw [this] at h2; cases h2
theorem DoorAt.heard {C : Addr} {H : Hp} {d : Addr} {s : DS} {K : PySem.W.Frag} (h : DoorAt C H d s) (hC : DC K C) : ∃ dx fs hv c, H d = some (.ins C dx fs) ∧ fs.lookup ("heard" : Str) = some (.ref c) ∧ TF H c hv ∧ Paired (One H) hv s.heard := by
  obtain ⟨dx, a, b, c, e, f, cv, hv, sv, dv, D⟩ := h
  exact ⟨dx, _, hv, c, D.obj, d_heard, D.heard, D.heardP⟩
theorem stg_keep {s : DS} {p q : Nat} (W : s.WF) (hc : s.cm p ≠ none) (h : p ≠ q) : (s.step p).stg q = s.stg q := by rw [DS.stg_step W hc, if_neg h]
theorem stg_self {s : DS} {p : Nat} (W : s.WF) (hc : s.cm p ≠ none) : (s.step p).stg p = min 3 (s.stg p + 1) := by rw [DS.stg_step W hc, if_pos rfl]
theorem hd_keep {s : DS} {p q : Nat} (W : s.WF) (hc : s.cm p ≠ none) (h : s.stg p ≠ 3 ∨ some 1 ∈ s.lev) : (s.step p).hd q = s.hd q := by
  rw [DS.hd_step W hc, if_neg]
  rintro ⟨_, a, b⟩
  rcases h with h | h
  · exact h a
  · exact b h
theorem hd_self {s : DS} {p : Nat} (W : s.WF) (hc : s.cm p ≠ none) (h : s.stg p = 3) (h1 : some 1 ∉ s.lev) : (s.step p).hd p = s.cm s.two := by rw [DS.hd_step W hc, if_pos ⟨rfl, h, h1⟩]
theorem lv_none_of {s : DS} {q : Nat} (h : s.stg q = 0 ∨ s.stg q = 3) : s.lv q ≠ some 1 := by
  rcases h with h | h
  · rw [DS.stg0.mp h]; simp
  · exact lv_of3 h
theorem told_lvl {H : Hp} {t : Addr} {i : Int} (h : ToldAt H t (.level i)) : H t = some (.tup [.str "level", .int i]) := h
theorem told_word {s : DS} {p : Nat} {v : V} (h : s.told p = .word v) : s.stg p = 3 ∧ some 1 ∉ s.lev ∧ v = (s.cm s.two).getD .non := by
  have h4 := DS.stg_lt s p
  rcases (show s.stg p = 0 ∨ s.stg p = 1 ∨ s.stg p = 2 ∨ s.stg p = 3 by omega) with z | z | z | z
  · rw [DS.told0 z] at h; cases h
  · rw [DS.told1 z] at h; cases h
  · rw [DS.told2 z] at h; cases h
  · rw [DS.told3 z] at h
    split at h
    · cases h
    · rename_i h1; injection h with h; exact ⟨z, h1, h.symm⟩
theorem cut_word (v : V) : cutV [V.str "word", v] (some 1) none = [v] := rfl
end Fp
namespace Fp
open PySem PySem.Spec PyProof.Rows L2
def spReady (C : Addr) : Sp := fun vs H Q _ => ∃ (d : Addr) (p : Nat) (s : DS), vs = [.ref d, .int p] ∧ DoorAt C H d s ∧ p < s.lev.length ∧ Q (.bl (s.won p)) H
/-- who can be told next, where somebody stands at 2 -/
structure Win2 (s : DS) (w : Nat) : Prop where
  is : w = s.two ∨ (s.lv w = some 1 ∧ s.won w = true)
  le : w ≤ s.two
  lst : ∀ r, s.lv r = some 1 → s.won r = true → w ≤ r
def spWin2 (C : Addr) : Sp := fun vs H Q _ => ∃ (d : Addr) (s : DS), vs = [.ref d] ∧ DoorAt C H d s ∧ (∃ q, s.lv q = some 2) ∧ ∀ (l : Addr) (w : Nat) H', Same H H' → H' l = some (.lst [.int w]) → Win2 s w → Q (.ref l) H'
def spMay2 (C : Addr) : Sp := fun vs H Q _ => ∃ (d : Addr) (s : DS), vs = [.ref d] ∧ DoorAt C H d s ∧ (∃ q, s.lv q = some 2) ∧ ∀ (t : Addr) (w : Nat) (v : V) H', Same H H' → H' t = some (.tup [v]) → s.cm w = some v → Win2 s w → Q (.ref t) H'
structure MTx (mg : Str → Option Value) : Prop where
  enumerate : mg "enumerate" = none
  min : mg "min" = none
  tuple : mg "tuple" = none
section
variable {P : Program} {w : World} {K : PySem.W.Frag} {mg : Str → Option Value} {base : Heap} {f : Addr} {fd : FuncData} {C : Addr}
abbrev s_is_ready : Stmt := top 25
theorem sc_is_ready : FnScope ["door", "player"] ["door", "player"] (defScope s_is_ready) := ⟨rfl, rfl, rfl, by decide +kernel, rfl, by decide +kernel, by decide +kernel⟩
theorem ok_is_ready (F : Fun K "is_ready" "is_ready" s_is_ready f fd) (hC : DC K C) : FnOk P w K mg base CX0 1 f fd ["door", "player"] (spReady C) := by
  refine F.ok sc_is_ready (fun vs H Q E h => ?_) (fun cdv A outer s H vs Q E hr h => ?_)
  · obtain ⟨d, p, s, rfl, _⟩ := h
    rfl
  obtain ⟨d, p, s, rfl, hD, hp, k⟩ := h
  refine ⟨_, (pss_one (ps_ret (pe_and (pe_cmpR op_notN (pe_ix ix_tup (pe_fld (pv 0) rfl) (pv 1) (fun _ _ => rfl)) pe_non (nomark _)) (pe_one (pe_cmpR op_notIn_seq pe_int (pe_ix ix_tup (pe_fld (pv 0) rfl) (pv 1) (fun _ _ => rfl)) rfl))))), ?_⟩
  obtain ⟨dx, a, b, c, e, f, cv, hv, sv, dv, D⟩ := hD
  have W := D.wf
  obtain ⟨xs, hxs, os⟩ := pr_at D.seenP (W.asn hp)
  refine ⟨_, rfl, d, C, dx, _, _, rfl, D.obj, hC.cl, hC.nS, d_seen, _, rfl, e, sv, _, _, rfl, rfl, D.seen.sq, atI_nat hxs, rfl, _, rfl, ?_⟩
  rw [os.is]
  unfold DS.won at k
  cases z : s.sn p with
  | none => rw [z] at k; exact iteF k
  | some l =>
    rw [z] at k os
    obtain ⟨q, rfl, hq⟩ := os
    refine iteT ⟨_, rfl, d, C, dx, _, _, rfl, D.obj, hC.cl, hC.nS, d_seen, _, rfl, e, sv, _, _, rfl, rfl, D.seen.sq, atI_nat hxs, q, _, rfl, .inr hq.sq, rfl, lv_flat l, ?_⟩
    rw [show (if true = true then !inV (.int 2) (l.map lvV) else inV (.int 2) (l.map lvV)) = !decide (some 2 ∈ l) by rw [inV_lv]; rfl]
    exact k
abbrev s_winners : Stmt := top 24
theorem sc_winners : FnScope ["door", "came", "ready", "player", "brought"] ["door"] (defScope s_winners) := ⟨rfl, rfl, rfl, by decide +kernel, rfl, by decide +kernel, by decide +kernel⟩
theorem ok_winners (F : Fun K "winners" "winners" s_winners f fd) (T : MTx mg) (hC : DC K C) (G_held_by : Fd P w K mg base CX0 "held_by" 1 ["door"] (spHeld C)) (G_is_ready : Fd P w K mg base CX0 "is_ready" 1 ["door", "player"] (spReady C)) : FnOk P w K mg base CX0 2 f fd ["door"] (spWin2 C) := by
  refine F.ok sc_winners (fun vs H Q E h => ?_) (fun cdv A outer s H vs Q E hr h => ?_)
  · obtain ⟨d, s, rfl, _⟩ := h
    rfl
  obtain ⟨d, s, rfl, hD, h2, k⟩ := h
  refine ⟨_, (pss_cons (ps_setLc (i := 1) (own := [("player", 3), ("brought", 4)]) (g := (gTup K 2 (gCons (gName 3) (gCons (gName 4) gNil))))  rfl sc_winners.nd rfl rfl (sw_true rfl rfl rfl (by decide +kernel)) (pi_enumT rfl T.enumerate (pa_cons (pe_fld (pv 0) rfl) pa_nil)) (blkOk_by (own := [("player", 3), ("brought", 4)]) (N := ["door", "came", "ready", "player", "brought"]) (sc := defScope s_winners) (by decide +kernel)) (fun _ _ _ _ _ => (pg_tup rfl (pgs_cons (pg_name (i := 3) sc_winners.nd rfl (Or.inl rfl)) (pgs_cons (pg_name (i := 4) sc_winners.nd rfl (Or.inl rfl)) pgs_nil)))) (fun _ _ _ _ _ => (pts_one (pt_cmpR op_notN (pv 4) pe_non (nomark _)))) (fun _ _ _ _ _ => (pv 3)))
  (pss_cons (ps_set (i := 2) sc_winners.nd rfl (Or.inr rfl) (pe_lc (own := [("player", 3)]) (g := (gName 3))  rfl sc_winners.nd (pi_tup (pe_fd G_held_by (hr.mono (by decide)) rfl (pa_cons (pv 0) pa_nil))) (blkOk_by (own := [("player", 3)]) (N := ["door", "came", "ready", "player", "brought"]) (sc := defScope s_winners) (by decide +kernel)) (fun _ _ _ _ _ => (pg_name (i := 3) sc_winners.nd rfl (Or.inl rfl))) (fun _ _ _ _ _ => (pts_one (pt_val (pe_fd G_is_ready (hr.mono (by first | decide | omega)) rfl (pa_cons (pv 0) (pa_cons (pv 3) pa_nil)))))) (fun _ _ _ _ _ => (pv 3))))
  (pss_cons (ps_if (pt_cmpR op_in_seq pe_int (pe_fld (pv 0) rfl) rfl) (pss_one (ps_ret (pe_lst (pa_cons (pe_callB (cr_min rfl) rfl T.min (by decide +kernel) (pa_cons (pe_lst (pa_cons (pe_tindex (pe_fld (pv 0) rfl) pe_int) (StX.pa_star (pv 2) pa_nil))) pa_nil)) pa_nil)))) pss_nil)
  (pss_cons ps_no
  (pss_one ps_no))))), ?_⟩
  have hD0' := hD
  obtain ⟨dx, a, b, c, e, f, cv, hv, sv, dv, D⟩ := hD0'
  have W := D.wf
  have h5 := W.n5
  have hcl : cv.length = s.lev.length := by rw [pr_len D.cameP, W.lc]
  refine ⟨_, rfl, d, C, dx, _, _, rfl, D.obj, hC.cl, hC.nC, d_came, a, cv, rfl, D.came.sq, fun D0 hD0 => ?_⟩
  refine lc_it (walk_enumT (xs := cv)) (fun i H' => Same H H' ∧ ∃ acc, H' D0 = some (.lst acc) ∧ acc.length ≤ i) ⟨same_new hD0 _, [], upd_same, Nat.le_refl _⟩ (fun i H' _ z => D.came.sq.ext z.1) ?_ ?_
  · rintro i x H1 H2 hi ⟨g1, acc, h1, hl1⟩ ⟨T', y, rfl, hT, rfl, hy⟩
    have g2 := same_new hT (.tup [.int (0 + (i : Nat)), y])
    refine ⟨T', _, rfl, .of upd_same, rfl, _, _, rfl, _, _, rfl, rfl, rfl, ?_⟩
    refine ⟨_, rfl, rfl, _, rfl, ?_⟩
    refine ite2 (fun z => ?_) (fun z => ?_)
    · refine ⟨_, rfl, acc, g2 _ _ h1, szt (by omega), fun o q hq => ?_, _, upd_same, by rw [List.length_append]; exact Nat.succ_le_succ hl1⟩
      rw [upd_ne (ne_of_none hq hD0)]; exact g2 _ _ (g1 _ _ hq)
    · exact ⟨g1.trans g2, acc, g2 _ _ h1, by omega⟩
  rintro H1 ⟨g1, acc, _, _⟩
  have hD1 := hD.same g1
  refine ⟨_, rfl, d, s, rfl, hD1, fun t H2 g2 ht => ⟨t, rfl, ⟨_, .of ht⟩, fun D2 hD2 => ?_⟩⟩
  have hs := held_small W
  have hheld : ∀ p ∈ s.held, p < s.lev.length ∧ s.lv p = some 1 := fun p hp => by
    have := List.mem_filter.mp hp
    exact ⟨List.mem_range.mp this.1, of_decide_eq_true this.2⟩
  refine lc_tup (K := K) (a := t) (xs := natV s.held) (fun i H' => Same H2 H' ∧ H' D2 = some (.lst (natV ((s.held.take i).filter fun p => s.won p)))) ⟨same_new hD2 _, upd_same⟩ (fun i H' _ z => .of (z.1 _ _ ht)) ?_ ?_
  · rintro i x H' hx ⟨g3, h3⟩
    obtain ⟨p, hp, rfl⟩ := natV_get hx
    refine ⟨rfl, _, rfl, _, rfl, d, p, s, rfl, (hD1.same g2).same g3, (hheld p (List.mem_of_getElem? hp)).1, _, rfl, ?_⟩
    refine ite2 (fun z => ?_) (fun z => ?_)
    · refine ⟨_, rfl, _, h3, szt ?_, fun o q hq => ?_, ?_⟩
      · unfold natV
        rw [List.length_map]
        have h1 := List.length_filter_le (fun p => s.won p) (s.held.take i)
        have h2 : (s.held.take i).length ≤ s.held.length := by rw [List.length_take]; exact Nat.min_le_right _ _
        omega
      · rw [upd_ne (ne_of_none hq hD2)]; exact g3 _ _ hq
      · rw [upd_same, take_snoc hp, List.filter_append]
        unfold natV
        rw [List.map_append]
        simp [z]
    · have z : s.won p = false := by simpa using z
      refine ⟨g3, ?_⟩
      rw [h3, take_snoc hp, List.filter_append]
      simp [z]
  rintro H3 ⟨g3, h3⟩
  have e3 : (s.held.take (natV s.held).length) = s.held := by unfold natV; rw [List.length_map, List.take_length]
  rw [e3] at h3
  have D3 := ((hD1.same g2).same g3)
  have gs := (g1.trans g2).trans g3
  have D' := D.mono (.of gs) (fun o q => gs _ _ q) (by rw [gs _ _ D.own]; exact D.own.symm)
  obtain ⟨l1, l2, l3⟩ := DS.two_lev h2
  refine ⟨_, rfl, d, C, dx, _, _, rfl, D'.obj, hC.cl, hC.nL, d_lev, b, _, rfl, .inr D'.lev.sq, rfl, lv_flat s.lev, _, rfl, ?_⟩
  rw [show (if false = true then !inV (.int 2) (s.lev.map lvV) else inV (.int 2) (s.lev.map lvV)) = true by rw [inV_lv]; exact decide_eq_true (mem_getD.mpr h2)]
  refine iteT ?_
  refine ⟨_, rfl, d, C, dx, _, _, rfl, D'.obj, hC.cl, hC.nL, d_lev, ⟨b, _, rfl, D'.lev⟩, b, _, s.two, lvV (s.lv s.two), rfl, D'.lev.sq, rfl, lv_flat s.lev, alvV l1, by rw [eqV_lv, l2]; decide, fun m z' hm hz' => ?_, ?_⟩
  · rw [alvV (by omega)] at hz'
    cases hz'
    rw [eqV_lv]
    exact decide_eq_false (l3 m hm)
  refine ⟨_, rfl, D2, _, rfl, .inr (.of h3), ?_⟩
  have hfl : (s.held.filter fun p => s.won p).length ≤ 5 := Nat.le_trans (List.length_filter_le _ _) hs.2
  refine ⟨szl ?_, fun l nl => ?_⟩
  · unfold natV
    simp only [List.length_append, List.length_map, List.length_cons, List.length_nil]
    omega
  have el : [V.int (s.two : Nat)] ++ (natV (s.held.filter fun p => s.won p) ++ []) = ((s.two :: s.held.filter fun p => s.won p).map fun (p : Nat) => (p : Int)).map V.int := by
    unfold natV
    rw [List.append_nil, List.map_map]
    rfl
  refine ⟨l, _, rfl, .of (show upd H3 l (.lst ([V.int (s.two : Nat)] ++ (natV (s.held.filter fun p => s.won p) ++ []))) l = some (.lst (((s.two :: s.held.filter fun p => s.won p).map fun (p : Nat) => (p : Int)).map V.int)) by rw [upd_same, el]), by simp, fun m hm hle => ?_⟩
  obtain ⟨w', hw', rfl⟩ := List.mem_map.mp hm
  refine ⟨szl (by show 1 ≤ _; decide), fun l2' nl2 => ?_⟩
  refine k l2' w' _ (gs.trans ((same_new nl _).trans (same_new nl2 _))) upd_same ⟨?_, ?_, fun r hr1 hr2 => ?_⟩
  · rcases List.mem_cons.mp hw' with z | z
    · exact .inl z
    · have := List.mem_filter.mp z
      exact .inr ⟨(hheld w' this.1).2, this.2⟩
  · have := hle (s.two : Nat) (List.mem_map.mpr ⟨s.two, by simp, rfl⟩)
    omega
  · have hrl := (getD_none_of hr1).1
    have hrm : r ∈ s.held := List.mem_filter.mpr ⟨List.mem_range.mpr hrl, decide_eq_true hr1⟩
    have := hle (r : Nat) (List.mem_map.mpr ⟨r, List.mem_cons_of_mem _ (List.mem_filter.mpr ⟨hrm, hr2⟩), rfl⟩)
    omega
abbrev s_may_come : Stmt := top 23
theorem sc_may_come : FnScope ["door", "found", "player", "value"] ["door"] (defScope s_may_come) := ⟨rfl, rfl, rfl, by decide +kernel, rfl, by decide +kernel, by decide +kernel⟩
theorem ok_may_come (F : Fun K "may_come" "may_come" s_may_come f fd) (T : MTx mg) (hC : DC K C) (G_winners : Fd P w K mg base CX0 "winners" 2 ["door"] (spWin2 C)) : FnOk P w K mg base CX0 3 f fd ["door"] (spMay2 C) := by
  refine F.ok sc_may_come (fun vs H Q E h => ?_) (fun cdv A outer s H vs Q E hr h => ?_)
  · obtain ⟨d, s, rfl, _⟩ := h
    rfl
  obtain ⟨d, s, rfl, hD, h2, k⟩ := h
  refine ⟨_, (pss_cons (ps_set (i := 1) sc_may_come.nd rfl (Or.inl rfl) (pe_lst pa_nil))
  (pss_cons (ps_for PassesOwn.never rfl (pi_list (pe_fd G_winners (hr.mono (by first | decide | omega)) rfl (pa_cons (pv 0) pa_nil))) (pg_name (i := 2) sc_may_come.nd rfl (Or.inl rfl)) (pss_cons (ps_set (i := 3) sc_may_come.nd rfl (Or.inl rfl) (pe_ix ix_tup (pe_ix ix_tup (pe_fld (pv 0) rfl) (pv 2) (fun _ _ => rfl)) pe_int (fun _ _ => rfl)))
  (pss_one (ps_if (pt_cmpR (op_notInD (u65 hr)) (pv 3) (pv 1) rfl) (pss_one (ps_expr (pe_bm PySem.F.plainAttrs_list PySem.F.slot_list_append PySem.F.type_list_append mt_append (pv 1) (pa_cons (pv 3) pa_nil)))) pss_nil))))
  (pss_one (ps_ret (pe_callTy call_tuple_of rfl T.tuple (by decide +kernel) (pa_cons (pv 1) pa_nil)))))), ?_⟩
  have W := hD.wf
  refine ⟨szl (by decide), fun l0 n0 => ?_⟩
  have g0 := same_new n0 (.lst [])
  refine ⟨_, rfl, d, s, rfl, hD.same g0, h2, fun l w' H1 g1 hl hw => ⟨l, rfl, ⟨_, .of hl⟩, ?_⟩⟩
  have hcm : ∃ v, s.cm w' = some v := by
    rcases hw.is with z | ⟨z, _⟩
    · rw [z]; exact DS.two_came W h2
    · cases q : s.cm w' with
      | none => exact absurd q (W.cmv _ (by rw [z]; simp))
      | some v => exact ⟨v, rfl⟩
  obtain ⟨v, hv'⟩ := hcm
  have hll : l ≠ l0 := fun z => by have := g1 _ _ (show upd H l0 (.lst []) l0 = _ from upd_same); rw [← z, hl] at this; cases this
  have hl0 : H1 l0 = some (.lst []) := g1 _ _ upd_same
  have hD1 := (hD.same g0).same g1
  refine for_list (K := K) (a := l) (xs := [.int w']) (fun i σ H' => ∃ u2 u3, σ = [some (.ref d), some (.ref l0), u2, u3] ∧ But [l0] H1 H' ∧ H' l0 = some (.lst (List.replicate i v))) ?_ ?_ ?_ ?_
  · exact ⟨_, _, rfl, But.refl _ _, hl0⟩
  · rintro i σ H' _ ⟨_, _, rfl, g, _⟩
    exact .of (g.at hl (by simpa using hll))
  · rintro i x σ H' hx ⟨_, _, rfl, g, hi⟩
    have hi0 : i = 0 := by have := get_lt hx; simpa using this
    subst hi0
    cases hx
    have hD2 := hD1.but g fun x hx => by rw [List.mem_singleton.mp hx]; exact .inl ⟨_, hl0⟩
    obtain ⟨dx, a, b, c, e, f, cv, hv, sv, dv, D⟩ := hD2
    have hwl : w' < s.lev.length := DS.lt_of_cm W (by rw [hv']; simp)
    obtain ⟨xc, hxc, oc⟩ := pr_at D.cameP (W.acm hwl)
    rw [hv'] at oc
    obtain ⟨q, rfl, hq⟩ := oc
    refine ⟨_, rfl, d, C, dx, _, _, rfl, D.obj, hC.cl, hC.nC, d_came, _, rfl, a, cv, _, _, rfl, rfl, D.came.sq, atI_nat hxc, q, _, _, _, rfl, rfl, .of hq, atI_nat (j := 0) rfl, ?_⟩
    obtain ⟨vd, hvd, hsm⟩ := Good.dp (K := K) (D.good _ _ hv')
    refine ⟨_, rfl, _, rfl, vd, [], hvd, .lst (.of hi) .nil, hsm.shaped (by decide), by decide +kernel, _, rfl, iteT ?_⟩
    refine ⟨_, rfl, .inl ⟨rfl, _, .of hi⟩, _, rfl, l0, _, _, rfl, rfl, hi, szt (by simp), ?_⟩
    exact ⟨_, _, rfl, g.put (by simp), upd_same⟩
  · rintro σ H' ⟨_, _, rfl, g, hi⟩
    refine ⟨_, rfl, l0, _, rfl, .inl ⟨.of hi, fun t nt => ?_⟩⟩
    refine k t w' v _ (fun q o e => ?_) upd_same hv' hw
    have ql : q ≠ l0 := ne_of_none e n0
    exact same_new nt _ _ _ (g _ _ (by simpa using ql) (g1 _ _ (g0 _ _ e)))
end
end Fp
/-! len of an object with an own __len__; data that stays, whatever lists change; C(k = v) -/
namespace Fp
open PySem PySem.Spec PyProof.Rows L2
structure LenC (P : Program) (w : World) (K : PySem.W.Frag) (mg : Str → Option Value) (base : Heap) (C : Addr) (n : Nat) (ps : List Str) (sp : Sp) : Prop where
  ex : ∃ (f : Addr) (fd : FuncData), PySem.W.findIn K (.ref C) "__len__" = some (some (.ref f)) ∧ PySem.W.isFn K (.ref f) = true ∧ Binds K fd ps [] ∧ FnOk P w K mg base CX0 n f fd ps sp
def rLenO (C : Addr) (sp : Sp) : List V → Hp → VK → Prop := fun xs H Q => ∃ (a dx : Addr) (fs : List (Str × V)), xs = [.ref a] ∧ H a = some (.ins C dx fs) ∧ sp [.ref a] H (fun v H' => ∃ n : Nat, v = .int n ∧ n < 2 ^ 62 ∧ Q (.int n) H') E0
section
variable {X : Cx} {C : Addr} {n : Nat} {ps : List Str} {sp : Sp}
theorem call_lenO (M : LenC X.prog X.w X.K X.mg X.base C n ps sp) (hr : Room (n + 1) X.A) : CallR X (.builtin "len") (rLenO C sp) := by
  intro pins s σ H xs us Q I r h
  obtain ⟨a, dx, fs, rfl, ha, q⟩ := h
  rw [Vals.ref1 r]
  obtain ⟨f, fd, hs, hf, hb, F⟩ := M.ex
  obtain ⟨mA, J, _⟩ := ins_get I.hok ha
  obtain ⟨od, J, _⟩ := J.look
  obtain ⟨m, hF⟩ := I.fr
  refine PySem.W.len_K hF I.ok.mod.kin J hs hf ?_
  have e0 : Env0 X.prog X.w X.K X.mg X.base X.A.in1 X.stack s H := I.env0.in1
  have r2 : Vals ([V.ref a] ++ []) ([Value.ref a] ++ []) := Vals.append (.cons rfl .nil) .nil
  have hsp : sp ([V.ref a] ++ []) H (fun v H' => ∃ n : Nat, v = .int n ∧ n < 2 ^ 62 ∧ Q (.int n) H') E0 := q
  have hl : ([Value.ref a] ++ []).length = ps.length := by rw [← r2.length]; exact F.len _ _ _ _ hsp
  refine wpAny_call (codeAny_mono (F.run X.A.in1 X.stack s H ⟨[.ref a], []⟩ _ _ _ E0 hr.in1 e0 (hb s [.ref a] I.kIn hl) r2 hsp) fun r s' hq => ?_)
  cases r with
  | error e => exact pass0 pins σ H s e s' I hq
  | ok fl =>
    cases fl with
    | ret u =>
      obtain ⟨v, H', I', rv, k, rfl, hk, q'⟩ := I.after hq
      obtain ⟨t, rfl⟩ := rv
      exact ⟨⟨by omega, by omega⟩, .int k, H', I'.tok _, ⟨_, rfl⟩, q'⟩
    | next => exact False.elim hq
    | brk => exact False.elim hq
    | cont => exact False.elim hq
end
/-! ### C(k = v) -/
structure MkK (P : Program) (w : World) (K : PySem.W.Frag) (mg : Str → Option Value) (base : Heap) (x : Str) (C : Addr) (k : Nat) (ps ks : List Str) (sp : Sp) : Prop where
  at_ : mg x = some (.ref C)
  ex : ∃ (f : Addr) (fd : FuncData), Mk K C f ∧ KBn K fd ps 1 ks (fun us ws => us ++ ws) (fun vs zs => vs ++ zs) ∧ FnOk P w K mg base CX0 k f fd ps sp
section
variable {X : Cx} {x : Str} {k : Nat} {ps ks : List Str} {sp : Sp} {C : Addr} {kws : List Keyword} {tk : TA} {p pos : Pos}
theorem pe_mkK (M : MkK X.prog X.w X.K X.mg X.base x C k ps ks sp) (hr : Room (k + 1) X.A) (hg : Gl X x) (hkw : PK X kws tk)
    (hall : (backToKw pos (keywordEach kws X.env)).all (·.1.isSome) = true := by rfl) (hks : (backToKw pos (keywordEach kws X.env)).filterMap (·.1) = ks := by rfl) (hdb : (x == ("__debug__" : Str)) = false := by decide)
    (hpl : ((backTo pos (starEach [] X.env)).any (·.1) || (backToKw pos (keywordEach kws X.env)).any (·.1.isNone)) = false := by rfl) :
    PE X (.Call (.Name x p) [] kws pos) (tMakeK C 0 ks.length sp (fun vs zs => vs ++ zs) E0 tNil tk) := by
  obtain ⟨f, fd, h1, h2, h3⟩ := M.ex
  exact pe_makeK0 h1 h3 hr hg M.at_ h2 pass0 hkw hall hks hdb hpl
end
/-! ### data that stays -/
def SD (K : PySem.W.Frag) (H : Hp) (x : V) (d : PyData) : Prop := ∀ H', TK H H' → Dp K H' x d
section
variable {K : PySem.W.Frag} {H H' : Hp} {x v : V} {d dv : PyData} {t : Addr} {xs : List V} {ds : List PyData}
theorem SD.mono (h : SD K H x d) (g : TK H H') : SD K H' x d := fun _ g2 => h _ (g.trans g2)
theorem SDs.mono (h : Paired (SD K H) xs ds) (g : TK H H') : Paired (SD K H') xs ds := pr_imp (fun _ _ h => SD.mono h g) h
theorem SDs.dp : ∀ {xs : List V} {ds : List PyData}, Paired (SD K H) xs ds → DpAll K H xs ds
  | _, _, .nil => .nil
  | _, _, .cons a b => .cons (a _ (.refl _)) (SDs.dp b)
theorem sd_tup (h : H t = some (.tup xs)) (a : Paired (SD K H) xs ds) : SD K H (.ref t) (.tuple ds) := fun _ g => .tup (.of (g.t h)) (SDs.dp (SDs.mono a g))
theorem sd_int (i : Int) : SD K H (.int i) (.int i) := fun _ _ => .int i
theorem sd_str (z : Str) : SD K H (.str z) (.str z) := fun _ _ => .str z
theorem sd_non : SD K H .non .none := fun _ _ => .non
theorem sd_val (h : VAt H v dv) : SD K H v dv := fun _ g => (h.mono g).dp
/-- what is told, as data, the word's being dv -/
def tdD (dv : PyData) : Told → PyData
  | .level i => .tuple [.str "level", .int i]
  | .look l => .tuple [.str "look", .tuple (l.map lvD)]
  | .wait => .tuple [.str "wait"]
  | .word _ => .tuple [.str "word", dv]
theorem sd_lv : ∀ l : List Lv, Paired (SD K H) (l.map lvV) (l.map lvD)
  | [] => .nil
  | none :: l => .cons sd_non (sd_lv l)
  | some i :: l => .cons (sd_int i) (sd_lv l)
theorem sd_told {x : Told} (h : ToldAt H t x) (hw : ∀ v, x = .word v → VAt H v dv) : SD K H (.ref t) (tdD dv x) := by
  cases x with
  | level i => exact sd_tup h (.cons (sd_str _) (.cons (sd_int _) .nil))
  | look l =>
    obtain ⟨q, a, b⟩ := h
    intro H' g
    exact .tup (.of (g.t a)) (.cons (.str _) (.cons (.tup (g.tt b).sq (SDs.dp (sd_lv l))) .nil))
  | wait => exact sd_tup h (.cons (sd_str _) .nil)
  | word v => exact sd_tup h (.cons (sd_str _) (.cons (sd_val (hw v rfl)) .nil))
end
/-- how many steps were done -/
def DS.stps (s : DS) : Nat := (s.deeds.filter (·.stp)).length
def spDLen (C : Addr) : Sp := fun vs H Q _ => ∃ (d : Addr) (s : DS), vs = [.ref d] ∧ DoorAt C H d s ∧ s.deeds.length < 100000 ∧ ∀ H', Same H H' → Q (.int (s.stps : Nat)) H'
end Fp
namespace Fp
open PySem PySem.Spec PyProof.Rows L2
/-! ### steps one by one -/
section
variable {C : Addr} {H H1 H2 : Hp} {d : Addr} {s : DS} {c h : List (Option V)} {l : List Lv} {sn : List (Option (List Lv))} {ds : List Deed} {p n m : Nat} {x : V}
theorem nx_step (e1 : ds.length = n) (e2 : (ds.filter (·.stp)).length = m) (D : DoorAt C H d (DS.mk c l h sn (ds ++ [⟨true, p, x⟩]))) :
    ∃ ds' : List Deed, ds'.length = n + 1 ∧ (ds'.filter (·.stp)).length = m + 1 ∧ DoorAt C H d ⟨c, l, h, sn, ds'⟩ := ⟨_, by rw [List.length_append, e1]; rfl, by rw [List.filter_append, List.length_append, e2]; rfl, D⟩
theorem nx_come (e1 : ds.length = n) (e2 : (ds.filter (·.stp)).length = m) (D : DoorAt C H d (DS.mk c l h sn (ds ++ [⟨false, p, x⟩]))) :
    ∃ ds' : List Deed, ds'.length = n + 1 ∧ (ds'.filter (·.stp)).length = m ∧ DoorAt C H d ⟨c, l, h, sn, ds'⟩ := ⟨_, by rw [List.length_append, e1]; rfl, by rw [List.filter_append, List.length_append, e2]; rfl, D⟩
theorem Same.into {H0 : Hp} (F : Same H0 H1) (g : But [d] H1 H2) (hd : H0 d = none) : Same H0 H2 := fun b o e => g b o (by
  rw [List.mem_singleton]
  intro z
  rw [z, hd] at e
  cases e) (F b o e)
end
theorem SD.now {K : PySem.W.Frag} {H : Hp} {x : V} {d : PyData} (h : SD K H x d) : Dp K H x d := h H (.refl _)
theorem Same.gone {H H1 : Hp} {a : Addr} (F : Same H H1) (h : H1 a = none) : H a = none := by
  cases e : H a with
  | none => rfl
  | some o => rw [F a o e] at h; cases h
theorem Same.put {H H1 : Hp} {a : Addr} {o : HO} (F : Same H H1) (h : H a = none) : Same H (upd H1 a o) := fun b u e => by
  rw [upd_ne (fun z => by rw [z, h] at e; cases e)]; exact F b u e
theorem pr_append {α β : Type} {F : α → β → Prop} : ∀ {l l' : List α} {m m' : List β}, Paired F l m → Paired F l' m' → Paired F (l ++ l') (m ++ m')
  | _, _, _, _, .nil, h => h
  | _, _, _, _, .cons a r, h => .cons a (pr_append r h)
theorem pr_two {α β : Type} {F : α → β → Prop} {l : List α} {a b : β} (h : Paired F l [a, b]) : ∃ x y, l = [x, y] ∧ F x a ∧ F y b := by
  cases h with
  | cons h1 t => cases t with
    | cons h2 t => cases t; exact ⟨_, _, rfl, h1, h2⟩
/-- one player alone, at 2, step by step -/
def lateS (v : V) : Nat → List Deed → DS
  | 0, ds => ⟨[none, none, some v], [none, none, none], [none, none, none], [none, none, none], ds⟩
  | 1, ds => ⟨[none, none, some v], [none, none, some 1], [none, none, none], [none, none, none], ds⟩
  | 2, ds => ⟨[none, none, some v], [none, none, some 1], [none, none, none], [none, none, some [none, none, some 1]], ds⟩
  | 3, ds => ⟨[none, none, some v], [none, none, some 2], [none, none, none], [none, none, some [none, none, some 1]], ds⟩
  | _, ds => ⟨[none, none, some v], [none, none, some 2], [none, none, some v], [none, none, some [none, none, some 1]], ds⟩
def lateT (v : V) : Nat → Told
  | 0 => .level 1
  | 1 => .look [none, none, some 1]
  | 2 => .level 2
  | _ => .word v
theorem late_step (v : V) (i : Nat) (ds : List Deed) (hi : i < 4) : (lateS v i ds).cm 2 ≠ none ∧ (lateS v i ds).told 2 = lateT v i ∧ (lateS v i ds).deeds = ds ∧ ∃ x, (lateS v i ds).step 2 = lateS v (i + 1) (ds ++ [⟨true, 2, x⟩]) := by
  rcases (show i = 0 ∨ i = 1 ∨ i = 2 ∨ i = 3 by omega) with rfl | rfl | rfl | rfl <;> exact ⟨fun z => (nomatch (show some v = none from z)), rfl, rfl, _, rfl⟩
theorem late_word {v x : V} {i : Nat} (hi : i < 4) (h : lateT v i = .word x) : x = v := by
  rcases (show i = 0 ∨ i = 1 ∨ i = 2 ∨ i = 3 by omega) with rfl | rfl | rfl | rfl <;> first | (cases h; done) | (injection h with h; exact h.symm)
theorem Sms.list {k n m : Nat} {ds : List PyData} (h : ∀ d ∈ ds, Sm k n d) (hm : (n + 1) * ds.length ≤ m) : Sm (k + 1) m (.list ds) := (Sms.all h).lst.mono (Nat.le_refl _) hm
theorem sm_td {dv : PyData} (ho : VOk 3 dv) (x : Told) (h : ∀ i, x = .level i → 0 ≤ i ∧ i ≤ 2) (hl : ∀ l, x = .look l → l.length ≤ 5 ∧ ∀ i, some i ∈ l → 0 ≤ i ∧ i ≤ 2) : Sm 6 100 (tdD dv x) := by
  cases x with
  | level i => exact sm_level (h i rfl).1 (h i rfl).2
  | look l =>
    have := hl l rfl
    exact (Sms.tup (.cons ((sm_word "look" (by decide +kernel)).mono (by decide : 1 ≤ 2) (Nat.le_refl 10)) (.cons (lv_sms this.2 this.1).tup (Sms.nil (n := 0))))).mono (by decide) (by decide)
  | wait => exact sm_wait
  | word v => exact sm_wordD ho
end Fp
/-! k35: the last two turned about; what deeds are as data; shown texts that differ -/
namespace Fp
open PySem PySem.Spec PyProof.Rows L2
theorem pick2 (its : List Value) (n : Nat) (a b : Value) (hn : its.length = n + 2) (ha : its[n + 1]? = some a) (hb : its[n]? = some b) : slicePick its.toArray none (some (-3)) (some (-1)) = #[a, b] := by
  unfold slicePick
  have hs : its.toArray.size = n + 2 := by simpa using hn
  have e : sliceBounds none (some (-3)) (some (-1)) its.toArray.size = ((n : Int) + 1, (n : Int) - 1, -1) := by
    rw [hs]
    unfold sliceBounds
    simp only [Option.getD_some, show ¬ ((-1 : Int) > 0) by decide, if_false, show ((-3 : Int) < 0) by decide, if_true]
    refine Prod.ext ?_ (Prod.ext ?_ rfl)
    · show ((n + 2 : Nat) : Int) - 1 = (n : Int) + 1; omega
    · show max (-1) (min (-3 + ((n + 2 : Nat) : Int)) (((n + 2 : Nat) : Int) - 1)) = (n : Int) - 1; omega
  rw [e]
  have r : sliceRange ((n : Int) + 1) ((n : Int) - 1) (-1) = [n + 1, n] := by
    unfold sliceRange
    have h : (n : Int) + 1 > (n : Int) - 1 := by omega
    have c : ((n : Int) + 1 - ((n : Int) - 1) - -1 - 1) / (- -1) = 2 := by
      rw [show (- -1 : Int) = 1 by decide, Int.ediv_one]; omega
    simp only [show ¬ ((-1 : Int) > 0) by decide, if_false, h, if_true, c]
    show [(((n : Int) + 1 + -1 * ((0 : Nat) : Int))).toNat, (((n : Int) + 1 + -1 * ((1 : Nat) : Int))).toNat] = _
    rw [show ((n : Int) + 1 + -1 * ((0 : Nat) : Int)).toNat = n + 1 by omega, show ((n : Int) + 1 + -1 * ((1 : Nat) : Int)).toNat = n by omega]
  show ((sliceRange ((n : Int) + 1) ((n : Int) - 1) (-1)).filterMap (its.toArray[·]?)).toArray = _
  rw [r]
  simp [ha, hb]
def tLast2 (K : PySem.W.Frag) (te : TE) : TE := fun σ H Q => te σ H fun x H1 => ∃ a xs u v, x = .ref a ∧ SqL K H1 a (xs ++ [u, v]) ∧ ∀ p, H1 p = none → Q (.ref p) (upd H1 p (.lst [v, u]))
section
variable {X : Cx}
theorem pe_last2 {e : Expr} {te : TE} {k k2 : Nat} {p1 p2 p3 p4 p5 pos : Pos} (he : PE X e te) : PE X (.Subscript e (.Slice none (some (.UnaryOp .USub (.Constant (.int 3) k2 p4) p5)) (some (.UnaryOp .USub (.Constant (.int 1) k p1) p2)) p3) pos) (tLast2 X.K te) := by
  refine ⟨fun pins s σ H Q I h => ?_⟩
  refine Subscript_ (thn (he.run pins s σ H _ I h) fun v s1 ⟨x, H1, I1, r1, q1⟩ => ?_)
  obtain ⟨a, xs, u1, v1, ex, hx, q⟩ := q1
  subst ex
  cases r1
  have hst : PO X (some (.UnaryOp .USub (.Constant (.int 1) k p1) p2)) (tPart (tUn (rU fun i => .int (-i)) (tC (.int 1)))) := po_some (pe_un un_neg pe_int)
  have hst3 : PO X (some (.UnaryOp .USub (.Constant (.int 3) k2 p4) p5)) (tPart (tUn (rU fun i => .int (-i)) (tC (.int 3)))) := po_some (pe_un un_neg pe_int)
  refine wpAny_Slice (thn (po_none.run pins s1 σ H1 (fun o H2 => o = none ∧ H2 = H1) I1 ⟨rfl, rfl⟩) fun vl s2 ⟨l, H2, I2, pl, el, e2⟩ => ?_)
  subst el e2
  refine thn (hst3.run pins s2 σ H2 (fun o H3 => o = some (-3) ∧ H3 = H2) I2 ⟨3, rfl, -3, rfl, rfl, rfl⟩) fun vu s3 ⟨u, H3, I3, pu, eu, e3⟩ => ?_
  subst eu e3
  refine thn (hst.run pins s3 σ H3 (fun o H4 => o = some (-1) ∧ H4 = H3) I3 ⟨1, rfl, -1, rfl, rfl, rfl⟩) fun vs s4 ⟨o, H4, I4, ps, eo, e4⟩ => ?_
  subst eo e4
  have I5 : Inv X pins σ H4 { s4 with heap := s4.heap.push { cls := .type "slice", data := .fields #[vl, vu, vs] } } := I4.kept (t' := s4.toks) fun b ob q => Heap.get?_push_of_some _ q
  obtain ⟨its, r, ht, hz⟩ := I5.list hx
  have hlen := r.length
  rw [List.length_append] at hlen
  have hl2 : its.length = xs.length + 2 := hlen.symm
  show wpAny (model X.prog X.w) X.A (subscriptTail e (.Slice none (some (.UnaryOp .USub (.Constant (.int 3) k2 p4) p5)) (some (.UnaryOp .USub (.Constant (.int 1) k p1) p2)) p3) (.ref a) (.ref s4.heap.objs.size)) (EP X pins σ Q) X.xe { s4 with heap := s4.heap.push { cls := .type "slice", data := .fields #[vl, vu, vs] } }
  refine tail_any (ops := [.ref a, .ref s4.heap.objs.size]) ht.isList.typeIs (PySem.slot_list_getitem.lookup) ?_ (by with_unfolding_all rfl)
  refine wpAny_getItem_list_slice ht.isList (Heap.IsSliceOf.new _ vl vu vs) pl pu ps (by decide) ?_ (by rw [List.size_toArray]; rw [List.length_append] at hz; omega)
  obtain ⟨w1, hw1, rw1⟩ := r.get (i := xs.length + 1) (x := v1) (by rw [List.getElem?_append_right (by omega), show xs.length + 1 - xs.length = 1 by omega]; rfl)
  obtain ⟨w2, hw2, rw2⟩ := r.get (i := xs.length) (x := u1) (by rw [List.getElem?_append_right (by omega), Nat.sub_self]; rfl)
  rw [pick2 its xs.length w1 w2 hl2 hw1 hw2]
  refine ⟨.ref _, _, I5.laid (t' := s4.toks) (o := .lst [v1, u1]) (fun b ob q => Heap.get?_push_of_some _ q) (Nat.le_refl _) ?_, rfl, q _ (I5.hok.fresh (Nat.le_refl _))⟩
  exact ⟨by show 2 ≤ sizeLine; decide, _, 0, .cons rw1 (.cons rw2 .nil), Heap.get?_push_size _ rfl⟩
end
/-! ### deeds -/
theorem DS.step_deeds (s : DS) (p : Nat) : (s.step p).deeds = s.deeds ++ [⟨true, p, .str (DS.kindOf (s.stg p))⟩] := by
  have h4 := DS.stg_lt s p
  rcases (show s.stg p = 0 ∨ s.stg p = 1 ∨ s.stg p = 2 ∨ s.stg p = 3 by omega) with e | e | e | e
  · rw [DS.step0 e, e]; rfl
  · rw [DS.step1 e, e]; rfl
  · rw [DS.step2 e, e]; rfl
  · rw [DS.step3 e, e]; split <;> rfl
structure DS.DOk (s : DS) : Prop where
  hok : ∀ q x, s.hd q = some x → ∃ r, s.cm r = some x
  dcm : ∀ d ∈ s.deeds, d.stp = false → s.cm d.p = some d.x
  dst : ∀ d ∈ s.deeds, d.stp = true → ∃ k, k ≤ 3 ∧ d.x = .str (DS.kindOf k)
  dp : ∀ d ∈ s.deeds, d.p < 5
theorem DS.DOk.new (n : Nat) : (DS.new n).DOk := ⟨fun q x h => (by rw [DS.hd_new] at h; cases h), fun d h => absurd h (by simp [DS.new]), fun d h => absurd h (by simp [DS.new]), fun d h => absurd h (by simp [DS.new])⟩
theorem DS.DOk.come {s : DS} {p : Nat} {v : V} (h : s.DOk) (W : s.WF) (hp : p < s.lev.length) (hc : s.cm p = none) : (s.come p v).DOk := by
  have keep : ∀ r x, s.cm r = some x → (s.come p v).cm r = some x := fun r x hr => by
    rw [DS.cm_come, if_neg]
    · exact hr
    · rintro ⟨z, _⟩; rw [← z, hc] at hr; cases hr
  have e : (s.come p v).deeds = s.deeds ++ [⟨false, p, v⟩] := rfl
  have h5 := W.n5
  refine ⟨fun q x hq => ?_, fun d hd hs => ?_, fun d hd hs => ?_, fun d hd => ?_⟩
  · rw [DS.hd_come] at hq
    obtain ⟨r, hr⟩ := h.hok q x hq
    exact ⟨r, keep r x hr⟩
  · rw [e] at hd
    rcases List.mem_append.mp hd with hd | hd
    · exact keep _ _ (h.dcm d hd hs)
    · rw [List.mem_singleton] at hd; subst hd
      rw [DS.cm_come, if_pos ⟨rfl, by rw [W.lc]; exact hp⟩]
  · rw [e] at hd
    rcases List.mem_append.mp hd with hd | hd
    · exact h.dst d hd hs
    · rw [List.mem_singleton] at hd; subst hd; cases hs
  · rw [e] at hd
    rcases List.mem_append.mp hd with hd | hd
    · exact h.dp d hd
    · rw [List.mem_singleton] at hd; subst hd; show p < 5; omega
theorem DS.DOk.step {s : DS} {p : Nat} (h : s.DOk) (W : s.WF) (hc : s.cm p ≠ none) : (s.step p).DOk := by
  have hp := DS.lt_of_cm W hc
  have h5 := W.n5
  refine ⟨fun q x hq => ?_, fun d hd hs => ?_, fun d hd hs => ?_, fun d hd => ?_⟩
  · rw [DS.hd_step W hc] at hq
    split at hq
    · exact ⟨s.two, by rw [DS.cm_step]; exact hq⟩
    · obtain ⟨r, hr⟩ := h.hok q x hq
      exact ⟨r, by rw [DS.cm_step]; exact hr⟩
  · rw [DS.step_deeds] at hd
    rw [DS.cm_step]
    rcases List.mem_append.mp hd with hd | hd
    · exact h.dcm d hd hs
    · rw [List.mem_singleton] at hd; subst hd; cases hs
  · rw [DS.step_deeds] at hd
    rcases List.mem_append.mp hd with hd | hd
    · exact h.dst d hd hs
    · rw [List.mem_singleton] at hd; subst hd; exact ⟨_, DS.stg_lt s p, rfl⟩
  · rw [DS.step_deeds] at hd
    rcases List.mem_append.mp hd with hd | hd
    · exact h.dp d hd
    · rw [List.mem_singleton] at hd; subst hd; show p < 5; omega
theorem kind_cases {k : Nat} (h : k ≤ 3) : DS.kindOf k = "level" ∨ DS.kindOf k = "look" ∨ DS.kindOf k = "ask" := by
  rcases (show k = 0 ∨ k = 1 ∨ k = 2 ∨ k = 3 by omega) with e | e | e | e <;> subst e
  · exact .inl rfl
  · exact .inr (.inl rfl)
  · exact .inl rfl
  · exact .inr (.inr rfl)
theorem sm_kind {k : Nat} (h : k ≤ 3) : Sm 1 10 (.str (DS.kindOf k)) := by
  rcases kind_cases h with e | e | e <;> rw [e] <;> exact sm_word _ (by decide +kernel)
/-- a deed as data -/
def DD (d : Deed) (pd : PyData) : Prop := ∃ w x, pd = .tuple [.str w, .int (d.p : Nat), x]
theorem deeds_data {H : Hp} : ∀ ds : List Deed, (∀ d ∈ ds, (d.stp = false → Good H d.x) ∧ (d.stp = true → ∃ k, k ≤ 3 ∧ d.x = .str (DS.kindOf k)) ∧ d.p < 5) →
    ∃ pds : List PyData, (∀ (K : PySem.W.Frag) (H' : Hp) (dv : List V), TK H H' → Paired (DeedAt H') dv ds → DpAll K H' dv pds) ∧ (∀ d ∈ pds, Sm 5 70 d) ∧ Paired DD ds pds
  | [], _ => ⟨[], fun K H' dv g P => by cases P; exact .nil, fun d h => absurd h (by simp), .nil⟩
  | d :: ds, h => by
    obtain ⟨pds, h1, h2, h3⟩ := deeds_data ds fun e he => h e (List.mem_cons_of_mem _ he)
    obtain ⟨g0, g1, g2⟩ := h d List.mem_cons_self
    have smp : Sm 1 0 (.int (d.p : Nat)) := Sm.int (by omega) (by omega)
    cases hs : d.stp with
    | false =>
      obtain ⟨dx, vx, ox⟩ := g0 hs
      refine ⟨.tuple [.str "come", .int (d.p : Nat), dx] :: pds, fun K H' dv g P => ?_, fun e he => ?_, .cons ⟨_, _, rfl⟩ h3⟩
      · cases P with
        | cons a r =>
          obtain ⟨q, rfl, hq⟩ := a
          rw [hs] at hq
          exact .cons (.tup (.of hq) (.cons (.str _) (.cons (.int _) (.cons (vx.mono g).dp .nil)))) (h1 K H' _ g r)
      · rcases List.mem_cons.mp he with e' | e'
        · rw [e']
          exact (Sms.tup (.cons ((sm_word "come" (by decide +kernel)).mono (by decide : 1 ≤ 4) (Nat.le_refl 10)) (.cons (smp.mono (by decide) (Nat.le_refl 0)) (.cons ox.sm (Sms.nil (n := 0)))))).mono (by decide) (by decide)
        · exact h2 e e'
    | true =>
      obtain ⟨k, hk, ex⟩ := g1 hs
      refine ⟨.tuple [.str "step", .int (d.p : Nat), .str (DS.kindOf k)] :: pds, fun K H' dv g P => ?_, fun e he => ?_, .cons ⟨_, _, rfl⟩ h3⟩
      · cases P with
        | cons a r =>
          obtain ⟨q, rfl, hq⟩ := a
          rw [hs, ex] at hq
          exact .cons (.tup (.of hq) (.cons (.str _) (.cons (.int _) (.cons (.str _) .nil)))) (h1 K H' _ g r)
      · rcases List.mem_cons.mp he with e' | e'
        · rw [e']
          exact (Sms.tup (.cons ((sm_word "step" (by decide +kernel)).mono (by decide : 1 ≤ 4) (Nat.le_refl 10)) (.cons (smp.mono (by decide) (Nat.le_refl 0)) (.cons ((sm_kind hk).mono (by decide) (Nat.le_refl 10)) (Sms.nil (n := 0)))))).mono (by decide) (by decide)
        · exact h2 e e'
theorem eqv_players : ∀ {ds es : List Deed} {pd pe : List PyData}, Paired DD ds pd → Paired DD es pe → PyData.eqvAll pd pe = true → ds.map Deed.p = es.map Deed.p
  | _, _, _, _, .nil, .nil, _ => rfl
  | _, _, _, _, .nil, .cons _ _, h => by simp [PyData.eqvAll] at h
  | _, _, _, _, .cons _ _, .nil, h => by simp [PyData.eqvAll] at h
  | _, _, _, _, .cons a r, .cons b t, h => by
    obtain ⟨w, x, rfl⟩ := a
    obtain ⟨w', x', rfl⟩ := b
    rw [PyData.eqvAll, Bool.and_eq_true] at h
    have h1 := h.1
    simp only [PyData.eqv, PyData.eqvAll, Bool.and_eq_true] at h1
    have h2 := h1.2.1
    rw [List.map_cons, List.map_cons, eqv_players r t h.2]
    congr 1
    simp at h2
    omega
theorem DS.DOk.deeds {C : Addr} {H : Hp} {d : Addr} {s : DS} (h : s.DOk) (D : DoorAt C H d s) : ∀ x ∈ s.deeds, (x.stp = false → Good H x.x) ∧ (x.stp = true → ∃ k, k ≤ 3 ∧ x.x = .str (DS.kindOf k)) ∧ x.p < 5 := by
  intro x hx
  obtain ⟨dx', a, b, c, e, f, cv', hv', sv', dv', DD⟩ := D
  exact ⟨fun z => DD.good _ _ (h.dcm x hx z), h.dst x hx, h.dp x hx⟩
/-! ### (VALUE,) or None, as data -/
theorem opt_data {H : Hp} : ∀ m : List (Option V), (∀ x, some x ∈ m → Good H x) → ∃ ds : List PyData, (∀ (K : PySem.W.Frag) (H' : Hp) (cv : List V), TK H H' → Paired (One H') cv m → DpAll K H' cv ds) ∧ (∀ d ∈ ds, Sm 5 60 d) ∧ ds.length = m.length
  | [], _ => ⟨[], fun K H' cv g P => by cases P; exact .nil, fun d h => absurd h (by simp), rfl⟩
  | o :: m, h => by
    obtain ⟨ds, h1, h2, h3⟩ := opt_data m fun x hx => h x (List.mem_cons_of_mem _ hx)
    cases o with
    | none =>
      refine ⟨.none :: ds, fun K H' cv g P => ?_, fun d hd => ?_, by simp [h3]⟩
      · cases P with
        | cons a r => rw [show _ = V.non from a]; exact .cons .non (h1 K H' _ g r)
      · rcases List.mem_cons.mp hd with e | e
        · rw [e]; exact Sm.non.mono (by decide) (by decide)
        · exact h2 d e
    | some v =>
      obtain ⟨dv, vv, ov⟩ := h v List.mem_cons_self
      refine ⟨.tuple [dv] :: ds, fun K H' cv g P => ?_, fun d hd => ?_, by simp [h3]⟩
      · cases P with
        | cons a r => obtain ⟨q, rfl, hq⟩ := a; exact .cons (word_dp vv g hq) (h1 K H' _ g r)
      · rcases List.mem_cons.mp hd with e | e
        · rw [e]; exact word_data ov
        · exact h2 d e
/-! ### shown texts -/
theorem str_ext {a b : Str} (h : a.cps.toList = b.cps.toList) : a = b := by
  cases a; cases b; congr 1; exact Array.ext' h
theorem cpl (a b : Str) : (a ++ b).cps.toList = a.cps.toList ++ b.cps.toList := by rw [Str.cps_append]; simp
theorem textFrom_app : ∀ (as bs : List Str) (k : Nat) (acc : Str), textFrom k acc (as ++ bs) = textFrom (k + as.length) (textFrom k acc as) bs
  | [], bs, k, acc => rfl
  | a :: as, bs, k, acc => by
    show textFrom (k + 1) _ (as ++ bs) = _
    rw [textFrom_app as bs, List.length_cons, show k + 1 + as.length = k + (as.length + 1) by omega]
    rfl
def digit (p : Nat) : Nat := 48 + p
theorem int_text : ∀ p : Nat, p < 5 → (toString (p : Int) : Str).cps.toList = [digit p] := by decide +kernel
theorem pair_text {p : Nat} (hp : p < 5) (c : PyData) : ∃ r, (PyData.shown (.tuple [.int (p : Nat), c])).cps.toList = 40 :: digit p :: r := by
  refine ⟨?r, ?_⟩
  rotate_left
  · simp only [PyData.shown, PyData.shownAll, tupleText, Str.join, List.length_cons, List.length_nil]
    rw [cpl, cpl, cpl, cpl, int_text p hp]
    show [40] ++ ([digit p] ++ _ ++ _) ++ _ = _
    simp only [List.cons_append, List.nil_append, List.append_assoc]
    rfl
theorem shown_list (xs : List PyData) : PyData.shown (.list xs) = listText (PyData.shownAll xs) := by rw [PyData.shown]
theorem shownAll_app : ∀ xs ys : List PyData, PyData.shownAll (xs ++ ys) = PyData.shownAll xs ++ PyData.shownAll ys
  | [], ys => by simp [PyData.shownAll]
  | x :: xs, ys => by simp [PyData.shownAll, shownAll_app xs ys]
theorem textFrom2 (k : Nat) (acc a b : Str) : ∃ z, (textFrom k acc [a, b]).cps.toList = acc.cps.toList ++ (if k > 0 then [44, 32] else []) ++ a.cps.toList ++ z := by
  refine ⟨?z, ?_⟩
  rotate_left
  · show ((acc ++ _ ++ a) ++ _ ++ b).cps.toList = _
    rw [cpl, cpl, cpl, cpl]
    have : ((if k > 0 then ", " else "" : String) : Str).cps.toList = (if k > 0 then [44, 32] else []) := by split <;> decide +kernel
    rw [this, List.append_assoc]
/-- two lists of pairs that begin alike, and go on by other players -/
theorem shown_other {xs : List PyData} {p q : Nat} {c d : PyData} (hp : p < 5) (hq : q < 5) (h : p ≠ q) :
    PyData.shown (.list (xs ++ [.tuple [.int (p : Nat), c], .tuple [.int (q : Nat), d]])) ≠ PyData.shown (.list (xs ++ [.tuple [.int (q : Nat), d], .tuple [.int (p : Nat), c]])) := by
  intro e
  rw [shown_list, shown_list, shownAll_app, shownAll_app] at e
  unfold listText at e
  rw [textFrom_app, textFrom_app] at e
  have e2 := congrArg (fun z : Str => z.cps.toList) e
  simp only [cpl] at e2
  obtain ⟨z1, h1⟩ := textFrom2 (0 + (PyData.shownAll xs).length) (textFrom 0 "[" (PyData.shownAll xs)) (PyData.shown (.tuple [.int (p : Nat), c])) (PyData.shown (.tuple [.int (q : Nat), d]))
  obtain ⟨z2, h2⟩ := textFrom2 (0 + (PyData.shownAll xs).length) (textFrom 0 "[" (PyData.shownAll xs)) (PyData.shown (.tuple [.int (q : Nat), d])) (PyData.shown (.tuple [.int (p : Nat), c]))
  obtain ⟨r1, g1⟩ := pair_text hp c
  obtain ⟨r2, g2⟩ := pair_text hq d
  have s1 : PyData.shownAll [.tuple [.int (p : Nat), c], .tuple [.int (q : Nat), d]] = [PyData.shown (.tuple [.int (p : Nat), c]), PyData.shown (.tuple [.int (q : Nat), d])] := by simp [PyData.shownAll]
  have s2 : PyData.shownAll [.tuple [.int (q : Nat), d], .tuple [.int (p : Nat), c]] = [PyData.shown (.tuple [.int (q : Nat), d]), PyData.shown (.tuple [.int (p : Nat), c])] := by simp [PyData.shownAll]
  rw [s1, s2, h1, h2, g1, g2] at e2
  simp only [List.append_assoc] at e2
  have e3 := List.append_cancel_left (List.append_cancel_left e2)
  simp only [List.cons_append, List.cons.injEq, true_and] at e3
  have := e3.1
  unfold digit at this
  omega
theorem pr_imp' {α β : Type} {F G : α → β → Prop} : ∀ {l : List α} {m : List β}, Paired F l m → (∀ n ∈ l, ∀ y, F n y → G n y) → Paired G l m
  | _, _, .nil, _ => .nil
  | _, _, .cons a r, h => .cons (h _ List.mem_cons_self _ a) (pr_imp' r fun n hn => h n (List.mem_cons_of_mem _ hn))
def rListOf (K : PySem.W.Frag) : List V → Hp → VK → Prop := fun xs H Q => ∃ p ys, xs = [.ref p] ∧ (SqL K H p ys ∨ SqT K H p ys) ∧ ∀ l, H l = none → Q (.ref l) (upd H l (.lst ys))
theorem call_list_ofK {X : Cx} {K : PySem.W.Frag} (e : X.K = K := by rfl) : CallR X (.type "list") (rListOf K) := by subst e; exact call_list_of
/-! ### promises -/
def spCopy (C : Addr) : Sp := fun vs H Q _ => ∃ (d : Addr) (s : DS), vs = [.ref d] ∧ DoorAt C H d s ∧ ∀ e H', Same H H' → H e = none → DoorAt C H' e s → Q (.ref e) H'
def spDEq (C : Addr) : Sp := fun vs H Q _ => ∃ (d : Addr) (s : DS) (y : V), vs = [.ref d, y] ∧ DoorAt C H d s ∧ s.DOk ∧
  ((∃ e t, y = .ref e ∧ DoorAt C H e t ∧ t.DOk ∧ t.lev.length = s.lev.length ∧ ∀ b, (t.deeds = s.deeds → b = true) → (s.deeds.map Deed.p ≠ t.deeds.map Deed.p → b = false) → Q (.bl b) H) ∨ (∃ o kvs, y = .ref o ∧ H o = some (.dK kvs) ∧ Q (.bl false) H))
def spONext : Sp := fun vs H Q _ => ∃ (o : Addr) (L : List Addr) (p : Nat) (s : DS) (k : Int), vs = [.ref o, .int p] ∧ OwnAt H o L s k ∧ s.WF ∧ p < s.lev.length ∧ ∀ H', Same H H' → Q (optS (s.next p)) H'
def spOCopy : Sp := fun vs H Q _ => ∃ (o : Addr) (L : List Addr) (s : DS) (k : Int), vs = [.ref o] ∧ OwnAt H o L s k ∧ ∀ o' L' H', Same H H' → (∀ x ∈ L', H x = none) → OwnAt H' o' L' s k → Q (.ref o') H'
def spIsDoor (C : Addr) : Sp := fun vs H Q _ => ∃ (d o : Addr) (L : List Addr) (s : DS), vs = [.ref d, .ref o] ∧ DoorAt C H d s ∧ OwnAt H o L s (s.stps : Nat) ∧ s.DOk ∧ s.deeds.length < 100000 ∧ ∀ H', Same H H' → Q (.bl true) H'
/-! ### what was done -/
abbrev Done := Nat × Option V
def DoneAt (H : Hp) (x : V) (e : Done) : Prop := ∃ t c, x = .ref t ∧ H t = some (.tup [.int (e.1 : Nat), c]) ∧ e.1 < 5 ∧ match e.2 with
  | none => c = .non
  | some v => ∃ q, c = .ref q ∧ H q = some (.tup [v]) ∧ Good H v
theorem DoneAt.mono {H H' : Hp} (g : TK H H') {x : V} {e : Done} (h : DoneAt H x e) : DoneAt H' x e := by
  obtain ⟨p, o⟩ := e
  obtain ⟨t, c, h1, h2, h3, h4⟩ := h
  refine ⟨t, c, h1, g.t h2, h3, ?_⟩
  cases o with
  | none => exact h4
  | some v => obtain ⟨q, a, b, d⟩ := h4; exact ⟨q, a, g.t b, d.mono g⟩
def DS.does (s : DS) (e : Done) : DS := match e.2 with
  | none => s.step e.1
  | some v => s.come e.1 v
def DS.let_ (s : DS) (e : Done) : Prop := match e.2 with
  | none => s.cm e.1 ≠ none
  | some _ => s.cm e.1 = none ∧ e.1 < s.lev.length
def DS.run (s : DS) (l : List Done) : DS := l.foldl DS.does s
inductive Leg : DS → List Done → Prop
  | nil {s} : Leg s []
  | cons {s e l} : s.let_ e → Leg (s.does e) l → Leg s (e :: l)
section
variable {s : DS} {e f : Done} {l m : List Done}
theorem Leg.snoc : ∀ {l : List Done} {s : DS}, Leg s l → (s.run l).let_ e → Leg s (l ++ [e])
  | [], _, _, h => .cons h .nil
  | _ :: _, _, .cons a r, h => .cons a (Leg.snoc r h)
theorem Leg.take : ∀ {l m : List Done} {s : DS}, Leg s (l ++ m) → Leg s l ∧ Leg (s.run l) m
  | [], _, _, h => ⟨.nil, h⟩
  | _ :: _, _, _, .cons a r => ⟨.cons a (Leg.take r).1, (Leg.take r).2⟩
theorem Leg.app : ∀ {l m : List Done} {s : DS}, Leg s l → Leg (s.run l) m → Leg s (l ++ m)
  | [], _, _, _, h => h
  | _ :: _, _, _, .cons a r, h => .cons a (Leg.app r h)
theorem run_app : s.run (l ++ m) = (s.run l).run m := List.foldl_append
theorem len_does : (s.does e).lev.length = s.lev.length := by
  obtain ⟨p, o⟩ := e
  cases o with
  | none => exact DS.len_step
  | some v => rfl
theorem len_run : ∀ {l : List Done} {s : DS}, (s.run l).lev.length = s.lev.length
  | [], _ => rfl
  | e :: l, s => (len_run (l := l) (s := s.does e)).trans len_does
theorem WF_does (W : s.WF) (h : s.let_ e) : (s.does e).WF := by
  obtain ⟨p, o⟩ := e
  cases o with
  | none => exact W.step h
  | some v => exact W.come
theorem DOk_does (D : s.DOk) (W : s.WF) (h : s.let_ e) : (s.does e).DOk := by
  obtain ⟨p, o⟩ := e
  cases o with
  | none => exact D.step W h
  | some v => exact D.come W h.2 h.1
theorem both_run : ∀ {l : List Done} {s : DS}, Leg s l → s.WF → s.DOk → (s.run l).WF ∧ (s.run l).DOk
  | [], _, _, W, D => ⟨W, D⟩
  | _ :: _, _, .cons a r, W, D => by
    have h := both_run r (WF_does W a) (DOk_does D W a)
    exact h
theorem ps_does : (s.does e).deeds.map Deed.p = s.deeds.map Deed.p ++ [e.1] := by
  obtain ⟨p, o⟩ := e
  cases o with
  | none => show (s.step p).deeds.map Deed.p = _; rw [DS.step_deeds, List.map_append]; rfl
  | some v => show (s.come p v).deeds.map Deed.p = _; rw [show (s.come p v).deeds = s.deeds ++ [⟨false, p, v⟩] from rfl, List.map_append]; rfl
theorem ps_run : ∀ {l : List Done} {s : DS}, (s.run l).deeds.map Deed.p = s.deeds.map Deed.p ++ l.map Prod.fst
  | [], s => by simp [DS.run]
  | e :: l, s => by
    show ((s.does e).run l).deeds.map Deed.p = _
    rw [ps_run, ps_does]; simp
theorem cm_does (W : s.WF) (h : s.let_ e) (q : Nat) (hq : q ≠ e.1) : (s.does e).cm q = s.cm q := by
  obtain ⟨p, o⟩ := e
  cases o with
  | none => exact DS.cm_step q
  | some v =>
    show (s.come p v).cm q = _
    rw [DS.cm_come, if_neg]
    rintro ⟨z, _⟩; exact hq z.symm
theorem let_swap (W : s.WF) (he : s.let_ e) (hf : (s.does e).let_ f) (n : f.1 ≠ e.1) : s.let_ f ∧ (s.does f).let_ e := by
  have a : s.let_ f := by
    obtain ⟨q, o⟩ := f
    cases o with
    | none => show s.cm q ≠ none; rw [← cm_does W he q n]; exact hf
    | some v => exact ⟨by rw [← cm_does W he q n]; exact hf.1, by rw [← len_does (s := s) (e := e)]; exact hf.2⟩
  refine ⟨a, ?_⟩
  obtain ⟨p, o⟩ := e
  cases o with
  | none => show (s.does f).cm p ≠ none; rw [cm_does W a p (Ne.symm n)]; exact he
  | some v => exact ⟨by rw [cm_does W a p (Ne.symm n)]; exact he.1, by rw [len_does]; exact he.2⟩
theorem len_deeds_run : (s.run l).deeds.length = s.deeds.length + l.length := by
  have := congrArg List.length (ps_run (l := l) (s := s))
  simpa using this
end
def spAgain (C : Addr) (K : PySem.W.Frag) : Sp := fun vs H Q _ => ∃ (n : Nat) (dl : Addr) (xs : List V) (l : List Done), vs = [.int n, .ref dl] ∧ 1 ≤ n ∧ n ≤ 5 ∧ H dl = some (.lst xs) ∧ Paired (DoneAt H) xs l ∧ Leg (DS.new n) l ∧ l.length < 1000 ∧
  ∀ d H', Same H H' → H d = none → DoorAt C H' d ((DS.new n).run l) → Q (.ref d) H'
def spLDeed (C : Addr) : Sp := fun vs H Q _ => ∃ (pt d o dl : Addr) (L : List Addr) (s : DS) (m : Nat) (xs : List V), vs = [.ref pt, .ref d, .ref o, .ref dl] ∧ PotAt H pt m ∧ m < 800000 ∧ DoorAt C H d s ∧ OwnAt H o L s (s.stps : Nat) ∧ H dl = some (.lst xs) ∧ xs.length < 1000 ∧ s.deeds.length < 1000 ∧
  pt ∉ L ∧ pt ≠ d ∧ pt ≠ dl ∧ dl ∉ L ∧ dl ≠ d ∧ d ∉ L ∧
  ∀ (e : Done) (x : V) H', But (pt :: d :: dl :: L) H H' → PotAt H' pt (m + 100) → s.let_ e → DoorAt C H' d (s.does e) → OwnAt H' o L (s.does e) ((s.does e).stps : Nat) → H' dl = some (.lst (xs ++ [x])) → DoneAt H' x e → Q (.bl true) H'
theorem stps_step {s : DS} {p : Nat} : (s.step p).stps = s.stps + 1 := by
  unfold DS.stps
  rw [DS.step_deeds, List.filter_append, List.length_append]; rfl
theorem stps_come {s : DS} {p : Nat} {v : V} : (s.come p v).stps = s.stps := by
  unfold DS.stps
  rw [show (s.come p v).deeds = s.deeds ++ [⟨false, p, v⟩] from rfl, List.filter_append, List.length_append]; rfl
end Fp
/-! o.m(k = v, ..); players by other numbers -/
namespace Fp
open PySem PySem.Spec PyProof.Rows L2
/-! ### methods called by keywords alone -/
def tMethKW (C : Addr) (m : Str) (n : Nat) (sp : Sp) (gV : List V → List V → List V) (E : XK) (ta : TE) (tk : TA) : TE := fun σ H Q => ta σ H fun x H1 => ∃ a dx fs, x = .ref a ∧ H1 a = some (.ins C dx fs) ∧ fs.lookup m = none ∧ tk σ H1 fun zs H2 => zs.length = n ∧ sp (gV [.ref a] zs) H2 Q E
structure MdK (P : Program) (w : World) (K : PySem.W.Frag) (mg : Str → Option Value) (base : Heap) (CX : CXT) (C : Addr) (m : Str) (k : Nat) (ps ks : List Str) (g : List Value → List Value → List Value) (gV : List V → List V → List V) (sp : Sp) : Prop where
  ex : ∃ (f : Addr) (fd : FuncData), Meth K C m f ∧ KBn K fd ps 1 ks g gV ∧ FnOk P w K mg base CX k f fd ps sp
section
variable {X : Cx} {k : Nat} {C : Addr} {ps ks : List Str} {sp : Sp} {m : Str} {pos apos : Pos} {o : Expr} {kws : List Keyword} {ta : TE} {tk : TA} {g : List Value → List Value → List Value} {gV : List V → List V → List V}
theorem pe_mdK {pl : Sem Bool} (he : PE X o ta) (c : Cls X.K C) (M : MdK X.prog X.w X.K X.mg X.base CX0 C m k ps ks g gV sp) (hr : Room k X.A) (hkw : PK X kws tk)
    (hall : (backToKw pos (keywordEach kws X.env)).all (·.1.isSome) = true := by rfl) (hks : (backToKw pos (keywordEach kws X.env)).filterMap (·.1) = ks := by rfl)
    (hpl : ((backTo pos (starEach [] X.env)).any (·.1) || (backToKw pos (keywordEach kws X.env)).any (·.1.isNone)) = false := by rfl)
    (ht : eval (.Call (.Attribute o m apos) [] kws pos) X.env = (do
      let ov ← eval o X.env
      standAt apos.atName
      let (f, first) ← holding [ov] (getMethod ov m pl)
      callWith pos f first (backTo pos (starEach [] X.env)) (backToKw pos (keywordEach kws X.env))) := by rfl) :
    PE X (.Call (.Attribute o m apos) [] kws pos) (tMethKW C m ks.length sp gV E0 ta tk) := by
  obtain ⟨f, fd, hm, hb, F⟩ := M.ex
  refine ⟨fun pins s σ H Q I h => ?_⟩
  refine PySem.W.methodCall_KW (pl := pl) (thn (he.run pins s σ H _ I h) fun u s1 ⟨x, H1, I1, rx, a, dx, fs, ex, ea, l, q⟩ => ?_) ht
  subst ex
  obtain rfl : u = Value.ref a := rx
  refine getmeth_ok I1 ea c hm l ?_
  refine PySem.W.callWith_KW0 (first := [.ref a]) (h₀ := X.base) I.ok.mod.kin hm.kp hall ?_ hpl
  refine thn (hkw.run pos pins s1 σ H1 _ I1 q) fun ws s2 ⟨zs, H2, I2, rz, l2, q2⟩ => ⟨I2.kIn, ?_⟩
  rw [hks]
  have r1 : Vals [V.ref a] [Value.ref a] := .cons rfl .nil
  have r2 := hb.rel r1 rz
  refine wpAny_call (codeAny_mono (F.run X.A X.stack s2 H2 ⟨[.ref a], ks.zip ws⟩ (g [.ref a] ws) (gV [.ref a] zs) Q E0 hr I2.env0 (hb.to s2 [.ref a] ws I2.kIn rfl (rz.length.symm.trans l2)) r2 q2) fun r s' hq => ?_)
  cases r with
  | error e => exact pass0 pins σ H2 s2 e s' I2 hq
  | ok fl =>
    cases fl with
    | ret u => exact I2.after hq
    | next => exact False.elim hq
    | brk => exact False.elim hq
    | cont => exact False.elim hq
end
/-! ### rows by other numbers -/
structure Nu (nu : List Nat) : Prop where
  lt : ∀ q ∈ nu, q < 5
  up : nu.Pairwise (· < ·)
def ledF {β : Type} : List β → List Nat → List β → List β
  | x :: xs, q :: nu, acc => ledF xs nu (acc.set q x)
  | _, _, acc => acc
def ledL {α : Type} (nu : List Nat) (xs : List (Option α)) : List (Option α) := ledF xs nu (List.replicate 5 none)
theorem led_snoc {β : Type} {x : β} {q : Nat} : ∀ {xs : List β} {nu : List Nat} {acc : List β}, nu[xs.length]? = some q → ledF (xs ++ [x]) nu acc = (ledF xs nu acc).set q x
  | [], [], acc, h => by cases h
  | [], r :: nu, acc, h => by cases h; cases nu <;> rfl
  | y :: ys, [], acc, h => by cases h
  | y :: ys, r :: nu, acc, h => by
    show ledF (ys ++ [x]) nu (acc.set r y) = (ledF ys nu (acc.set r y)).set q x
    exact led_snoc (by simpa using h)
theorem led_len {β : Type} : ∀ (xs : List β) (nu : List Nat) (acc : List β), (ledF xs nu acc).length = acc.length
  | [], nu, acc => by cases nu <;> rfl
  | x :: xs, [], acc => rfl
  | x :: xs, q :: nu, acc => by show (ledF xs nu _).length = _; rw [led_len xs nu]; simp
theorem led_map {β γ : Type} (f : β → γ) : ∀ (xs : List β) (nu : List Nat) (acc : List β), (ledF xs nu acc).map f = ledF (xs.map f) nu (acc.map f)
  | [], nu, acc => by cases nu <;> rfl
  | x :: xs, [], acc => rfl
  | x :: xs, q :: nu, acc => by
    show (ledF xs nu _).map f = ledF (xs.map f) nu ((acc.map f).set q (f x))
    rw [led_map f xs nu, List.map_set]
theorem led_pair {β γ : Type} {F : β → γ → Prop} : ∀ {xs : List β} {ys : List γ} {nu : List Nat} {acc : List β} {bcc : List γ}, Paired F xs ys → Paired F acc bcc → Paired F (ledF xs nu acc) (ledF ys nu bcc)
  | _, _, nu, _, _, .nil, h => by cases nu <;> exact h
  | _, _, [], _, _, .cons _ _, h => h
  | _, _, q :: nu, _, _, .cons a r, h => led_pair (nu := nu) r (pr_set a q h)
theorem ledL_len {α : Type} {nu : List Nat} {xs : List (Option α)} : (ledL nu xs).length = 5 := by unfold ledL; rw [led_len]; simp
section
variable {nu : List Nat}
theorem Nu.inj (N : Nu nu) {p p' q : Nat} (h : nu[p]? = some q) (h' : nu[p']? = some q) : p = p' := by
  have a := List.getElem?_eq_some_iff.mp h
  have b := List.getElem?_eq_some_iff.mp h'
  obtain ⟨a1, a2⟩ := a
  obtain ⟨b1, b2⟩ := b
  have up := List.pairwise_iff_getElem.mp N.up
  rcases Nat.lt_trichotomy p p' with h | h | h
  · have := up p p' a1 b1 h; omega
  · exact h
  · have := up p' p b1 a1 h; omega
theorem Nu.mono (N : Nu nu) {p p' q q' : Nat} (h : nu[p]? = some q) (h' : nu[p']? = some q') : p < p' ↔ q < q' := by
  obtain ⟨a1, a2⟩ := List.getElem?_eq_some_iff.mp h
  obtain ⟨b1, b2⟩ := List.getElem?_eq_some_iff.mp h'
  have up := List.pairwise_iff_getElem.mp N.up
  constructor
  · intro z; have := up p p' a1 b1 z; omega
  · intro z
    rcases Nat.lt_trichotomy p p' with h | h | h
    · exact h
    · subst h; omega
    · have := up p' p b1 a1 h; omega
theorem Nu.five (N : Nu nu) {p q : Nat} (h : nu[p]? = some q) : q < 5 := N.lt q (List.mem_of_getElem? h)
theorem led_at {α : Type} (N : Nu nu) {xs : List (Option α)} (hl : xs.length = nu.length) : ∀ i, i ≤ xs.length → (∀ p q, p < i → nu[p]? = some q → (ledL nu (xs.take i)).getD q none = xs.getD p none) ∧ (∀ q, (∀ p, p < i → nu[p]? ≠ some q) → (ledL nu (xs.take i)).getD q none = none)
  | 0, _ => ⟨fun p q h => absurd h (by omega), fun q _ => by
    rw [List.take_zero]
    show (ledF [] nu (List.replicate 5 none)).getD q none = none
    have : ledF ([] : List (Option α)) nu (List.replicate 5 none) = List.replicate 5 none := by cases nu <;> rfl
    rw [this]; exact DS.rep_none 5 q⟩
  | i + 1, hi => by
    obtain ⟨h1, h2⟩ := led_at N hl i (by omega)
    have hx : xs[i]? = some xs[i] := List.getElem?_eq_getElem (by omega)
    obtain ⟨q0, hq0⟩ : ∃ q, nu[i]? = some q := ⟨nu[i], List.getElem?_eq_getElem (by omega)⟩
    have e : ledL nu (xs.take (i + 1)) = (ledL nu (xs.take i)).set q0 xs[i] := by
      rw [List.take_add_one, hx]
      exact led_snoc (by rw [List.length_take, Nat.min_eq_left (by omega)]; exact hq0)
    have q5 := N.five hq0
    rw [e]
    refine ⟨fun p q hp hq => ?_, fun q hq => ?_⟩
    · rw [getD_set, ledL_len]
      by_cases z : q0 = q
      · rw [if_pos ⟨z, q5⟩]
        subst z
        have := N.inj hq hq0
        subst this
        exact (getD_of hx).symm
      · rw [if_neg (fun w => z w.1)]
        refine h1 p q ?_ hq
        by_cases pi : p = i
        · subst pi; rw [hq0] at hq; exact absurd (Option.some.inj hq) z
        · omega
    · rw [getD_set, if_neg]
      · exact h2 q fun p hp => hq p (by omega)
      · rintro ⟨z, _⟩; exact hq i (by omega) (by rw [hq0, z])
theorem ledL_at {α : Type} (N : Nu nu) {xs : List (Option α)} (hl : xs.length = nu.length) {p q : Nat} (h : nu[p]? = some q) : (ledL nu xs).getD q none = xs.getD p none := by
  have := (led_at N hl xs.length (Nat.le_refl _)).1 p q (by rw [hl]; exact get_lt h) h
  rwa [List.take_length] at this
theorem ledL_off {α : Type} (N : Nu nu) {xs : List (Option α)} (hl : xs.length = nu.length) {q : Nat} (h : q ∉ nu) : (ledL nu xs).getD q none = none := by
  have := (led_at N hl xs.length (Nat.le_refl _)).2 q (fun p _ z => h (List.mem_of_getElem? z))
  rwa [List.take_length] at this
theorem mem_led {α : Type} (N : Nu nu) {xs : List (Option α)} (hl : xs.length = nu.length) (x : α) : some x ∈ ledL nu xs ↔ some x ∈ xs := by
  rw [mem_getD, mem_getD]
  constructor
  · rintro ⟨q, hq⟩
    by_cases z : q ∈ nu
    · obtain ⟨p, hp⟩ := List.getElem?_of_mem z
      exact ⟨p, by rw [← ledL_at N hl hp]; exact hq⟩
    · rw [ledL_off N hl z] at hq; cases hq
  · rintro ⟨p, hp⟩
    have hlt := (getD_none_of hp).1
    have : nu[p]? = some nu[p] := List.getElem?_eq_getElem (by omega)
    exact ⟨nu[p], by rw [ledL_at N hl this]; exact hp⟩
end
theorem ext_getD {α : Type} {l m : List (Option α)} (h : l.length = m.length) (e : ∀ q, l.getD q none = m.getD q none) : l = m := by
  refine List.ext_getElem? fun q => ?_
  by_cases hq : q < l.length
  · have := e q
    rw [getD_at hq, getD_at (by omega), this]
  · rw [List.getElem?_eq_none (by omega), List.getElem?_eq_none (by omega)]
theorem sorted_ext : ∀ {l m : List Nat}, l.Pairwise (· < ·) → m.Pairwise (· < ·) → (∀ x, x ∈ l ↔ x ∈ m) → l = m
  | [], [], _, _, _ => rfl
  | [], b :: m, _, _, h => absurd ((h b).mpr List.mem_cons_self) (by simp)
  | a :: l, [], _, _, h => absurd ((h a).mp List.mem_cons_self) (by simp)
  | a :: l, b :: m, hl, hm, h => by
    obtain ⟨a1, a2⟩ := List.pairwise_cons.mp hl
    obtain ⟨b1, b2⟩ := List.pairwise_cons.mp hm
    have eab : a = b := by
      rcases List.mem_cons.mp ((h a).mp List.mem_cons_self) with e | e
      · exact e
      · rcases List.mem_cons.mp ((h b).mpr List.mem_cons_self) with e' | e'
        · exact e'.symm
        · have := b1 a e; have := a1 b e'; omega
    subst eab
    congr 1
    refine sorted_ext a2 b2 fun x => ?_
    constructor
    · intro hx
      rcases List.mem_cons.mp ((h x).mp (List.mem_cons_of_mem _ hx)) with e | e
      · have := a1 x hx; omega
      · exact e
    · intro hx
      rcases List.mem_cons.mp ((h x).mpr (List.mem_cons_of_mem _ hx)) with e | e
      · have := b1 x hx; omega
      · exact e
/-! ### who can be told next -/
namespace DS
def cameL (s : DS) : List Nat := (List.range s.lev.length).filter fun p => (s.cm p).isSome
def readyL (s : DS) : List Nat := s.held.filter fun p => s.won p
def minN (a : Nat) (l : List Nat) : Nat := l.foldl min a
def wins (s : DS) : List Nat := if some 2 ∈ s.lev then [minN s.two s.readyL] else match s.readyL with
  | [] => s.cameL
  | r :: _ => (s.cameL.filter fun p => decide (p < r) && (s.sn p).isNone) ++ [r]
end DS
theorem minN_spec : ∀ (l : List Nat) (a : Nat), DS.minN a l ∈ a :: l ∧ ∀ x ∈ a :: l, DS.minN a l ≤ x
  | [], a => ⟨by simp [DS.minN], fun x hx => by rw [List.mem_singleton.mp hx]; exact Nat.le_refl _⟩
  | b :: l, a => by
    obtain ⟨h1, h2⟩ := minN_spec l (min a b)
    have e : DS.minN a (b :: l) = DS.minN (min a b) l := rfl
    rw [e]
    refine ⟨?_, fun x hx => ?_⟩
    · rcases List.mem_cons.mp h1 with z | z
      · rw [z]
        rcases Nat.le_total a b with w | w
        · rw [Nat.min_eq_left w]; simp
        · rw [Nat.min_eq_right w]; simp
      · simp [z]
    · have hm := h2 (min a b) List.mem_cons_self
      rcases List.mem_cons.mp hx with z | z
      · rw [z]; exact Nat.le_trans hm (Nat.min_le_left _ _)
      · rcases List.mem_cons.mp z with z | z
        · rw [z]; exact Nat.le_trans hm (Nat.min_le_right _ _)
        · exact h2 x (List.mem_cons_of_mem _ z)
theorem minN_of {a m : Nat} {l : List Nat} (h1 : m ∈ a :: l) (h2 : ∀ x ∈ a :: l, m ≤ x) : DS.minN a l = m := by
  obtain ⟨a1, a2⟩ := minN_spec l a
  exact Nat.le_antisymm (a2 m h1) (h2 _ a1)
def dedup (l : List Nat) : List Nat := l.foldl (fun acc x => if x ∈ acc then acc else acc ++ [x]) []
theorem dedup_snoc (l : List Nat) (x : Nat) : dedup (l ++ [x]) = if x ∈ dedup l then dedup l else dedup l ++ [x] := by
  unfold dedup; rw [List.foldl_append]; rfl
theorem take_last {l : List Nat} {n : Nat} (h : l.length = n + 1) : l = l.take n ++ [l[n]] := by
  conv => lhs; rw [← List.take_append_drop n l]
  congr 1
  rw [List.drop_eq_getElem_cons (by omega)]
  congr 1
  exact List.drop_eq_nil_of_le (by omega)
theorem dedup_len : ∀ (n : Nat) (l : List Nat), l.length = n → (dedup l).length ≤ n
  | 0, l, h => by rw [List.length_eq_zero_iff.mp h]; decide
  | n + 1, l, h => by
    have e := take_last h
    rw [e, dedup_snoc]
    have ih := dedup_len n (l.take n) (by rw [List.length_take]; omega)
    split
    · omega
    · rw [List.length_append]; show _ + 1 ≤ _; omega
theorem dedup_mem : ∀ (n : Nat) (l : List Nat), l.length = n → ∀ x ∈ dedup l, x ∈ l
  | 0, l, h => by rw [List.length_eq_zero_iff.mp h]; simp [dedup]
  | n + 1, l, h => by
    have e := take_last h
    rw [e, dedup_snoc]
    have ih := dedup_mem n (l.take n) (by rw [List.length_take]; omega)
    intro x hx
    split at hx
    · exact List.mem_append_left _ (ih x hx)
    · rcases List.mem_append.mp hx with z | z
      · exact List.mem_append_left _ (ih x z)
      · exact List.mem_append_right _ z
def spWinG (C : Addr) : Sp := fun vs H Q _ => ∃ (d : Addr) (s : DS), vs = [.ref d] ∧ DoorAt C H d s ∧ ∀ (l : Addr) H', Same H H' → H l = none → H' l = some (.lst (natV s.wins)) → Q (.ref l) H'
def spMayG (C : Addr) : Sp := fun vs H Q _ => ∃ (d : Addr) (s : DS) (cod : Nat → V) (dat : Nat → PyData) (cs : Nat → Nat), vs = [.ref d] ∧ DoorAt C H d s ∧ (∀ p v, s.cm p = some v → v = cod (cs p)) ∧ (∀ p, VAt H (cod (cs p)) (dat (cs p)) ∧ VOk 3 (dat (cs p))) ∧
  (∀ p q, PyData.eqv (dat (cs p)) (dat (cs q)) = decide (cs p = cs q)) ∧ ∀ t H', Same H H' → H' t = some (.tup ((dedup (s.wins.map cs)).map cod)) → Q (.ref t) H'
theorem wins_mem {s : DS} (W : s.WF) {p : Nat} (h : p ∈ s.wins) : p < s.lev.length ∧ s.cm p ≠ none := by
  have hheld : ∀ p ∈ s.held, p < s.lev.length ∧ s.lv p = some 1 := fun p hp => by
    have := List.mem_filter.mp hp
    exact ⟨List.mem_range.mp this.1, of_decide_eq_true this.2⟩
  have hr : ∀ p ∈ s.readyL, p < s.lev.length ∧ s.cm p ≠ none := fun p hp => by
    have := hheld p (List.mem_filter.mp hp).1
    exact ⟨this.1, W.cmv p (by rw [this.2]; simp)⟩
  have hc : ∀ p ∈ s.cameL, p < s.lev.length ∧ s.cm p ≠ none := fun p hp => by
    have := List.mem_filter.mp hp
    refine ⟨List.mem_range.mp this.1, fun z => ?_⟩
    rw [z] at this; exact absurd this.2 (by simp)
  unfold DS.wins at h
  split at h
  · rename_i h2
    rw [List.mem_singleton.mp h]
    obtain ⟨h1, _⟩ := minN_spec s.readyL s.two
    rcases List.mem_cons.mp h1 with z | z
    · rw [z]
      obtain ⟨m1, m2, _⟩ := DS.two_lev (mem_getD.mp h2)
      exact ⟨m1, W.cmv _ (by rw [m2]; simp)⟩
    · exact hr _ z
  · split at h
    · exact hc p h
    · rename_i r rs e
      rcases List.mem_append.mp h with z | z
      · exact hc p (List.mem_filter.mp z).1
      · rw [List.mem_singleton.mp z]; exact hr r (by rw [e]; exact List.mem_cons_self)
theorem wins_len {s : DS} (W : s.WF) : s.wins.length ≤ 6 := by
  have h5 := W.n5
  have hc : s.cameL.length ≤ 5 := by
    have := List.length_filter_le (fun p => (s.cm p).isSome) (List.range s.lev.length)
    rw [List.length_range] at this
    unfold DS.cameL; omega
  unfold DS.wins
  split
  · show 1 ≤ 6; decide
  · split
    · omega
    · rename_i r _ _
      rw [List.length_append]
      have := List.length_filter_le (fun p => decide (p < r) && (s.sn p).isNone) s.cameL
      show _ + 1 ≤ 6
      omega
/-! ### two doors, the one by other numbers -/
structure RelD (nm : V → V) (nu : List Nat) (s t : DS) : Prop where
  N : Nu nu
  ls : s.lev.length = nu.length
  lt : t.lev.length = 5
  Ws : s.WF
  Wt : t.WF
  lv : ∀ p q, nu[p]? = some q → t.lv q = s.lv p
  cm : ∀ p q, nu[p]? = some q → t.cm q = (s.cm p).map nm
  sn : ∀ p q, nu[p]? = some q → t.sn q = (s.sn p).map (ledL nu)
  hd : ∀ p q, nu[p]? = some q → t.hd q = (s.hd p).map nm
  offC : ∀ q, q ∉ nu → t.cm q = none
  offH : ∀ q, q ∉ nu → t.hd q = none
  snl : ∀ p l, s.sn p = some l → l.length = nu.length
  st : t.stps = s.stps
def mapT (nm : V → V) (nu : List Nat) : Told → Told
  | .level i => .level i
  | .look l => .look (ledL nu l)
  | .wait => .wait
  | .word v => .word (nm v)
section
variable {nm : V → V} {nu : List Nat} {s t : DS} {p q : Nat} {v : V}
theorem RelD.new {n : Nat} (N : Nu nu) (h1 : 1 ≤ n) (h5 : n ≤ 5) (hl : nu.length = n) : RelD nm nu (DS.new n) (DS.new 5) := by
  refine ⟨N, by simp [DS.new, hl], by simp [DS.new], .new h1 h5, .new (by decide) (by decide), ?_, ?_, ?_, ?_, ?_, ?_, ?_, rfl⟩
  · intro p q _; rw [DS.lv_new, DS.lv_new]
  · intro p q _; rw [DS.cm_new, DS.cm_new]; rfl
  · intro p q _; rw [DS.sn_new, DS.sn_new]; rfl
  · intro p q _; rw [DS.hd_new, DS.hd_new]; rfl
  · intro q _; exact DS.cm_new _ _
  · intro q _; exact DS.hd_new _ _
  · intro p l h; rw [DS.sn_new] at h; cases h
theorem RelD.offL (R : RelD nm nu s t) (h : q ∉ nu) : t.lv q = none := by
  cases e : t.lv q with
  | none => rfl
  | some x => exact absurd (R.offC q h) (R.Wt.cmv q (by rw [e]; simp))
theorem RelD.offS (R : RelD nm nu s t) (h : q ∉ nu) : t.sn q = none := by
  cases e : t.sn q with
  | none => rfl
  | some x => exact absurd (R.offL h) (R.Wt.snv q (by rw [e]; simp))
theorem RelD.lev (R : RelD nm nu s t) : t.lev = ledL nu s.lev := by
  refine ext_getD (by rw [R.lt, ledL_len]) fun q => ?_
  by_cases h : q ∈ nu
  · obtain ⟨p, hp⟩ := List.getElem?_of_mem h
    rw [ledL_at R.N R.ls hp]; exact R.lv p q hp
  · rw [ledL_off R.N R.ls h]; exact R.offL h
theorem RelD.heard (R : RelD nm nu s t) : t.heard = ledL nu (s.heard.map (Option.map nm)) := by
  have hl : (s.heard.map (Option.map nm)).length = nu.length := by rw [List.length_map, R.Ws.lh, R.ls]
  refine ext_getD (by rw [R.Wt.lh, R.lt, ledL_len]) fun q => ?_
  by_cases h : q ∈ nu
  · obtain ⟨p, hp⟩ := List.getElem?_of_mem h
    rw [ledL_at R.N hl hp]
    have e : (s.heard.map (Option.map nm)).getD p none = (s.hd p).map nm := by
      rw [List.getD_eq_getElem?_getD, List.getElem?_map]
      unfold DS.hd
      rw [List.getD_eq_getElem?_getD]
      cases s.heard[p]? <;> rfl
    rw [e]; exact R.hd p q hp
  · rw [ledL_off R.N hl h]; exact R.offH q h
theorem RelD.stg (R : RelD nm nu s t) (h : nu[p]? = some q) : t.stg q = s.stg p := by
  unfold DS.stg
  rw [R.lv p q h, R.sn p q h]
  unfold DS.stgOf
  cases s.sn p <;> rfl
theorem RelD.mem (R : RelD nm nu s t) (x : Int) : some x ∈ t.lev ↔ some x ∈ s.lev := by rw [R.lev]; exact mem_led R.N R.ls x
theorem RelD.saw (R : RelD nm nu s t) (h : nu[p]? = some q) : t.saw q = s.saw p := by
  unfold DS.saw
  rw [R.sn p q h]
  cases e : s.sn p with
  | none => rfl
  | some l => exact decide_eq_decide.mpr (mem_led R.N (R.snl p l e) 2)
theorem RelD.won (R : RelD nm nu s t) (h : nu[p]? = some q) : t.won q = s.won p := by
  unfold DS.won
  rw [R.sn p q h]
  cases e : s.sn p with
  | none => rfl
  | some l => show (!decide _) = (!decide _); rw [decide_eq_decide.mpr (mem_led R.N (R.snl p l e) 2)]
theorem RelD.wr (R : RelD nm nu s t) (h : nu[p]? = some q) : t.wr q = s.wr p := by unfold DS.wr; rw [R.saw h]
theorem RelD.at (R : RelD nm nu s t) (h : p < s.lev.length) : nu[p]? = some (nu.getD p 0) := by
  rw [R.ls] at h
  rw [List.getD_eq_getElem?_getD, List.getElem?_eq_getElem h]; rfl
theorem RelD.two (R : RelD nm nu s t) (h2 : ∃ p, s.lv p = some 2) : nu[s.two]? = some t.two := by
  obtain ⟨a1, a2, a3⟩ := DS.two_lev h2
  have hq := R.at a1
  have t2 : t.lv (nu.getD s.two 0) = some 2 := by rw [R.lv _ _ hq]; exact a2
  obtain ⟨b1, b2, b3⟩ := DS.two_lev ⟨_, t2⟩
  by_cases hm : t.two ∈ nu
  · obtain ⟨p', hp'⟩ := List.getElem?_of_mem hm
    have e2 : s.lv p' = some 2 := by rw [← R.lv p' _ hp']; exact b2
    have h3 : ¬ p' < s.two := fun z => a3 p' z e2
    have h4 : ¬ nu.getD s.two 0 < t.two := fun z => b3 _ z t2
    have h5 := R.N.mono hq hp'
    have : p' = s.two := by
      have : ¬ s.two < p' := fun z => h4 (h5.mp z)
      omega
    rw [← this]; exact hp'
  · rw [R.offL hm] at b2; cases b2
theorem RelD.told (R : RelD nm nu s t) (h : nu[p]? = some q) : t.told q = mapT nm nu (s.told p) := by
  have h4 := DS.stg_lt s p
  have e := R.stg h
  rcases (show s.stg p = 0 ∨ s.stg p = 1 ∨ s.stg p = 2 ∨ s.stg p = 3 by omega) with z | z | z | z <;> rw [z] at e
  · rw [DS.told0 z, DS.told0 e]; rfl
  · rw [DS.told1 z, DS.told1 e, R.lev]; rfl
  · rw [DS.told2 z, DS.told2 e, R.wr h]; rfl
  · rw [DS.told3 z, DS.told3 e]
    by_cases y : some 1 ∈ s.lev
    · rw [if_pos y, if_pos ((R.mem 1).mpr y)]; rfl
    · rw [if_neg y, if_neg (fun w => y ((R.mem 1).mp w))]
      have h2 := DS.ask_two R.Ws z
      obtain ⟨v, hv⟩ := DS.two_came R.Ws h2
      rw [R.cm _ _ (R.two h2), hv]; rfl
theorem RelD.ne (R : RelD nm nu s t) {p' q' : Nat} (h : nu[p]? = some q) (h' : nu[p']? = some q') : p = p' ↔ q = q' := by
  constructor
  · rintro rfl; rw [h] at h'; exact Option.some.inj h'
  · rintro rfl; exact R.N.inj h h'
theorem RelD.come (R : RelD nm nu s t) (h : nu[p]? = some q) : RelD nm nu (s.come p v) (t.come q (nm v)) := by
  have hp : p < s.came.length := by rw [R.Ws.lc, R.ls]; exact get_lt h
  have hq : q < t.came.length := by rw [R.Wt.lc, R.lt]; exact R.N.five h
  refine ⟨R.N, R.ls, R.lt, R.Ws.come, R.Wt.come, R.lv, fun p' q' h' => ?_, R.sn, R.hd, fun q' h' => ?_, R.offH, R.snl, by rw [stps_come, stps_come]; exact R.st⟩
  · rw [DS.cm_come, DS.cm_come]
    by_cases z : p = p'
    · rw [if_pos ⟨(R.ne h h').mp z, hq⟩, if_pos ⟨z, hp⟩]; rfl
    · rw [if_neg (fun w => z ((R.ne h h').mpr w.1)), if_neg (fun w => z w.1)]; exact R.cm p' q' h'
  · rw [DS.cm_come, if_neg]
    · exact R.offC q' h'
    · rintro ⟨z, _⟩; exact h' (z ▸ List.mem_of_getElem? h)
theorem RelD.step (R : RelD nm nu s t) (h : nu[p]? = some q) (hc : s.cm p ≠ none) : RelD nm nu (s.step p) (t.step q) := by
  have hc' : t.cm q ≠ none := by
    rw [R.cm p q h]
    cases e : s.cm p with
    | none => exact absurd e hc
    | some v => simp
  have hp := DS.lt_of_cm R.Ws hc
  have hq := DS.lt_of_cm R.Wt hc'
  have hps : p < s.seen.length := by rw [R.Ws.ls]; exact hp
  have hqs : q < t.seen.length := by rw [R.Wt.ls]; exact hq
  have e := R.stg h
  have h4 := DS.stg_lt s p
  have ne := fun p' q' (h' : nu[p']? = some q') => R.ne h h'
  have hdR : ∀ p' q', nu[p']? = some q' → (t.step q).hd q' = ((s.step p).hd p').map nm := fun p' q' h' => by
    rw [DS.hd_step R.Ws hc, DS.hd_step R.Wt hc']
    by_cases z : p = p' ∧ s.stg p = 3 ∧ some 1 ∉ s.lev
    · rw [if_pos z, if_pos ⟨(ne p' q' h').mp z.1, by rw [e]; exact z.2.1, fun w => z.2.2 ((R.mem 1).mp w)⟩]
      exact R.cm _ _ (R.two (DS.ask_two R.Ws z.2.1))
    · rw [if_neg z, if_neg (fun w => z ⟨(ne p' q' h').mpr w.1, by rw [← e]; exact w.2.1, fun y => w.2.2 ((R.mem 1).mpr y)⟩)]
      exact R.hd p' q' h'
  have offHR : ∀ q', q' ∉ nu → (t.step q).hd q' = none := fun q' h' => by
    rw [DS.hd_step R.Wt hc', if_neg]
    · exact R.offH q' h'
    · rintro ⟨z, _⟩; exact h' (z ▸ List.mem_of_getElem? h)
  have stR : (t.step q).stps = (s.step p).stps := by rw [stps_step, stps_step, R.st]
  refine ⟨R.N, by rw [DS.len_step]; exact R.ls, by rw [DS.len_step]; exact R.lt, R.Ws.step hc, R.Wt.step hc', fun p' q' h' => ?_, fun p' q' h' => by rw [DS.cm_step, DS.cm_step]; exact R.cm p' q' h', fun p' q' h' => ?_, hdR, fun q' h' => by rw [DS.cm_step]; exact R.offC q' h', offHR, fun p' l h' => ?_, stR⟩
  · rcases (show s.stg p = 0 ∨ s.stg p = 1 ∨ s.stg p = 2 ∨ s.stg p = 3 by omega) with z | z | z | z <;> rw [z] at e
    · rw [DS.lv_step0 z hp, DS.lv_step0 e hq]
      by_cases y : p = p'
      · rw [if_pos y, if_pos ((ne p' q' h').mp y)]
      · rw [if_neg y, if_neg (fun w => y ((ne p' q' h').mpr w))]; exact R.lv p' q' h'
    · rw [DS.lv_step1 z, DS.lv_step1 e]; exact R.lv p' q' h'
    · rw [DS.lv_step2 z hp, DS.lv_step2 e hq, R.wr h]
      by_cases y : p = p'
      · rw [if_pos y, if_pos ((ne p' q' h').mp y)]
      · rw [if_neg y, if_neg (fun w => y ((ne p' q' h').mpr w))]; exact R.lv p' q' h'
    · rw [DS.lv_step3 z, DS.lv_step3 e]; exact R.lv p' q' h'
  · by_cases z : s.stg p = 1
    · rw [DS.sn_step1 z hps, DS.sn_step1 (by rw [e]; exact z) hqs]
      by_cases y : p = p'
      · rw [if_pos y, if_pos ((ne p' q' h').mp y), R.lev]; rfl
      · rw [if_neg y, if_neg (fun w => y ((ne p' q' h').mpr w))]; exact R.sn p' q' h'
    · rw [DS.sn_stepN z, DS.sn_stepN (by rw [e]; exact z)]; exact R.sn p' q' h'
  · by_cases z : s.stg p = 1
    · rw [DS.sn_step1 z hps] at h'
      split at h'
      · cases h'; exact R.ls
      · exact R.snl p' l h'
    · rw [DS.sn_stepN z] at h'; exact R.snl p' l h'
/-- lots of players, by other numbers -/
theorem RelD.lots (R : RelD nm nu s t) {f g : Nat → Bool} (hg : ∀ q, q ∉ nu → g q = false) (h : ∀ p q, nu[p]? = some q → g q = f p) : (List.range t.lev.length).filter g = ((List.range s.lev.length).filter f).map fun p => nu.getD p 0 := by
  have rs : ∀ n, (List.range n).Pairwise (· < ·) := fun n => List.pairwise_lt_range
  refine sorted_ext ((rs _).filter _) ?_ fun x => ?_
  · rw [List.pairwise_map]
    refine List.Pairwise.imp_of_mem ?_ ((rs s.lev.length).filter f)
    intro a b ha hb hab
    have ha := List.mem_range.mp (List.mem_filter.mp ha).1
    have hb := List.mem_range.mp (List.mem_filter.mp hb).1
    exact (R.N.mono (R.at ha) (R.at hb)).mp hab
  · rw [List.mem_filter, List.mem_range, List.mem_map]
    constructor
    · rintro ⟨h1, h2⟩
      by_cases z : x ∈ nu
      · obtain ⟨p, hp⟩ := List.getElem?_of_mem z
        have hpl : p < s.lev.length := by rw [R.ls]; exact get_lt hp
        refine ⟨p, List.mem_filter.mpr ⟨List.mem_range.mpr hpl, by rw [← h p x hp]; exact h2⟩, ?_⟩
        have := R.at hpl
        rw [hp] at this; exact (Option.some.inj this).symm
      · rw [hg x z] at h2; cases h2
    · rintro ⟨p, hp, rfl⟩
      have hp' := List.mem_filter.mp hp
      have hpl := List.mem_range.mp hp'.1
      have ha := R.at hpl
      exact ⟨by rw [R.lt]; exact R.N.five ha, by rw [h p _ ha]; exact hp'.2⟩
theorem RelD.held (R : RelD nm nu s t) : t.held = s.held.map fun p => nu.getD p 0 :=
  R.lots (fun q h => by rw [R.offL h]; decide) fun p q h => by rw [R.lv p q h]
theorem RelD.cameL (R : RelD nm nu s t) : t.cameL = s.cameL.map fun p => nu.getD p 0 :=
  R.lots (fun q h => by rw [R.offC q h]; rfl) fun p q h => by rw [R.cm p q h]; cases s.cm p <;> rfl
theorem held_lt {s : DS} : ∀ p ∈ s.held, p < s.lev.length := fun p hp => List.mem_range.mp (List.mem_filter.mp hp).1
theorem RelD.readyL (R : RelD nm nu s t) : t.readyL = s.readyL.map fun p => nu.getD p 0 := by
  unfold DS.readyL
  rw [R.held, List.filter_map]
  congr 1
  refine List.filter_congr fun p hp => ?_
  exact R.won (R.at (held_lt p hp))
theorem RelD.wins (R : RelD nm nu s t) : t.wins = s.wins.map fun p => nu.getD p 0 := by
  have er := R.readyL
  have rl : ∀ p ∈ s.readyL, p < s.lev.length := fun p hp => held_lt p (List.mem_filter.mp hp).1
  unfold DS.wins
  by_cases h2 : some 2 ∈ s.lev
  · rw [if_pos h2, if_pos ((R.mem 2).mpr h2)]
    obtain ⟨m1, m2, _⟩ := DS.two_lev (mem_getD.mp h2)
    have ht : nu.getD s.two 0 = t.two := by
      have a := R.two (mem_getD.mp h2)
      have b := R.at m1
      rw [b] at a; exact Option.some.inj a
    show [_] = [nu.getD (DS.minN s.two s.readyL) 0]
    congr 1
    obtain ⟨a1, a2⟩ := minN_spec s.readyL s.two
    have lt : ∀ p ∈ s.two :: s.readyL, p < s.lev.length := fun p hp => by
      rcases List.mem_cons.mp hp with z | z
      · rw [z]; exact m1
      · exact rl p z
    refine minN_of ?_ fun x hx => ?_
    · rw [er]
      rcases List.mem_cons.mp a1 with z | z
      · rw [z, ht]; exact List.mem_cons_self
      · exact List.mem_cons_of_mem _ (List.mem_map.mpr ⟨_, z, rfl⟩)
    · have hx' : ∃ p ∈ s.two :: s.readyL, nu.getD p 0 = x := by
        rcases List.mem_cons.mp hx with z | z
        · exact ⟨s.two, List.mem_cons_self, by rw [z, ht]⟩
        · rw [er] at z
          obtain ⟨p, hp, e⟩ := List.mem_map.mp z
          exact ⟨p, List.mem_cons_of_mem _ hp, e⟩
      obtain ⟨p, hp, rfl⟩ := hx'
      have h1 := R.at (lt _ a1)
      have h3 := R.at (lt p hp)
      rcases Nat.lt_or_ge (nu.getD p 0) (nu.getD (DS.minN s.two s.readyL) 0) with z | z
      · have := (R.N.mono h3 h1).mpr z
        have := a2 p hp
        omega
      · exact z
  · rw [if_neg h2, if_neg (fun w => h2 ((R.mem 2).mp w)), er]
    cases e : s.readyL with
    | nil => exact R.cameL
    | cons r rs =>
      show (t.cameL.filter fun p => decide (p < nu.getD r 0) && (t.sn p).isNone) ++ [nu.getD r 0] = List.map _ (_ ++ [r])
      have hr := R.at (rl r (by rw [e]; exact List.mem_cons_self))
      rw [List.map_append, R.cameL, List.filter_map]
      congr 2
      refine List.filter_congr fun p hp => ?_
      have hpl := List.mem_range.mp (List.mem_filter.mp hp).1
      have ha := R.at hpl
      show (decide (nu.getD p 0 < nu.getD r 0) && (t.sn (nu.getD p 0)).isNone) = _
      rw [R.sn p _ ha, decide_eq_decide.mpr (R.N.mono ha hr).symm]
      cases s.sn p <;> rfl
end
end Fp
namespace Fp
open PySem PySem.Spec PyProof.Rows L2
theorem natV_snoc (l : List Nat) (p : Nat) : natV (l ++ [p]) = natV l ++ [V.int (p : Nat)] := by unfold natV; rw [List.map_append]; rfl
theorem natV_len (l : List Nat) : (natV l).length = l.length := by unfold natV; rw [List.length_map]
section
variable {P : Program} {w : World} {K : PySem.W.Frag} {mg : Str → Option Value} {base : Heap} {f : Addr} {fd : FuncData} {C : Addr}
theorem ok_winnersG (F : Fun K "winners" "winners" s_winners f fd) (T : MTx mg) (hC : DC K C) (G_held_by : Fd P w K mg base CX0 "held_by" 1 ["door"] (spHeld C)) (G_is_ready : Fd P w K mg base CX0 "is_ready" 1 ["door", "player"] (spReady C)) : FnOk P w K mg base CX0 2 f fd ["door"] (spWinG C) := by
  refine F.ok sc_winners (fun vs H Q E h => ?_) (fun cdv A outer s H vs Q E hr h => ?_)
  · obtain ⟨d, s, rfl, _⟩ := h
    rfl
  obtain ⟨d, s, rfl, hD, k⟩ := h
  refine ⟨_, (pss_cons (ps_setLc (i := 1) (own := [("player", 3), ("brought", 4)]) (g := (gTup K 2 (gCons (gName 3) (gCons (gName 4) gNil))))  rfl sc_winners.nd rfl rfl (sw_true rfl rfl rfl (by decide +kernel)) (pi_enumT rfl T.enumerate (pa_cons (pe_fld (pv 0) rfl) pa_nil)) (blkOk_by (own := [("player", 3), ("brought", 4)]) (N := ["door", "came", "ready", "player", "brought"]) (sc := defScope s_winners) (by decide +kernel)) (fun _ _ _ _ _ => (pg_tup rfl (pgs_cons (pg_name (i := 3) sc_winners.nd rfl (Or.inl rfl)) (pgs_cons (pg_name (i := 4) sc_winners.nd rfl (Or.inl rfl)) pgs_nil)))) (fun _ _ _ _ _ => (pts_one (pt_cmpR op_notN (pv 4) pe_non (nomark _)))) (fun _ _ _ _ _ => (pv 3)))
  (pss_cons (ps_set (i := 2) sc_winners.nd rfl (Or.inr rfl) (pe_lc (own := [("player", 3)]) (g := (gName 3))  rfl sc_winners.nd (pi_tup (pe_fd G_held_by (hr.mono (by decide)) rfl (pa_cons (pv 0) pa_nil))) (blkOk_by (own := [("player", 3)]) (N := ["door", "came", "ready", "player", "brought"]) (sc := defScope s_winners) (by decide +kernel)) (fun _ _ _ _ _ => (pg_name (i := 3) sc_winners.nd rfl (Or.inl rfl))) (fun _ _ _ _ _ => (pts_one (pt_val (pe_fd G_is_ready (hr.mono (by first | decide | omega)) rfl (pa_cons (pv 0) (pa_cons (pv 3) pa_nil)))))) (fun _ _ _ _ _ => (pv 3))))
  (pss_cons (ps_if (pt_cmpR op_in_seq pe_int (pe_fld (pv 0) rfl) rfl) (pss_one (ps_ret (pe_lst (pa_cons (pe_callB (cr_min rfl) rfl T.min (by decide +kernel) (pa_cons (pe_lst (pa_cons (pe_tindex (pe_fld (pv 0) rfl) pe_int) (StX.pa_star (pv 2) pa_nil))) pa_nil)) pa_nil)))) pss_nil)
  (pss_cons (ps_if (pt_not (pt_truth (pv 2) (by intro _; rfl))) (pss_one (ps_ret (pv 1))) pss_nil)
  (pss_one (ps_ret (pe_op op_cat (pe_lc (own := [("player", 3)]) (g := (gName 3))  rfl sc_winners.nd (pi_list (pv 1)) (blkOk_by (own := [("player", 3)]) (N := ["door", "came", "ready", "player", "brought"]) (sc := defScope s_winners) (by decide +kernel)) (fun _ _ _ _ _ => (pg_name (i := 3) sc_winners.nd rfl (Or.inl rfl))) (fun _ _ _ _ _ => (pts_one (PW.pt (pw_and (pt_cmpR op_lt (pv 3) (pe_ix ix_listK (pv 2) pe_int (fun _ _ => rfl)) (nomark _)) (pw_and1 (pt_cmpR op_isN (pe_ix ix_tupK (pe_fldK (pe_fld (pv 0) rfl)) (pv 3) (fun _ _ => rfl)) pe_non (nomark _))))))) (fun _ _ _ _ _ => (pv 3))) (pe_slice sl_list (pv 2) po_none (po_some pe_int))))))))), ?_⟩
  have hD0' := hD
  obtain ⟨dx, a, b, c, e, f, cv, hv, sv, dv, D⟩ := hD0'
  have W := D.wf
  have h5 := W.n5
  have hcl : cv.length = s.lev.length := by rw [pr_len D.cameP, W.lc]
  refine ⟨_, rfl, d, C, dx, _, _, rfl, D.obj, hC.cl, hC.nC, d_came, a, cv, rfl, D.came.sq, fun D0 hD0 => ?_⟩
  refine lc_it (walk_enumT (xs := cv)) (fun i H' => Same H H' ∧ H' D0 = some (.lst (natV ((List.range i).filter fun p => (s.cm p).isSome)))) ⟨same_new hD0 _, upd_same⟩ (fun i H' _ z => D.came.sq.ext z.1) ?_ ?_
  · rintro i x H1 H2 hi ⟨g1, h1⟩ ⟨T', y, rfl, hT, rfl, hy⟩
    have hi' : i < s.lev.length := by rw [← hcl]; exact hi
    obtain ⟨y', hy', oy⟩ := pr_at D.cameP (W.acm hi')
    rw [hy] at hy'
    cases hy'
    have g2 := same_new hT (.tup [.int (0 + (i : Nat)), y])
    refine ⟨T', _, rfl, .of upd_same, rfl, _, _, rfl, _, _, rfl, rfl, rfl, ?_⟩
    refine ⟨_, rfl, rfl, _, rfl, ?_⟩
    rw [oy.is]
    have es : List.range (i + 1) = List.range i ++ [i] := List.range_succ
    refine ite2 (fun z => ?_) (fun z => ?_)
    · have z' : (s.cm i).isSome = true := by cases q : s.cm i with | none => rw [q] at z; cases z | some v => rfl
      refine ⟨_, rfl, _, g2 _ _ h1, szt ?_, fun o q hq => ?_, ?_⟩
      · rw [natV_len]
        have := List.length_filter_le (fun p => (s.cm p).isSome) (List.range i)
        rw [List.length_range] at this
        omega
      · rw [upd_ne (ne_of_none hq hD0)]; exact g2 _ _ (g1 _ _ hq)
      · rw [upd_same, es, List.filter_append]
        simp only [List.filter_cons, z', if_true, List.filter_nil]
        rw [natV_snoc, Int.zero_add]
    · have z' : (s.cm i).isSome = false := by cases q : s.cm i with | none => rfl | some v => rw [q] at z; simp at z
      refine ⟨g1.trans g2, ?_⟩
      rw [es, List.filter_append]
      simp only [List.filter_cons, z', List.filter_nil, List.append_nil, Bool.false_eq_true, if_false]
      exact g2 _ _ h1
  rintro H1 ⟨g1, hcame⟩
  rw [hcl] at hcame
  have hcame : H1 D0 = some (.lst (natV s.cameL)) := hcame
  have hD1 := hD.same g1
  refine ⟨_, rfl, d, s, rfl, hD1, fun t H2 g2 ht => ⟨t, rfl, ⟨_, .of ht⟩, fun D2 hD2 => ?_⟩⟩
  have hs := held_small W
  have hheld : ∀ p ∈ s.held, p < s.lev.length ∧ s.lv p = some 1 := fun p hp => by
    have := List.mem_filter.mp hp
    exact ⟨List.mem_range.mp this.1, of_decide_eq_true this.2⟩
  refine lc_tup (K := K) (a := t) (xs := natV s.held) (fun i H' => Same H2 H' ∧ H' D2 = some (.lst (natV ((s.held.take i).filter fun p => s.won p)))) ⟨same_new hD2 _, upd_same⟩ (fun i H' _ z => .of (z.1 _ _ ht)) ?_ ?_
  · rintro i x H' hx ⟨g3, h3⟩
    obtain ⟨p, hp, rfl⟩ := natV_get hx
    refine ⟨rfl, _, rfl, _, rfl, d, p, s, rfl, (hD1.same g2).same g3, (hheld p (List.mem_of_getElem? hp)).1, _, rfl, ?_⟩
    refine ite2 (fun z => ?_) (fun z => ?_)
    · refine ⟨_, rfl, _, h3, szt ?_, fun o q hq => ?_, ?_⟩
      · rw [natV_len]
        have h1 := List.length_filter_le (fun p => s.won p) (s.held.take i)
        have h2 : (s.held.take i).length ≤ s.held.length := by rw [List.length_take]; exact Nat.min_le_right _ _
        omega
      · rw [upd_ne (ne_of_none hq hD2)]; exact g3 _ _ hq
      · rw [upd_same, take_snoc hp, List.filter_append]
        simp only [List.filter_cons, z, if_true, List.filter_nil]
        rw [natV_snoc]
    · have z : s.won p = false := by simpa using z
      refine ⟨g3, ?_⟩
      rw [h3, take_snoc hp, List.filter_append]
      simp [z]
  rintro H3 ⟨g3, h3⟩
  have e3 : (s.held.take (natV s.held).length) = s.held := by rw [natV_len, List.take_length]
  rw [e3] at h3
  have h3 : H3 D2 = some (.lst (natV s.readyL)) := h3
  have gs := (g1.trans g2).trans g3
  have hcame3 := g3 _ _ (g2 _ _ hcame)
  have D' := D.mono (.of gs) (fun o q => gs _ _ q) (by rw [gs _ _ D.own]; exact D.own.symm)
  have hc5 : s.cameL.length ≤ 5 := by
    have h3 := List.length_filter_le (fun p => (s.cm p).isSome) (List.range s.lev.length)
    rw [List.length_range] at h3
    exact Nat.le_trans h3 h5
  have rl5 : s.readyL.length ≤ 5 := Nat.le_trans (List.length_filter_le _ _) hs.2
  refine ⟨_, rfl, d, C, dx, _, _, rfl, D'.obj, hC.cl, hC.nL, d_lev, b, _, rfl, .inr D'.lev.sq, rfl, lv_flat s.lev, _, rfl, ?_⟩
  rw [show (if false = true then !inV (.int 2) (s.lev.map lvV) else inV (.int 2) (s.lev.map lvV)) = decide (some 2 ∈ s.lev) by rw [inV_lv]; rfl]
  refine ite2 (fun z2 => ?_) (fun z2 => ?_)
  · have h2 := mem_getD.mp (of_decide_eq_true z2)
    obtain ⟨l1, l2, l3⟩ := DS.two_lev h2
    refine ⟨_, rfl, d, C, dx, _, _, rfl, D'.obj, hC.cl, hC.nL, d_lev, ⟨b, _, rfl, D'.lev⟩, b, _, s.two, lvV (s.lv s.two), rfl, D'.lev.sq, rfl, lv_flat s.lev, alvV l1, by rw [eqV_lv, l2]; decide, fun m z' hm hz' => ?_, ?_⟩
    · rw [alvV (by omega)] at hz'
      cases hz'
      rw [eqV_lv]
      exact decide_eq_false (l3 m hm)
    refine ⟨_, rfl, D2, _, rfl, .inr (.of h3), ?_⟩
    refine ⟨szl ?_, fun l nl => ?_⟩
    · simp only [List.length_append, List.length_cons, List.length_nil]
      rw [natV_len]
      omega
    have el : [V.int (s.two : Nat)] ++ (natV s.readyL ++ []) = ((s.two :: s.readyL).map fun (p : Nat) => (p : Int)).map V.int := by
      unfold natV
      rw [List.append_nil, List.map_map]
      rfl
    refine ⟨l, _, rfl, .of (show upd H3 l (.lst ([V.int (s.two : Nat)] ++ (natV s.readyL ++ []))) l = some (.lst (((s.two :: s.readyL).map fun (p : Nat) => (p : Int)).map V.int)) by rw [upd_same, el]), by simp, fun m hm hle => ?_⟩
    obtain ⟨w', hw', rfl⟩ := List.mem_map.mp hm
    refine ⟨szl (by show 1 ≤ _; decide), fun l2' nl2 => ?_⟩
    have gl := same_new nl (.lst ([V.int (s.two : Nat)] ++ (natV s.readyL ++ [])))
    refine k l2' _ (gs.trans (gl.trans (same_new nl2 _))) (Same.gone gs (Same.gone gl nl2)) ?_
    rw [upd_same]
    have em : s.wins = [w'] := by
      unfold DS.wins
      rw [if_pos (of_decide_eq_true z2)]
      congr 1
      refine minN_of hw' fun x hx => ?_
      have := hle (x : Nat) (List.mem_map.mpr ⟨x, hx, rfl⟩)
      omega
    rw [em]; rfl
  · have z2 : ¬ some 2 ∈ s.lev := of_decide_eq_false (by simpa using z2)
    refine ⟨_, rfl, !(natV s.readyL).isEmpty, .inl ⟨_, .of h3, rfl⟩, ?_⟩
    have ew : s.wins = match s.readyL with
      | [] => s.cameL
      | r :: _ => (s.cameL.filter fun p => decide (p < r) && (s.sn p).isNone) ++ [r] := by unfold DS.wins; rw [if_neg z2]; first | done | (cases s.readyL <;> rfl)
    cases er : s.readyL with
    | nil =>
      rw [er] at ew
      refine ite_yes rfl ⟨_, rfl, ?_⟩
      refine k D0 H3 gs hD0 ?_
      rw [ew]; exact hcame3
    | cons r rs =>
      rw [er] at ew h3
      refine ite_no rfl ?_
      refine ⟨_, rfl, D0, rfl, ⟨_, .of hcame3⟩, fun D3 hD3 => ?_⟩
      refine lc_list (K := K) (a := D0) (xs := natV s.cameL) (fun i H' => Same H3 H' ∧ H' D3 = some (.lst (natV ((s.cameL.take i).filter fun p => decide (p < r) && (s.sn p).isNone)))) ⟨same_new hD3 _, upd_same⟩ (fun i H' _ z => .of (z.1 _ _ hcame3)) ?_ ?_
      · rintro i x H' hx ⟨g4, h4⟩
        obtain ⟨p, hp, rfl⟩ := natV_get hx
        have hpm := List.mem_filter.mp (List.mem_of_getElem? hp)
        have hpl := List.mem_range.mp hpm.1
        have D4 := D'.mono (.of g4) (fun o q => g4 _ _ q) (by rw [g4 _ _ D'.own]; exact D'.own.symm)
        obtain ⟨xs, hxs, os⟩ := pr_at D4.seenP (W.asn hpl)
        have hlen : ((s.cameL.take i).filter fun p => decide (p < r) && (s.sn p).isNone).length ≤ 5 := by
          have h1 := List.length_filter_le (fun p => decide (p < r) && (s.sn p).isNone) (s.cameL.take i)
          have h2 : (s.cameL.take i).length ≤ s.cameL.length := by rw [List.length_take]; exact Nat.min_le_right _ _
          omega
        have no : (decide (p < r) && (s.sn p).isNone) = false → Same H3 H' ∧ H' D3 = some (.lst (natV ((s.cameL.take (i + 1)).filter fun p => decide (p < r) && (s.sn p).isNone))) := fun z => by
          refine ⟨g4, ?_⟩
          rw [take_snoc hp, List.filter_append, h4]
          simp only [List.filter_cons, z, List.filter_nil, List.append_nil, Bool.false_eq_true, if_false]
        refine ⟨rfl, _, rfl, _, rfl, D2, _, _, _, rfl, rfl, .of (g4 _ _ h3), atI_nat (j := 0) rfl, _, _, rfl, rfl, _, rfl, ?_⟩
        refine ite2 (fun z => ?_) (fun z => ?_)
        · have z1 : p < r := by have := of_decide_eq_true z; omega
          refine ⟨_, rfl, d, C, dx, _, _, rfl, D4.obj, hC.cl, hC.nS, d_seen, _, rfl, e, sv, _, _, rfl, rfl, D4.seen.sq, atI_nat hxs, rfl, _, rfl, ?_⟩
          rw [os.is]
          refine ite2 (fun z' => ?_) (fun z' => ?_)
          · have za : (decide (p < r) && (s.sn p).isNone) = true := by rw [decide_eq_true z1, z']; rfl
            refine ⟨_, rfl, _, h4, szt (by rw [natV_len]; omega), fun o q hq => ?_, ?_⟩
            · rw [upd_ne (ne_of_none hq hD3)]; exact g4 _ _ hq
            · rw [upd_same, take_snoc hp, List.filter_append]
              simp only [List.filter_cons, za, if_true, List.filter_nil]
              rw [natV_snoc]
          · exact no (by rw [show (s.sn p).isNone = false by (cases q : s.sn p with | none => rw [q] at z'; exact absurd rfl z' | some l => rfl)]; simp)
        · have z1 : ¬ p < r := fun y => z (decide_eq_true (by omega))
          exact no (by rw [decide_eq_false z1]; rfl)
      rintro H4 ⟨g4, h4⟩
      rw [natV_len, List.take_length] at h4
      refine ⟨_, rfl, 1, rfl, D2, _, rfl, .of (g4 _ _ h3), fun p4 n4 => ?_⟩
      have hcut : cutV (natV (r :: rs)) none (some 1) = natV [r] := by
        unfold cutV
        have e1 : HT.sIx (natV (r :: rs)).length 0 none = 0 := rfl
        have e2 := HT.sIx_nat (natV (r :: rs)).length (natV (r :: rs)).length 1
        rw [e1, show ((1 : Int)) = ((1 : Nat) : Int) from rfl, e2]
        unfold natV
        simp
      rw [hcut]
      have g5 := same_new n4 (.lst (natV [r]))
      refine ⟨D3, p4, _, _, rfl, rfl, g5 _ _ h4, upd_same, szl ?_, fun p6 n6 => ?_⟩
      · rw [natV_len, natV_len]
        have h1 := List.length_filter_le (fun p => decide (p < r) && (s.sn p).isNone) s.cameL
        show _ + 1 ≤ _
        omega
      have g6 := (g4.trans g5).trans (same_new n6 (.lst (natV (s.cameL.filter fun p => decide (p < r) && (s.sn p).isNone) ++ natV [r])))
      refine k p6 _ (gs.trans g6) (Same.gone gs (Same.gone (g4.trans g5) n6)) ?_
      rw [upd_same, ew]
      unfold natV
      rw [List.map_append]
theorem ok_may_comeG (F : Fun K "may_come" "may_come" s_may_come f fd) (T : MTx mg) (hC : DC K C) (G_winners : Fd P w K mg base CX0 "winners" 2 ["door"] (spWinG C)) : FnOk P w K mg base CX0 3 f fd ["door"] (spMayG C) := by
  refine F.ok sc_may_come (fun vs H Q E h => ?_) (fun cdv A outer s H vs Q E hr h => ?_)
  · obtain ⟨d, s, cod, dat, cs, rfl, _⟩ := h
    rfl
  obtain ⟨d, s, cod, dat, cs, rfl, hD, hcod, hdat, heq, k⟩ := h
  refine ⟨_, (pss_cons (ps_set (i := 1) sc_may_come.nd rfl (Or.inl rfl) (pe_lst pa_nil))
  (pss_cons (ps_for PassesOwn.never rfl (pi_list (pe_fd G_winners (hr.mono (by first | decide | omega)) rfl (pa_cons (pv 0) pa_nil))) (pg_name (i := 2) sc_may_come.nd rfl (Or.inl rfl)) (pss_cons (ps_set (i := 3) sc_may_come.nd rfl (Or.inl rfl) (pe_ix ix_tup (pe_ix ix_tup (pe_fld (pv 0) rfl) (pv 2) (fun _ _ => rfl)) pe_int (fun _ _ => rfl)))
  (pss_one (ps_if (pt_cmpR (op_notInD (u65 hr)) (pv 3) (pv 1) rfl) (pss_one (ps_expr (pe_bm PySem.F.plainAttrs_list PySem.F.slot_list_append PySem.F.type_list_append mt_append (pv 1) (pa_cons (pv 3) pa_nil)))) pss_nil))))
  (pss_one (ps_ret (pe_callTy call_tuple_of rfl T.tuple (by decide +kernel) (pa_cons (pv 1) pa_nil)))))), ?_⟩
  have W := hD.wf
  have w6 := wins_len W
  refine ⟨szl (by decide), fun l0 n0 => ?_⟩
  have g0 := same_new n0 (.lst [])
  refine ⟨_, rfl, d, s, rfl, hD.same g0, fun l H1 g1 nl hl => ⟨l, rfl, ⟨_, .of hl⟩, ?_⟩⟩
  have hl0 : H1 l0 = some (.lst []) := g1 _ _ upd_same
  have hll : l ≠ l0 := fun z => by rw [z, upd_same] at nl; cases nl
  have hD1 := (hD.same g0).same g1
  have hdat1 : ∀ p, VAt H1 (cod (cs p)) (dat (cs p)) := fun p => (hdat p).1.mono ((TK.of g0).trans (.of g1))
  refine for_list (K := K) (a := l) (xs := natV s.wins) (fun i σ H' => ∃ u2 u3, σ = [some (.ref d), some (.ref l0), u2, u3] ∧ But [l0] H1 H' ∧ H' l0 = some (.lst ((dedup ((s.wins.take i).map cs)).map cod))) ?_ ?_ ?_ ?_
  · exact ⟨_, _, rfl, But.refl _ _, hl0⟩
  · rintro i σ H' _ ⟨_, _, rfl, g, _⟩
    exact .of (g.at hl (by simpa using hll))
  · rintro i x σ H' hx ⟨_, _, rfl, g, hi⟩
    obtain ⟨p, hp, rfl⟩ := natV_get hx
    have hD2 := hD1.but g fun x hx => by rw [List.mem_singleton.mp hx]; exact .inl ⟨_, hl0⟩
    have tk : TK H1 H' := TK.but g fun a ha z => by rw [List.mem_singleton.mp ha, hl0] at z; exact z
    obtain ⟨dx, a, b, c, e, f, cv, hv, sv, dv, D⟩ := hD2
    obtain ⟨hwl, hcm⟩ := wins_mem W (List.mem_of_getElem? hp)
    obtain ⟨v, hv'⟩ : ∃ v, s.cm p = some v := by
      cases q : s.cm p with
      | none => exact absurd q hcm
      | some v => exact ⟨v, rfl⟩
    obtain ⟨xc, hxc, oc⟩ := pr_at D.cameP (W.acm hwl)
    rw [hv'] at oc
    obtain ⟨q, rfl, hq⟩ := oc
    have ev := hcod p v hv'
    subst ev
    refine ⟨_, rfl, d, C, dx, _, _, rfl, D.obj, hC.cl, hC.nC, d_came, _, rfl, a, cv, _, _, rfl, rfl, D.came.sq, atI_nat hxc, q, _, _, _, rfl, rfl, .of hq, atI_nat (j := 0) rfl, ?_⟩
    have inW : ∀ c ∈ dedup ((s.wins.take i).map cs), ∃ p', c = cs p' := fun c hc => by
      obtain ⟨p', _, e⟩ := List.mem_map.mp (dedup_mem _ _ rfl c hc)
      exact ⟨p', e.symm⟩
    have dpA : ∀ l : List Nat, (∀ c ∈ l, ∃ p', c = cs p') → DpAll K H' (l.map cod) (l.map dat) := fun l => by
      induction l with
      | nil => intro _; exact .nil
      | cons c r ih =>
        intro h
        obtain ⟨p', e⟩ := h c List.mem_cons_self
        exact .cons (by rw [e]; exact ((hdat1 p').mono tk).dp) (ih fun c hc => h c (List.mem_cons_of_mem _ hc))
    have smA : ∀ d ∈ (dedup ((s.wins.take i).map cs)).map dat, Sm 4 39 d := fun d hd => by
      obtain ⟨c, hc, e⟩ := List.mem_map.mp hd
      obtain ⟨p', e'⟩ := inW c hc
      rw [← e, e']; exact (hdat p').2.sm
    have smL : Sm 5 _ (.list ((dedup ((s.wins.take i).map cs)).map dat)) := (Sms.all smA).lst
    have any : ((dedup ((s.wins.take i).map cs)).map dat).any (fun z => PyData.eqv z (dat (cs p))) = decide (cs p ∈ dedup ((s.wins.take i).map cs)) := by
      rw [Bool.eq_iff_iff, List.any_eq_true, decide_eq_true_iff]
      constructor
      · rintro ⟨y, hy, e⟩
        obtain ⟨c, hc, rfl⟩ := List.mem_map.mp hy
        obtain ⟨p', e'⟩ := inW c hc
        rw [e', heq, decide_eq_true_iff] at e
        rw [← e, ← e']; exact hc
      · intro hc
        exact ⟨_, List.mem_map.mpr ⟨_, hc, rfl⟩, by rw [heq]; exact decide_eq_true rfl⟩
    have dl : ((dedup ((s.wins.take i).map cs)).map cod).length ≤ 6 := by
      rw [List.length_map]
      have := dedup_len _ ((s.wins.take i).map cs) rfl
      rw [List.length_map, List.length_take] at this
      omega
    refine ⟨_, rfl, _, rfl, dat (cs p), _, ((hdat1 p).mono tk).dp, .lst (.of hi) (dpA _ inW), (hdat p).2.sm.shaped (by decide), smL.shaped (by decide), _, rfl, ?_⟩
    rw [any]
    have ed : dedup ((s.wins.take (i + 1)).map cs) = if cs p ∈ dedup ((s.wins.take i).map cs) then dedup ((s.wins.take i).map cs) else dedup ((s.wins.take i).map cs) ++ [cs p] := by
      rw [take_snoc hp, List.map_append]; exact dedup_snoc _ _
    by_cases hin : cs p ∈ dedup ((s.wins.take i).map cs)
    · refine ite_no (by rw [decide_eq_true hin]; rfl) ?_
      rw [if_pos hin] at ed
      exact ⟨_, _, rfl, g, by rw [ed]; exact hi⟩
    · refine ite_yes (by rw [decide_eq_false hin]; rfl) ?_
      rw [if_neg hin] at ed
      refine ⟨_, rfl, .inl ⟨rfl, _, .of hi⟩, _, rfl, l0, _, _, rfl, rfl, hi, szt (by omega), ?_⟩
      exact ⟨_, _, rfl, g.put (by simp), by rw [upd_same, ed, List.map_append]; rfl⟩
  · rintro σ H' ⟨_, _, rfl, g, hi⟩
    rw [natV_len, List.take_length] at hi
    refine ⟨_, rfl, l0, _, rfl, .inl ⟨.of hi, fun t nt => ?_⟩⟩
    refine k t _ (fun q o e => ?_) upd_same
    have ql : q ≠ l0 := ne_of_none e n0
    exact same_new nt _ _ _ (g _ _ (by simpa using ql) (g1 _ _ (g0 _ _ e)))
end
end Fp
/-! k36: how players stand, as numbers; all weavings by numbers -/
namespace Fp
open PySem PySem.Spec PyProof.Rows L2
/-- how one stands: 0 nothing, 1 level 1, 2 and 3 it looked and won or not, 4 level 2, 5 level 0 -/
def DS.code (s : DS) (p : Nat) : Nat := match s.lv p with
  | none => 0
  | some i => if i = 1 then (if (s.sn p).isSome then (if s.won p then 2 else 3) else 1) else if i = 2 then 4 else 5
def DS.codes (s : DS) : List Nat := (List.range s.lev.length).map s.code
def DS.flags (s : DS) : List Bool := (List.range s.lev.length).map fun p => (s.cm p).isSome
/-- who stands at 2 won, who stands at 0 did not -/
def DS.Wn (s : DS) : Prop := ∀ p, (s.lv p = some 2 → s.won p = true) ∧ (s.lv p = some 0 → s.won p = false)
def lvc : Nat → Lv
  | 0 => none | 1 => some 1 | 2 => some 1 | 3 => some 1 | 4 => some 2 | _ => some 0
def stc : Nat → Nat
  | 0 => 0 | 1 => 1 | 2 => 2 | 3 => 2 | _ => 3
def wnc : Nat → Bool
  | 2 => true | 4 => true | _ => false
def nxc (two : Bool) : Nat → Nat
  | 0 => 1 | 1 => if two then 3 else 2 | 2 => 4 | 3 => 5 | c => c
theorem won_none {s : DS} {p : Nat} (h : s.sn p = none) : s.won p = false := by unfold DS.won; rw [h]
theorem code_lt (s : DS) (p : Nat) : s.code p < 6 := by
  unfold DS.code
  split
  · omega
  · repeat' split
    all_goals omega
section
variable {s : DS} {p q : Nat}
theorem code_of (W : s.WF) (w : s.Wn) (p : Nat) : s.lv p = lvc (s.code p) ∧ s.stg p = stc (s.code p) ∧ s.won p = wnc (s.code p) := by
  have hs := W.snv p
  have hv := W.vals p
  obtain ⟨w1, w2⟩ := w p
  unfold DS.code DS.stg DS.stgOf
  cases e : s.lv p with
  | none =>
    have : s.sn p = none := Classical.byContradiction fun z => hs z e
    exact ⟨rfl, rfl, won_none this⟩
  | some i =>
    rcases hv i e with rfl | rfl | rfl
    · exact ⟨rfl, rfl, w2 e⟩
    · cases z : s.sn p with
      | none => exact ⟨rfl, rfl, won_none z⟩
      | some l => cases z2 : s.won p <;> exact ⟨rfl, rfl, rfl⟩
    · exact ⟨rfl, rfl, w1 e⟩
theorem code4 (W : s.WF) : s.code p = 4 ↔ s.lv p = some 2 := by
  unfold DS.code
  cases e : s.lv p with
  | none => simp
  | some i =>
    rcases W.vals p i e with rfl | rfl | rfl
    · simp
    · cases s.sn p <;> cases s.won p <;> simp
    · simp
theorem code_held (W : s.WF) : (s.code p = 1 ∨ s.code p = 2 ∨ s.code p = 3) ↔ s.lv p = some 1 := by
  unfold DS.code
  cases e : s.lv p with
  | none => simp
  | some i =>
    rcases W.vals p i e with rfl | rfl | rfl
    · simp
    · cases s.sn p <;> cases s.won p <;> simp
    · simp
theorem code2 (W : s.WF) : s.code p = 2 ↔ s.lv p = some 1 ∧ s.won p = true := by
  unfold DS.code
  cases e : s.lv p with
  | none => simp
  | some i =>
    rcases W.vals p i e with rfl | rfl | rfl
    · simp
    · cases z : s.sn p with
      | none => simp [won_none z]
      | some l => cases s.won p <;> simp
    · simp
theorem code01 (W : s.WF) : (s.code p = 0 ∨ s.code p = 1) ↔ s.sn p = none := by
  have hs := W.snv p
  have hl := W.lok p
  unfold DS.code
  cases e : s.lv p with
  | none =>
    have : s.sn p = none := Classical.byContradiction fun z => hs z e
    simp [this]
  | some i =>
    rcases W.vals p i e with rfl | rfl | rfl
    · have := hl 0 e (by decide)
      simp [this]
    · cases z : s.sn p with
      | none => simp
      | some l => cases s.won p <;> simp
    · have := hl 2 e (by decide)
      simp [this]
theorem has2 (W : s.WF) : some 2 ∈ s.lev ↔ 4 ∈ s.codes := by
  unfold DS.codes
  rw [mem_getD, List.mem_map]
  constructor
  · rintro ⟨q, h⟩
    exact ⟨q, List.mem_range.mpr (getD_none_of h).1, (code4 W).mpr h⟩
  · rintro ⟨q, _, h⟩
    exact ⟨q, (code4 W).mp h⟩
def cHeld (cs : List Nat) : Bool := cs.contains 1 || cs.contains 2 || cs.contains 3
theorem has1 (W : s.WF) : some 1 ∈ s.lev ↔ cHeld s.codes = true := by
  unfold DS.codes cHeld
  rw [mem_getD]
  simp only [Bool.or_eq_true, List.contains_iff_mem, List.mem_map]
  constructor
  · rintro ⟨q, h⟩
    have hq := List.mem_range.mpr (getD_none_of h).1
    rcases (code_held W).mpr h with z | z | z
    · exact .inl (.inl ⟨q, hq, z⟩)
    · exact .inl (.inr ⟨q, hq, z⟩)
    · exact .inr ⟨q, hq, z⟩
  · rintro ((⟨q, _, z⟩ | ⟨q, _, z⟩) | ⟨q, _, z⟩)
    · exact ⟨q, (code_held W).mp (.inl z)⟩
    · exact ⟨q, (code_held W).mp (.inr (.inl z))⟩
    · exact ⟨q, (code_held W).mp (.inr (.inr z))⟩
theorem Wn.new (n : Nat) : (DS.new n).Wn := fun p => ⟨fun h => (by rw [DS.lv_new] at h; cases h), fun h => (by rw [DS.lv_new] at h; cases h)⟩
theorem Wn.come {v : V} (w : s.Wn) : (s.come p v).Wn := w
theorem won_of {t : DS} (h : t.sn q = s.sn q) : t.won q = s.won q := by unfold DS.won; rw [h]
theorem won_step1 (h : s.stg p = 1) (hp : p < s.seen.length) : (s.step p).won q = if p = q then !decide (some 2 ∈ s.lev) else s.won q := by
  unfold DS.won
  rw [DS.sn_step1 h hp]
  by_cases e : p = q
  · rw [if_pos e, if_pos e]
  · rw [if_neg e, if_neg e]
theorem wr_won (h : s.stg p = 2) : s.wr p = if s.won p then 2 else 0 := by
  obtain ⟨l, hl⟩ : ∃ l, s.sn p = some l := by
    cases q : s.sn p with
    | none => exact absurd q (DS.stg2.mp h).2
    | some l => exact ⟨l, rfl⟩
  unfold DS.wr DS.saw DS.won
  rw [hl]
  simp only [Option.getD_some]
  by_cases z : some 2 ∈ l <;> simp [z]
theorem Wn.step (W : s.WF) (w : s.Wn) (hc : s.cm p ≠ none) : (s.step p).Wn := fun q => by
  have hp := DS.lt_of_cm W hc
  have hps : p < s.seen.length := by rw [W.ls]; exact hp
  have h4 := DS.stg_lt s p
  rcases (show s.stg p = 0 ∨ s.stg p = 1 ∨ s.stg p = 2 ∨ s.stg p = 3 by omega) with e | e | e | e
  · rw [DS.lv_step0 e hp, won_of (DS.sn_stepN (by omega) q)]
    split
    · exact ⟨fun z => (by cases z), fun z => (by cases z)⟩
    · exact w q
  · rw [DS.lv_step1 e, won_step1 e hps]
    split
    · rename_i z
      subst z
      rw [(DS.stg1.mp e).1]
      exact ⟨fun z => (by cases z), fun z => (by cases z)⟩
    · exact w q
  · rw [DS.lv_step2 e hp, won_of (DS.sn_stepN (by omega) q)]
    split
    · rename_i z
      subst z
      rw [wr_won e]
      cases s.won p
      · exact ⟨fun z => (by simp at z), fun _ => rfl⟩
      · exact ⟨fun _ => rfl, fun z => (by simp at z)⟩
    · exact w q
  · rw [DS.lv_step3 e, won_of (DS.sn_stepN (by omega) q)]
    exact w q
/-- a step, by numbers -/
theorem code_step (W : s.WF) (hc : s.cm p ≠ none) : (s.step p).code q = if p = q then nxc (decide (some 2 ∈ s.lev)) (s.code p) else s.code q := by
  have hp := DS.lt_of_cm W hc
  have hps : p < s.seen.length := by rw [W.ls]; exact hp
  have h4 := DS.stg_lt s p
  rcases (show s.stg p = 0 ∨ s.stg p = 1 ∨ s.stg p = 2 ∨ s.stg p = 3 by omega) with e | e | e | e
  · unfold DS.code
    rw [DS.lv_step0 e hp, won_of (DS.sn_stepN (by omega) q), DS.sn_stepN (by omega) q]
    by_cases z : p = q
    · subst z
      rw [if_pos rfl, if_pos rfl, DS.stg0.mp e]
      have : s.sn p = none := Classical.byContradiction fun z => W.snv p z (DS.stg0.mp e)
      rw [this]; rfl
    · rw [if_neg z, if_neg z]
  · unfold DS.code
    rw [DS.lv_step1 e, won_step1 e hps, DS.sn_step1 e hps]
    by_cases z : p = q
    · subst z
      rw [if_pos rfl, if_pos rfl, (DS.stg1.mp e).1, (DS.stg1.mp e).2]
      by_cases y : some 2 ∈ s.lev <;> simp [y, nxc]
    · rw [if_neg z, if_neg z, if_neg z]
  · unfold DS.code
    rw [DS.lv_step2 e hp, won_of (DS.sn_stepN (by omega) q), DS.sn_stepN (by omega) q]
    by_cases z : p = q
    · subst z
      obtain ⟨e1, e2⟩ := DS.stg2.mp e
      obtain ⟨l, hl⟩ : ∃ l, s.sn p = some l := by
        cases q : s.sn p with
        | none => exact absurd q e2
        | some l => exact ⟨l, rfl⟩
      rw [if_pos rfl, if_pos rfl, e1, hl, wr_won e]
      cases s.won p <;> rfl
    · rw [if_neg z, if_neg z]
  · have hq : (s.step p).code q = s.code q := by
      unfold DS.code
      rw [DS.lv_step3 e, won_of (DS.sn_stepN (by omega) q), DS.sn_stepN (by omega) q]
    rw [hq]
    by_cases z : p = q
    · subst z
      rw [if_pos rfl]
      obtain ⟨x, h1, h2⟩ := DS.stg3.mp e
      have : s.code p = 4 ∨ s.code p = 5 := by
        unfold DS.code
        rw [h1]
        rcases W.vals p x h1 with rfl | rfl | rfl
        · exact .inr rfl
        · exact absurd rfl h2
        · exact .inl rfl
      rcases this with z | z <;> rw [z] <;> rfl
    · rw [if_neg z]
theorem codes_len : s.codes.length = s.lev.length := by unfold DS.codes; rw [List.length_map, List.length_range]
theorem codes_at (h : p < s.lev.length) : s.codes[p]? = some (s.code p) := by
  unfold DS.codes
  rw [List.getElem?_map, List.getElem?_range h]; rfl
theorem codes_getD (h : p < s.lev.length) : s.codes.getD p 0 = s.code p := by rw [List.getD_eq_getElem?_getD, codes_at h]; rfl
theorem codes_lt : ∀ c ∈ s.codes, c < 6 := fun c h => by
  obtain ⟨q, _, rfl⟩ := List.mem_map.mp h
  exact code_lt s q
theorem codes_step (W : s.WF) (hc : s.cm p ≠ none) : (s.step p).codes = s.codes.set p (nxc (s.codes.contains 4) (s.codes.getD p 0)) := by
  have hp := DS.lt_of_cm W hc
  have e2 : s.codes.contains 4 = decide (some 2 ∈ s.lev) := by
    rw [Bool.eq_iff_iff, List.contains_iff_mem, decide_eq_true_iff, has2 W]
  rw [e2, codes_getD hp]
  refine List.ext_getElem? fun i => ?_
  unfold DS.codes
  rw [DS.len_step, List.getElem?_set, List.length_map, List.length_range, List.getElem?_map, List.getElem?_map]
  by_cases hi : i < s.lev.length
  · rw [List.getElem?_range hi, Option.map_some, Option.map_some, code_step W hc]
    by_cases e : p = i
    · rw [if_pos e, if_pos e, if_pos hp]
    · rw [if_neg e, if_neg e]
  · rw [List.getElem?_eq_none (by simpa using hi)]
    by_cases e : p = i
    · exact absurd (e ▸ hp) hi
    · rw [if_neg e]; rfl
theorem flags_step : (s.step p).flags = s.flags := by
  unfold DS.flags
  rw [DS.len_step]
  exact List.map_congr_left fun q _ => by rw [DS.cm_step]
theorem flags_at (h : p < s.lev.length) : s.flags[p]? = some (s.cm p).isSome := by
  unfold DS.flags
  rw [List.getElem?_map, List.getElem?_range h]; rfl
theorem flags_getD (h : p < s.lev.length) : s.flags.getD p false = (s.cm p).isSome := by rw [List.getD_eq_getElem?_getD, flags_at h]; rfl
theorem flags_len : s.flags.length = s.lev.length := by unfold DS.flags; rw [List.length_map, List.length_range]
end
/-! ### the text of a standing -/
def keyD (cs : List Nat) : PyData := .tuple [.list (cs.map fun c => lvD (lvc c)), .list (cs.map fun c => .int (stc c : Nat)), .list (cs.map fun c => .bool (wnc c))]
def keyT (cs : List Nat) : Str := (keyD cs).shown
def isSy (c : Nat) : Bool := c == 78 || (decide (48 ≤ c) && decide (c ≤ 51)) || c == 84 || c == 70
def syms (z : Str) : List Nat := z.cps.toList.filter isSy
theorem syms_app (a b : Str) : syms (a ++ b) = syms a ++ syms b := by unfold syms; rw [cpl, List.filter_append]
theorem syms_from : ∀ (ts : List Str) (k : Nat) (acc : Str), syms (textFrom k acc ts) = syms acc ++ (ts.map syms).flatten
  | [], k, acc => by simp [textFrom]
  | t :: ts, k, acc => by
    show syms (textFrom (k + 1) (acc ++ (if k > 0 then ", " else "" : String) ++ t) ts) = _
    rw [syms_from ts, syms_app, syms_app]
    have : syms ((if k > 0 then ", " else "" : String) : Str) = [] := by split <;> decide +kernel
    rw [this]
    simp
theorem syms_list (ts : List Str) : syms (listText ts) = (ts.map syms).flatten := by
  unfold listText
  rw [syms_app, syms_from]
  have e1 : syms ("[" : Str) = [] := by decide +kernel
  have e2 : syms ("]" : Str) = [] := by decide +kernel
  rw [e1, e2]
  simp
def y1 : Nat → Nat
  | 0 => 78 | 1 => 49 | 2 => 49 | 3 => 49 | 4 => 50 | _ => 48
def y2 : Nat → Nat
  | 0 => 48 | 1 => 49 | 2 => 50 | 3 => 50 | _ => 51
def y3 : Nat → Nat
  | 2 => 84 | 4 => 84 | _ => 70
theorem sy1 (c : Nat) : syms (lvD (lvc c)).shown = [y1 c] := by
  match c with
  | 0 => decide +kernel
  | 1 => decide +kernel
  | 2 => decide +kernel
  | 3 => decide +kernel
  | 4 => decide +kernel
  | n + 5 => show syms (lvD (some 0)).shown = [48]; decide +kernel
theorem sy2 (c : Nat) : syms (PyData.int (stc c : Nat)).shown = [y2 c] := by
  match c with
  | 0 => decide +kernel
  | 1 => decide +kernel
  | 2 => decide +kernel
  | 3 => decide +kernel
  | n + 4 => show syms (PyData.int (3 : Nat)).shown = [51]; decide +kernel
theorem sy3 (c : Nat) : syms (PyData.bool (wnc c)).shown = [y3 c] := by
  match c with
  | 0 => decide +kernel
  | 1 => decide +kernel
  | 2 => decide +kernel
  | 3 => decide +kernel
  | 4 => decide +kernel
  | n + 5 => show syms (PyData.bool false).shown = [70]; decide +kernel
theorem syms_map {f : Nat → PyData} {y : Nat → Nat} (h : ∀ c, syms (f c).shown = [y c]) : ∀ cs : List Nat, syms (PyData.list (cs.map f)).shown = cs.map y := fun cs => by
  rw [shown_list, syms_list]
  induction cs with
  | nil => rfl
  | cons c cs ih =>
    rw [List.map_cons, PyData.shownAll, List.map_cons, List.flatten_cons, ih, h, List.map_cons]; rfl
theorem syms_key (cs : List Nat) : syms (keyT cs) = cs.map y1 ++ (cs.map y2 ++ cs.map y3) := by
  unfold keyT keyD
  simp only [PyData.shown.eq_6, PyData.shownAll, tupleText, Str.join]
  have e0 : syms (", " : Str) = [] := by decide +kernel
  have e1 : syms ("(" : Str) = [] := by decide +kernel
  have e2 : syms (")" : Str) = [] := by decide +kernel
  simp only [syms_app, e0, e1, syms_map sy1, syms_map sy2, syms_map sy3]
  simp [e2]
def decC (a b c : Nat) : Nat := if a = 78 then 0 else if a = 49 then (if b = 49 then 1 else if c = 84 then 2 else 3) else if a = 50 then 4 else 5
theorem dec_ok {c : Nat} (h : c < 6) : decC (y1 c) (y2 c) (y3 c) = c := by
  match c, h with
  | 0, _ => rfl
  | 1, _ => rfl
  | 2, _ => rfl
  | 3, _ => rfl
  | 4, _ => rfl
  | 5, _ => rfl
def vecs : Nat → List (List Nat)
  | 0 => [[]]
  | n + 1 => (vecs n).flatMap fun v => (List.range 6).map fun c => c :: v
def num (cs : List Nat) : Nat := cs.foldl (fun a c => a * 6 + c) 0
theorem mem_vecs : ∀ {n : Nat} {cs : List Nat}, cs.length = n → (∀ c ∈ cs, c < 6) → cs ∈ vecs n
  | 0, [], _, _ => by simp [vecs]
  | n + 1, c :: cs, hl, h => by
    unfold vecs
    rw [List.mem_flatMap]
    exact ⟨cs, mem_vecs (by simpa using hl) fun x hx => h x (List.mem_cons_of_mem _ hx), List.mem_map.mpr ⟨c, List.mem_range.mpr (h c List.mem_cons_self), rfl⟩⟩
theorem inj_of {α : Type} (f : α → Nat) : ∀ {l : List α}, (l.map f).Nodup → ∀ {x y : α}, x ∈ l → y ∈ l → f x = f y → x = y
  | a :: l, h, x, y, hx, hy, e => by
    rw [List.map_cons, List.nodup_cons] at h
    rcases List.mem_cons.mp hx with rfl | hx'
    · rcases List.mem_cons.mp hy with rfl | hy'
      · rfl
      · exact absurd (List.mem_map.mpr ⟨y, hy', e.symm⟩) h.1
    · rcases List.mem_cons.mp hy with rfl | hy'
      · exact absurd (List.mem_map.mpr ⟨x, hx', e⟩) h.1
      · exact inj_of f h.2 hx' hy' e
theorem num1 : ((vecs 1).map num).Nodup := by decide +kernel
theorem num2 : ((vecs 2).map num).Nodup := by decide +kernel
theorem num3 : ((vecs 3).map num).Nodup := by decide +kernel
structure Vec (n : Nat) (cs : List Nat) : Prop where
  len : cs.length = n
  lt : ∀ c ∈ cs, c < 6
theorem key_inj {n : Nat} {cs ds : List Nat} (hc : Vec n cs) (hd : Vec n ds) (e : keyT cs = keyT ds) : cs = ds := by
  have h : syms (keyT cs) = syms (keyT ds) := by rw [e]
  rw [syms_key, syms_key] at h
  have hl : cs.length = ds.length := by rw [hc.len, hd.len]
  obtain ⟨h1, h⟩ := List.append_inj h (by simpa using hl)
  obtain ⟨h2, h3⟩ := List.append_inj h (by simpa using hl)
  refine List.ext_getElem hl fun i a b => ?_
  have e1 : y1 cs[i] = y1 ds[i] := by have := congrArg (fun l => l[i]?) h1; simpa [a, b] using this
  have e2 : y2 cs[i] = y2 ds[i] := by have := congrArg (fun l => l[i]?) h2; simpa [a, b] using this
  have e3 : y3 cs[i] = y3 ds[i] := by have := congrArg (fun l => l[i]?) h3; simpa [a, b] using this
  rw [← dec_ok (hc.lt _ (List.getElem_mem a)), ← dec_ok (hd.lt _ (List.getElem_mem b)), e1, e2, e3]
theorem num_inj {n : Nat} {cs ds : List Nat} (h1 : 1 ≤ n) (h3 : n ≤ 3) (hc : Vec n cs) (hd : Vec n ds) (e : num cs = num ds) : cs = ds := by
  have m1 := mem_vecs hc.len hc.lt
  have m2 := mem_vecs hd.len hd.lt
  rcases (show n = 1 ∨ n = 2 ∨ n = 3 by omega) with rfl | rfl | rfl
  · exact inj_of num num1 m1 m2 e
  · exact inj_of num num2 m1 m2 e
  · exact inj_of num num3 m1 m2 e
/-! ### the search, by numbers -/
structure Sr where
  found : List Nat
  mask : Nat
  wait : List (List Nat)
def insN (l : List Nat) (x : Nat) : List Nat := if l.contains x then l else l ++ [x]
def one (fl : List Bool) (here : List Nat) (st : Sr) (p : Nat) : Sr :=
  if fl.getD p false = true then
    if 4 ≤ here.getD p 0 ∧ cHeld here = false then { st with found := insN st.found (here.findIdx fun c => c == 4) }
    else if st.mask.testBit (num (here.set p (nxc (here.contains 4) (here.getD p 0)))) = true then st
    else { st with mask := st.mask ||| 2 ^ num (here.set p (nxc (here.contains 4) (here.getD p 0))), wait := st.wait ++ [here.set p (nxc (here.contains 4) (here.getD p 0))] }
  else st
def upto (fl : List Bool) (here : List Nat) (st : Sr) (i : Nat) : Sr := (List.range i).foldl (one fl here) st
def turn (fl : List Bool) (st : Sr) : Sr := match st.wait.getLast? with
  | none => st
  | some here => upto fl here { st with wait := st.wait.dropLast } fl.length
def iter (fl : List Bool) (st : Sr) : Nat → Sr
  | 0 => st
  | k + 1 => turn fl (iter fl st k)
theorem upto_succ {fl : List Bool} {here : List Nat} {st : Sr} {i : Nat} : upto fl here st (i + 1) = one fl here (upto fl here st i) i := by
  unfold upto
  rw [List.range_succ, List.foldl_append]; rfl
/-- who may be told next -/
def winC (fl : List Bool) (cs : List Nat) : List Nat :=
  let rd := (List.range cs.length).filter fun p => cs.getD p 0 == 2
  if cs.contains 4 = true then [rd.foldl min (cs.findIdx fun c => c == 4)]
  else match rd with
    | [] => (List.range cs.length).filter fun p => fl.getD p false
    | r :: _ => ((List.range cs.length).filter fun p => fl.getD p false && (decide (p < r) && decide (cs.getD p 0 ≤ 1))) ++ [r]
def flagsL : Nat → List (List Bool)
  | 0 => [[]]
  | n + 1 => (flagsL n).flatMap fun v => [true :: v, false :: v]
theorem mem_flags : ∀ {n : Nat} {fl : List Bool}, fl.length = n → fl ∈ flagsL n
  | 0, [], _ => by simp [flagsL]
  | n + 1, c :: cs, hl => by
    unfold flagsL
    rw [List.mem_flatMap]
    exact ⟨cs, mem_flags (by simpa using hl), by cases c <;> simp⟩
def okC (fl : List Bool) (cs : List Nat) : Bool := ((List.range cs.length).all fun p => fl.getD p false || cs.getD p 0 == 0) && (!(cs.contains 3 || cs.contains 5) || cs.contains 4)
def sortedB : List Nat → Bool
  | a :: b :: l => decide (a ≤ b) && sortedB (b :: l)
  | _ => true
def fuel : Nat := 230
def good (fl : List Bool) (cs : List Nat) : Bool := !okC fl cs || (let r := iter fl ⟨[], 0, [cs]⟩ fuel
  r.wait.isEmpty && (r.found.isPerm (winC fl cs) && sortedB (winC fl cs)))
theorem good1 : ((flagsL 1).all fun fl => (vecs 1).all fun cs => good fl cs) = true := by decide +kernel
theorem good2 : ((flagsL 2).all fun fl => (vecs 2).all fun cs => good fl cs) = true := by decide +kernel
theorem good30 : ((vecs 3).all fun cs => good ((flagsL 3).getD 0 []) cs) = true := by decide +kernel
theorem good31 : ((vecs 3).all fun cs => good ((flagsL 3).getD 1 []) cs) = true := by decide +kernel
theorem good32 : ((vecs 3).all fun cs => good ((flagsL 3).getD 2 []) cs) = true := by decide +kernel
theorem good33 : ((vecs 3).all fun cs => good ((flagsL 3).getD 3 []) cs) = true := by decide +kernel
theorem good34 : ((vecs 3).all fun cs => good ((flagsL 3).getD 4 []) cs) = true := by decide +kernel
theorem good35 : ((vecs 3).all fun cs => good ((flagsL 3).getD 5 []) cs) = true := by decide +kernel
theorem good36 : ((vecs 3).all fun cs => good ((flagsL 3).getD 6 []) cs) = true := by decide +kernel
theorem good37 : ((vecs 3).all fun cs => good ((flagsL 3).getD 7 []) cs) = true := by decide +kernel
theorem good3 : ((flagsL 3).all fun fl => (vecs 3).all fun cs => good fl cs) = true := by
  rw [List.all_eq_true]
  intro fl hfl
  obtain ⟨i, hi⟩ := List.getElem?_of_mem hfl
  have hl : i < 8 := get_lt hi
  have e : fl = (flagsL 3).getD i [] := by rw [List.getD_eq_getElem?_getD, hi]; rfl
  rw [e]
  rcases (show i = 0 ∨ i = 1 ∨ i = 2 ∨ i = 3 ∨ i = 4 ∨ i = 5 ∨ i = 6 ∨ i = 7 by omega) with rfl | rfl | rfl | rfl | rfl | rfl | rfl | rfl
  · exact good30
  · exact good31
  · exact good32
  · exact good33
  · exact good34
  · exact good35
  · exact good36
  · exact good37
theorem good_at {n : Nat} {fl : List Bool} {cs : List Nat} (h1 : 1 ≤ n) (h3 : n ≤ 3) (hf : fl.length = n) (hc : Vec n cs) : good fl cs = true := by
  have m1 := mem_flags hf
  have m2 := mem_vecs hc.len hc.lt
  rcases (show n = 1 ∨ n = 2 ∨ n = 3 by omega) with rfl | rfl | rfl
  · exact List.all_eq_true.mp (List.all_eq_true.mp good1 fl m1) cs m2
  · exact List.all_eq_true.mp (List.all_eq_true.mp good2 fl m1) cs m2
  · exact List.all_eq_true.mp (List.all_eq_true.mp good3 fl m1) cs m2
end Fp
/-! k36: own doors on a stack; xs != []; values told, as data -/
namespace L2
open PySem PySem.Spec PyProof.Rows
/-- xs != [], of any list -/
theorem op_neNil {X : Cx} (hu : X.A.units + 1 < cLine) : OpR X (compareOp .NotEq) (fun x y H Q => ∃ a b xs, x = .ref a ∧ y = .ref b ∧ H a = some (.lst xs) ∧ H b = some (.lst []) ∧ Q (.bl (!xs.isEmpty)) H) := by
  intro pins s σ H x y v u Q I rx ry h
  obtain ⟨a, b, xs, rfl, rfl, ha, hb, q⟩ := h
  cases rx
  cases ry
  obtain ⟨_, its, n, rv, ea⟩ := I.hok a _ ha
  obtain ⟨_, itb, m, rb, eb⟩ := I.hok b _ hb
  cases rb
  have la : s.heap.IsList a its.toArray := ⟨_, ea, rfl, _, rfl⟩
  have lb : s.heap.IsList b ([] : List Value).toArray := ⟨_, eb, rfl, _, rfl⟩
  have hu' : X.A.units < cLine := by omega
  cases rv with
  | nil =>
    have h0 := SeqAt.RcNeAt.lists (A := X.A) (e := fun _ => true) la lb rfl hu' (fun j h1 h2 => absurd h1 (by simp))
    refine h0 X.prog X.w _ _ ?_
    exact ⟨.bl false, H, I, rfl, q⟩
  | cons r t =>
    have h0 := SeqAt.RcNeAt.lists_lengths (A := X.A) la lb (by simp) hu'
    refine h0 X.prog X.w _ _ ?_
    exact ⟨.bl true, H, I, rfl, q⟩
end L2
namespace Fp
open PySem PySem.Spec PyProof.Rows L2
theorem filter_range_congr {n : Nat} {f g : Nat → Bool} (h : ∀ p, p < n → f p = g p) : (List.range n).filter f = (List.range n).filter g := List.filter_congr fun p hp => h p (List.mem_range.mp hp)
theorem ready_code {s : DS} (W : s.WF) : s.readyL = (List.range s.codes.length).filter fun p => s.codes.getD p 0 == 2 := by
  unfold DS.readyL DS.held
  rw [List.filter_filter, codes_len]
  refine filter_range_congr fun p hp => ?_
  rw [codes_getD hp, Bool.eq_iff_iff, Bool.and_eq_true, decide_eq_true_iff, beq_iff_eq, code2 W]
  exact ⟨fun h => ⟨h.2, h.1⟩, fun h => ⟨h.2, h.1⟩⟩
theorem findIdx_ext2 {α β : Type} {f : α → Bool} {g : β → Bool} : ∀ {l : List α} {m : List β}, l.length = m.length → (∀ (i : Nat) x y, l[i]? = some x → m[i]? = some y → f x = g y) → l.findIdx f = m.findIdx g
  | [], [], _, _ => rfl
  | [], _ :: _, h, _ => by simp at h
  | _ :: _, [], h, _ => by simp at h
  | a :: l, b :: m, h, hp => by
    have e := hp 0 a b rfl rfl
    rw [List.findIdx_cons, List.findIdx_cons, e, findIdx_ext2 (l := l) (m := m) (by simpa using h) fun i x y hx hy => hp (i + 1) x y (by simpa using hx) (by simpa using hy)]
theorem two_code {s : DS} (W : s.WF) : s.two = s.codes.findIdx fun c => c == 4 := by
  unfold DS.two
  refine findIdx_ext2 (codes_len (s := s)).symm fun i x y hx hy => ?_
  have hi := get_lt hx
  rw [codes_at hi] at hy
  cases hy
  rw [alv hi] at hx
  cases hx
  unfold DS.isTwo
  rw [Bool.eq_iff_iff, decide_eq_true_iff, beq_iff_eq, code4 W]
theorem wins_code {s : DS} (W : s.WF) : s.wins = winC s.flags s.codes := by
  have e4 : s.codes.contains 4 = decide (some 2 ∈ s.lev) := by rw [Bool.eq_iff_iff, List.contains_iff_mem, decide_eq_true_iff, has2 W]
  unfold DS.wins winC
  rw [e4, ← ready_code W, ← two_code W]
  by_cases z : some 2 ∈ s.lev
  · rw [if_pos z, if_pos (decide_eq_true z)]; rfl
  · rw [if_neg z, if_neg (by simpa using z)]
    have ec : s.cameL = (List.range s.codes.length).filter fun p => s.flags.getD p false := by
      unfold DS.cameL
      rw [codes_len]
      exact filter_range_congr fun p hp => (flags_getD hp).symm
    cases s.readyL with
    | nil => exact ec
    | cons r rs =>
      show _ ++ _ = _ ++ _
      congr 1
      unfold DS.cameL
      rw [List.filter_filter, codes_len]
      refine filter_range_congr fun p hp => ?_
      rw [flags_getD hp, codes_getD hp]
      have : (s.sn p).isNone = decide (s.code p ≤ 1) := by
        rw [Bool.eq_iff_iff, Option.isNone_iff_eq_none, decide_eq_true_iff, ← code01 W]; omega
      rw [this]
      cases (s.cm p).isSome <;> simp
theorem okC_of {s : DS} (W : s.WF) (w : s.Wn) : okC s.flags s.codes = true := by
  unfold okC
  rw [Bool.and_eq_true, List.all_eq_true]
  constructor
  · intro p hp
    have hp' : p < s.lev.length := by rw [← codes_len]; exact List.mem_range.mp hp
    rw [flags_getD hp', codes_getD hp']
    cases q : s.cm p with
    | some v => rfl
    | none =>
      have : s.lv p = none := Classical.byContradiction fun z => W.cmv p z q
      unfold DS.code
      rw [this]; rfl
  · have e4 : s.codes.contains 4 = decide (some 2 ∈ s.lev) := by rw [Bool.eq_iff_iff, List.contains_iff_mem, decide_eq_true_iff, has2 W]
    rw [e4]
    cases z : decide (some 2 ∈ s.lev) with
    | true => simp
    | false =>
      have z : ¬ some 2 ∈ s.lev := of_decide_eq_false z
      have no3 : ¬ 3 ∈ s.codes := fun h => by
        obtain ⟨q, hq, e⟩ := List.mem_map.mp h
        have h1 := (code_of W w q).1
        have h2 := (code_of W w q).2.2
        rw [e] at h1 h2
        cases hs : s.sn q with
        | none =>
          have := (code01 W).mpr hs
          omega
        | some l =>
          unfold DS.won at h2
          rw [hs] at h2
          have h3 : some 2 ∈ l := by simpa [wnc] using h2
          exact z (mem_getD.mpr (W.s2 q l hs h3))
      have no5 : ¬ 5 ∈ s.codes := fun h => by
        obtain ⟨q, hq, e⟩ := List.mem_map.mp h
        have h1 := (code_of W w q).1
        rw [e] at h1
        exact z (mem_getD.mpr (W.z2 q h1))
      simp [no3, no5]
theorem vec_of {s : DS} : Vec s.lev.length s.codes := ⟨codes_len, codes_lt⟩
/-! ### the dicts -/
def fndK (l : List Nat) : List (Key × V) := l.map fun (p : Nat) => ((Sum.inl (p : Int) : Key), V.bl true)
theorem fnd_val (x : Nat) : ∀ l : List Nat, valV (fndK l) (.inl (x : Int)) = if l.contains x = true then some (.bl true) else none
  | [] => rfl
  | a :: l => by
    unfold fndK
    rw [List.map_cons]
    by_cases e : a = x
    · subst e
      rw [valV_pos rfl]; simp
    · have e' : ¬ ((Sum.inl (a : Int) : Key) = Sum.inl (x : Int)) := fun z => e (by injection z with z; omega)
      rw [valV_neg e']
      have := fnd_val x l
      unfold fndK at this
      rw [this]
      have : (a :: l).contains x = l.contains x := by
        rw [Bool.eq_iff_iff, List.contains_iff_mem, List.contains_iff_mem, List.mem_cons]
        exact ⟨fun z => z.elim (fun z => absurd z.symm e) id, .inr⟩
      rw [this]
theorem fnd_put (l : List Nat) (x : Nat) : putK (fndK l) (.inl (x : Int)) (.bl true) = fndK (insN l x) := by
  unfold insN
  cases h : l.contains x with
  | true =>
    rw [if_pos rfl]
    unfold putK
    rw [valV_any, fnd_val, h, if_pos rfl, Option.isSome_some, if_pos rfl]
    unfold fndK
    rw [List.map_map]
    refine List.map_congr_left fun a _ => ?_
    show (if _ then _ else _) = _
    split <;> rfl
  | false =>
    rw [if_neg (by simp), putK_new _ (by rw [fnd_val, h]; rfl)]
    unfold fndK
    rw [List.map_append]; rfl
theorem fnd_keys (l : List Nat) : (fndK l).map (·.1) = (l.map fun (p : Nat) => (p : Int)).map Sum.inl := by
  unfold fndK
  rw [List.map_map, List.map_map]
  rfl
/-- the standings that were seen -/
structure SnAt (H : Hp) (a : Addr) (n m mask : Nat) : Prop where
  ex : ∃ kvs, H a = some (.dK kvs) ∧ kvs.length ≤ m ∧ ∀ cs, Vec n cs → (valV kvs (.inr (keyT cs))).isSome = mask.testBit (num cs)
theorem SnAt.at {H H' : Hp} {a : Addr} {n m mask : Nat} (h : SnAt H a n m mask) (g : ∀ o, H a = some o → H' a = some o) : SnAt H' a n m mask := by
  obtain ⟨kvs, e, r⟩ := h.ex
  exact ⟨kvs, g _ e, r⟩
theorem SnAt.up {H : Hp} {a : Addr} {n m m' mask : Nat} (h : SnAt H a n m mask) (g : m ≤ m') : SnAt H a n m' mask := by
  obtain ⟨kvs, e, l, r⟩ := h.ex
  exact ⟨kvs, e, by omega, r⟩
theorem seen_put {kvs : List (Key × V)} {n mask : Nat} {cs : List Nat} (h1 : 1 ≤ n) (h3 : n ≤ 3) (hc : Vec n cs) (h : ∀ ds, Vec n ds → (valV kvs (.inr (keyT ds))).isSome = mask.testBit (num ds)) :
    ∀ ds, Vec n ds → (valV (putK kvs (.inr (keyT cs)) (.bl true)) (.inr (keyT ds))).isSome = (mask ||| 2 ^ num cs).testBit (num ds) := fun ds hd => by
  rw [valV_put, Nat.testBit_or, Nat.testBit_two_pow]
  by_cases e : cs = ds
  · subst e; simp
  · have n1 : ¬ ((Sum.inr (keyT ds) : Key) = Sum.inr (keyT cs)) := fun z => e (key_inj hc hd (by injection z with z; exact z.symm))
    have n2 : ¬ num cs = num ds := fun z => e (num_inj h1 h3 hc hd z)
    rw [if_neg n1, h ds hd, decide_eq_false n2, Bool.or_false]
/-! ### own doors on the stack -/
structure Stk (H : Hp) (S : List Addr) (n : Nat) (fl : List Bool) (x : V) (cs : List Nat) : Prop where
  ex : ∃ o L s k, x = .ref o ∧ OwnAt H o L s k ∧ s.WF ∧ s.Wn ∧ s.lev.length = n ∧ s.flags = fl ∧ s.codes = cs ∧ ∀ y ∈ S, y ∉ L
theorem Stk.same {H H' : Hp} {S : List Addr} {n : Nat} {fl : List Bool} {x : V} {cs : List Nat} (h : Stk H S n fl x cs) (g : Same H H') : Stk H' S n fl x cs := by
  obtain ⟨o, L, s, k, e, O, r⟩ := h.ex
  exact ⟨o, L, s, k, e, O.same g, r⟩
theorem Stk.but {H H' : Hp} {S : List Addr} {n : Nat} {fl : List Bool} {x : V} {cs : List Nat} (h : Stk H S n fl x cs) (g : But S H H') (tk : TK H H') : Stk H' S n fl x cs := by
  obtain ⟨o, L, s, k, e, O, w, wn, l, f, c, d⟩ := h.ex
  exact ⟨o, L, s, k, e, O.but g d tk, w, wn, l, f, c, d⟩
/-! ### values told, as data -/
def ddup (l : List PyData) : List PyData := l.foldl (fun acc x => if (acc.any fun z => PyData.eqv z x) = true then acc else acc ++ [x]) []
theorem ddup_snoc (l : List PyData) (x : PyData) : ddup (l ++ [x]) = if ((ddup l).any fun z => PyData.eqv z x) = true then ddup l else ddup l ++ [x] := by
  unfold ddup; rw [List.foldl_append]; rfl
theorem snoc_of {α : Type} {l : List α} {n : Nat} (h : l.length = n + 1) : ∃ x, l = l.take n ++ [x] := by
  have hn : n < l.length := by omega
  refine ⟨l[n], ?_⟩
  have := List.take_add_one (l := l) (i := n)
  rw [List.getElem?_eq_getElem hn, List.take_of_length_le (by omega)] at this
  exact this
theorem ddup_len : ∀ (n : Nat) (l : List PyData), l.length = n → (ddup l).length ≤ n
  | 0, l, h => by rw [List.length_eq_zero_iff.mp h]; simp [ddup]
  | n + 1, l, h => by
    obtain ⟨x, e⟩ := snoc_of h
    rw [e, ddup_snoc]
    have ih := ddup_len n (l.take n) (by rw [List.length_take]; omega)
    split
    · omega
    · rw [List.length_append, List.length_singleton]; omega
theorem ddup_mem : ∀ (n : Nat) (l : List PyData), l.length = n → ∀ x ∈ ddup l, x ∈ l
  | 0, l, h => by rw [List.length_eq_zero_iff.mp h]; simp [ddup]
  | n + 1, l, h => by
    obtain ⟨x, e⟩ := snoc_of h
    rw [e, ddup_snoc]
    have ih := ddup_mem n (l.take n) (by rw [List.length_take]; omega)
    intro y hy
    split at hy
    · exact List.mem_append_left _ (ih y hy)
    · rcases List.mem_append.mp hy with z | z
      · exact List.mem_append_left _ (ih y z)
      · exact List.mem_append_right _ z
/-- each player's value has this data -/
def Dats (H : Hp) (s : DS) (dat : Nat → PyData) : Prop := ∀ p v, s.cm p = some v → VAt H v (dat p) ∧ VOk 3 (dat p)
theorem Dats.mono {H H' : Hp} {s : DS} {dat : Nat → PyData} (h : Dats H s dat) (g : TK H H') : Dats H' s dat := fun p v e => ⟨(h p v e).1.mono g, (h p v e).2⟩
def spMayD (C : Addr) : Sp := fun vs H Q _ => ∃ (d : Addr) (s : DS) (dat : Nat → PyData), vs = [.ref d] ∧ DoorAt C H d s ∧ Dats H s dat ∧
  ∀ t xs H', Same H H' → H' t = some (.tup xs) → Paired (VAt H') xs (ddup (s.wins.map dat)) → Q (.ref t) H'
def spOWin : Sp := fun vs H Q _ => ∃ (o : Addr) (L : List Addr) (s : DS) (k : Int), vs = [.ref o] ∧ OwnAt H o L s k ∧ s.WF ∧ s.Wn ∧ s.lev.length ≤ 3 ∧ ∀ l H', Same H H' → H l = none → H' l = some (.lst (natV s.wins)) → Q (.ref l) H'
def spOMay : Sp := fun vs H Q _ => ∃ (o : Addr) (L : List Addr) (s : DS) (k : Int) (dat : Nat → PyData), vs = [.ref o] ∧ OwnAt H o L s k ∧ s.WF ∧ s.Wn ∧ s.lev.length ≤ 3 ∧ Dats H s dat ∧
  ∀ t xs H', Same H H' → H' t = some (.tup xs) → Paired (VAt H') xs (ddup (s.wins.map dat)) → Q (.ref t) H'
end Fp
namespace Fp
open PySem PySem.Spec PyProof.Rows L2
def KN : List Str := ["came", "levels", "stages", "won", "heard"]
theorem ent {l1 l2 l3 l4 l5 : Addr} {k : Int} {i : Nat} {kk : Key} {vv : V} (h : (odict l1 l2 l3 l4 l5 k)[i]? = some (kk, vv)) :
    (i < 5 ∧ ∃ z l, kk = .inr z ∧ vv = .ref l ∧ (!decide (V.str z = V.str "steps")) = true ∧ [l1, l2, l3, l4, l5][i]? = some l ∧ KN[i]? = some z ∧ valV (odict l1 l2 l3 l4 l5 k) (.inr z) = some (.ref l)) ∨ (i = 5 ∧ kk = .inr "steps" ∧ vv = .int k) := by
  match i, h with
  | 0, h => cases h; exact .inl ⟨by decide, _, _, rfl, rfl, by decide +kernel, rfl, rfl, o_came⟩
  | 1, h => cases h; exact .inl ⟨by decide, _, _, rfl, rfl, by decide +kernel, rfl, rfl, o_lev⟩
  | 2, h => cases h; exact .inl ⟨by decide, _, _, rfl, rfl, by decide +kernel, rfl, rfl, o_stg⟩
  | 3, h => cases h; exact .inl ⟨by decide, _, _, rfl, rfl, by decide +kernel, rfl, rfl, o_won⟩
  | 4, h => cases h; exact .inl ⟨by decide, _, _, rfl, rfl, by decide +kernel, rfl, rfl, o_heard⟩
  | 5, h => cases h; exact .inr ⟨rfl, rfl, rfl⟩
  | n + 6, h => exact absurd h (by simp [odict])
def five (s : DS) (cv hv : List V) : List (List V) := [cv, s.lev.map lvV, (List.range s.lev.length).map (fun p => V.int (s.stg p : Nat)), (List.range s.lev.length).map (fun p => V.bl (s.won p)), hv]
theorem own5 {H : Hp} {o l1 l2 l3 l4 l5 : Addr} {s : DS} {cv hv : List V} {k : Int} (O : OwnIn H o l1 l2 l3 l4 l5 s cv hv k) : ∀ (i : Nat) (l : Addr), ([l1, l2, l3, l4, l5] : List Addr)[i]? = some l → ∃ c, (five s cv hv)[i]? = some c ∧ H l = some (.lst c) := by
  intro i l h
  match i, h with
  | 0, h => cases h; exact ⟨_, rfl, O.came⟩
  | 1, h => cases h; exact ⟨_, rfl, O.lev⟩
  | 2, h => cases h; exact ⟨_, rfl, O.stg⟩
  | 3, h => cases h; exact ⟨_, rfl, O.won⟩
  | 4, h => cases h; exact ⟨_, rfl, O.heard⟩
  | n + 5, h => exact absurd h (by simp)
def kvN (ns : List Addr) : List (Key × V) := List.zipWith (fun (z : Str) (n : Addr) => ((Sum.inr z : Key), V.ref n)) KN ns
theorem kvN_snoc {ns : List Addr} {i : Nat} {z : Str} {n : Addr} (h : ns.length = i) (hz : KN[i]? = some z) : kvN (ns ++ [n]) = kvN ns ++ [(.inr z, .ref n)] := by
  subst h
  match ns, hz with
  | [], hz => cases hz; rfl
  | [_], hz => cases hz; rfl
  | [_, _], hz => cases hz; rfl
  | [_, _, _], hz => cases hz; rfl
  | [_, _, _, _], hz => cases hz; rfl
  | _ :: _ :: _ :: _ :: _ :: _, hz => exact absurd hz (by simp [KN])
theorem takeS {α : Type} {l : List α} {i : Nat} {x : α} (h : l[i]? = some x) : l.take (i + 1) = l.take i ++ [x] := by
  rw [List.take_add_one, h]; rfl
section
variable {P : Program} {w : World} {K : PySem.W.Frag} {mg : Str → Option Value} {base : Heap} {f : Addr} {fd : FuncData} {C : Addr}
abbrev s_law_door_copy : Stmt := top 32
theorem sc_law_door_copy : FnScope ["door", "key"] ["door"] (defScope s_law_door_copy) := ⟨rfl, rfl, rfl, by decide +kernel, rfl, by decide +kernel, by decide +kernel⟩
theorem ok_law_door_copy (F : Fun K "_law_door_copy" "_law_door_copy" s_law_door_copy f fd) (T : LTx mg) (hdict : mg "dict" = none) : FnOk P w K mg base CX0 1 f fd ["door"] spOCopy := by
  refine F.ok sc_law_door_copy (fun vs H Q E h => ?_) (fun cdv A outer s H vs Q E hr h => ?_)
  · obtain ⟨o, L, s, k, rfl, _⟩ := h
    rfl
  obtain ⟨o, L, s, k0, rfl, hO, k⟩ := h
  refine ⟨_, (pss_one (ps_ret (pe_callTy (call_dictP rfl) rfl hdict (by decide +kernel) (pa_cons (pe_lock (pe_lc (own := [("key", 1)]) (g := (gName 1)) (tt := tYes) rfl sc_law_door_copy.nd (pi_keys (pv 0)) (blkOk_by (own := [("key", 1)]) (N := ["door", "key"]) (sc := defScope s_law_door_copy) (by decide +kernel)) (fun _ _ _ _ _ => (pg_name (i := 1) sc_law_door_copy.nd rfl (Or.inl rfl))) (fun _ _ _ _ _ => pts_nil) (fun _ _ _ _ _ => (pe_tup (pa_cons (pv 1) (pa_cons (pe_ifExp (pt_cmpR op_ne (pv 1) pe_str (nomark _)) (pe_callTy call_list_ofK rfl T.list (by decide +kernel) (pa_cons (pe_dget (hu_of hr) (pv 0) (pv 1) (fun _ _ => rfl)) pa_nil)) (pe_dget (hu_of hr) (pv 0) (pv 1) (fun _ _ => rfl))) pa_nil)))))) pa_nil)))), ?_⟩
  obtain ⟨l1, l2, l3, l4, l5, cv, hv, rfl, O⟩ := hO
  refine ⟨o, _, O.dict, trivial, fun od => ?_⟩
  have hof : upd H o (.frz od (.dK (odict l1 l2 l3 l4 l5 k0))) o = some (.frz od (.dK (odict l1 l2 l3 l4 l5 k0))) := upd_same
  have nl : ∀ {l : Addr} {xs : List V}, H l = some (.lst xs) → upd H o (.frz od (.dK (odict l1 l2 l3 l4 l5 k0))) l = some (.lst xs) := fun {l xs} h => by
    rw [upd_ne]; exact h
    intro z; rw [z, O.dict] at h; cases h
  have hcs := own5 O
  generalize hcs' : five s cv hv = cs at hcs
  have hgs : ∀ q, upd H o (.frz od (.dK (odict l1 l2 l3 l4 l5 k0))) q = none → H q = none := fun q h => by
    by_cases e : q = o
    · rw [e, upd_same] at h; cases h
    · rw [upd_ne e] at h; exact h
  generalize hH1 : upd H o (.frz od (.dK (odict l1 l2 l3 l4 l5 k0))) = H1 at hof nl hgs
  refine ⟨_, rfl, o, od, rfl, .inl ⟨_, hof, fun D hD => ?_⟩⟩
  refine lc_it (walk_keys (kvs := odict l1 l2 l3 l4 l5 k0)) (fun i H' => ∃ (ns ts : List Addr), Same H1 H' ∧ H' D = some (.lst (ts.map V.ref)) ∧ ts.length = i ∧ ns.length = min i 5 ∧ ns.Nodup ∧ (∀ n ∈ ns, H1 n = none ∧ n ≠ D) ∧ Paired (fun n xs => H' n = some (.lst xs)) ns (cs.take i) ∧
    Paired (fun t (kv : Key × V) => H' t = some (.tup [kV kv.1, kv.2])) ts (kvN ns ++ if i = 6 then [(.inr "steps", .int k0)] else [])) ?_ (fun i H' _ z => ?_) ?_ ?_
  · exact ⟨[], [], same_new hD _, upd_same, rfl, rfl, .nil, fun n h => absurd h (by simp), .nil, .nil⟩
  · obtain ⟨ns, ts, g, _⟩ := z
    exact g _ _ hof
  · rintro i x H2 H2' hi ⟨ns, ts, g, hDl, htl, hnl, hnd, hnn, hP, hT⟩ ⟨rfl, kk, vv, hkv, rfl⟩
    have nD : H1 D = none := hD
    have dne : ∀ {q : Addr} {u : HO}, H1 q = some u → q ≠ D := fun h => ne_of_none h hD
    rcases ent hkv with ⟨hi5, z, l, rfl, rfl, hst, hl, hz, hval⟩ | ⟨rfl, rfl, rfl⟩
    · obtain ⟨c, hc, hlc⟩ := hcs i l hl
      have hlc2 := g _ _ (nl hlc)
      have dg : DGet H2' o (.str z) (some (.ref l)) := .inl ⟨_, .inr z, .inr ⟨od, g _ _ hof⟩, rfl, hval.symm⟩
      refine ⟨rfl, _, rfl, _, rfl, rfl, _, rfl, ite_yes hst ?_⟩
      refine ⟨_, rfl, _, rfl, o, _, rfl, dg, l, c, rfl, .inl (.of hlc2), fun n nn => ⟨szl (by show 2 ≤ _; decide), fun t nt => ?_⟩⟩
      have g1 := same_new nn (.lst c)
      have g2 := same_new nt (.tup [.str z, .ref n])
      have g12 := g1.trans g2
      have n0 : H1 n = none := Same.gone g nn
      have nD' : n ≠ D := fun e => by rw [e, hDl] at nn; cases nn
      have tD : t ≠ D := fun e => by rw [e, g1 _ _ hDl] at nt; cases nt
      have htt : upd (upd H2' n (.lst c)) t (.tup [.str z, .ref n]) t = some (.tup [.str z, .ref n]) := upd_same
      have hnn' : upd (upd H2' n (.lst c)) t (.tup [.str z, .ref n]) n = some (.lst c) := g2 _ _ upd_same
      have hDD := g12 _ _ hDl
      refine ⟨_, hDD, szt (by rw [List.length_map]; omega), ns ++ [n], ts ++ [t], ?_⟩
      have gD : ∀ {q : Addr} {u : HO} {ys : List V}, q ≠ D → upd (upd H2' n (.lst c)) t (.tup [.str z, .ref n]) q = some u → upd (upd (upd H2' n (.lst c)) t (.tup [.str z, .ref n])) D (.lst ys) q = some u := fun e h => by rw [upd_ne e]; exact h
      have i6 : ¬ i = 6 := by omega
      have i16 : ¬ i + 1 = 6 := by omega
      rw [if_neg i6, List.append_nil] at hT
      refine ⟨fun q u hq => by rw [upd_ne (dne hq)]; exact g12 _ _ (g _ _ hq), by rw [upd_same, List.map_append]; rfl, by rw [List.length_append, htl]; rfl, by rw [List.length_append, hnl]; show min i 5 + 1 = _; omega, ?_, fun m hm => ?_, ?_, ?_⟩
      · refine List.nodup_append.mpr ⟨hnd, (by simp), fun a ha b hb e => ?_⟩
        rw [List.mem_singleton.mp hb] at e
        obtain ⟨j, hj⟩ := List.getElem?_of_mem ha
        have : ∀ {ns : List Addr} {cs : List (List V)}, Paired (fun n xs => H2' n = some (HO.lst xs)) ns cs → ∀ a ∈ ns, ∃ xs, H2' a = some (.lst xs) := fun {ns cs} P => by
          induction P with
          | nil => intro a h; cases h
          | cons x r ih =>
            intro a h
            rcases List.mem_cons.mp h with e | e
            · exact ⟨_, e ▸ x⟩
            · exact ih a e
        obtain ⟨xs, hxs⟩ := this hP a ha
        rw [e, nn] at hxs; cases hxs
      · rcases List.mem_append.mp hm with h | h
        · exact hnn m h
        · rw [List.mem_singleton.mp h]; exact ⟨n0, nD'⟩
      · rw [takeS hc]
        refine pr_append (pr_imp' hP fun m hm ys h => gD (hnn m hm).2 (g12 _ _ h)) (.cons (gD nD' hnn') .nil)
      · rw [if_neg i16, List.append_nil, kvN_snoc (by rw [hnl]; omega) hz]
        refine pr_append (pr_imp (fun a b h => gD ?_ (g12 _ _ h)) hT) (.cons (gD tD htt) .nil)
        intro e; rw [e, hDl] at h; cases h
    · have dg : DGet H2' o (.str "steps") (some (.int k0)) := .inl ⟨_, .inr "steps", .inr ⟨od, g _ _ hof⟩, rfl, o_steps.symm⟩
      refine ⟨rfl, _, rfl, _, rfl, rfl, _, rfl, ite_no (by decide +kernel) ?_⟩
      refine ⟨_, rfl, _, rfl, o, _, rfl, dg, szl (by show 2 ≤ _; decide), fun t nt => ?_⟩
      have g2 := same_new nt (.tup [.str "steps", .int k0])
      have tD : t ≠ D := fun e => by rw [e, hDl] at nt; cases nt
      have htt : upd H2' t (.tup [.str "steps", .int k0]) t = some (.tup [.str "steps", .int k0]) := upd_same
      have hDD := g2 _ _ hDl
      refine ⟨_, hDD, szt (by rw [List.length_map]; omega), ns, ts ++ [t], ?_⟩
      have gD : ∀ {q : Addr} {u : HO} {ys : List V}, q ≠ D → upd H2' t (.tup [.str "steps", .int k0]) q = some u → upd (upd H2' t (.tup [.str "steps", .int k0])) D (.lst ys) q = some u := fun e h => by rw [upd_ne e]; exact h
      rw [if_neg (by decide), List.append_nil] at hT
      have cl : cs.length = 5 := by rw [← hcs']; rfl
      refine ⟨fun q u hq => by rw [upd_ne (dne hq)]; exact g2 _ _ (g _ _ hq), by rw [upd_same, List.map_append]; rfl, by rw [List.length_append, htl]; rfl, by rw [hnl]; rfl, hnd, hnn, ?_, ?_⟩
      · rw [List.take_of_length_le (by omega)]
        rw [List.take_of_length_le (by omega)] at hP
        exact pr_imp' hP fun m hm ys h => gD (hnn m hm).2 (g2 _ _ h)
      · rw [if_pos rfl]
        refine pr_append (pr_imp (fun a b h => gD ?_ (g2 _ _ h)) hT) (.cons (gD tD htt) .nil)
        intro e; rw [e, hDl] at h; cases h
  · rintro H2 ⟨ns, ts, g, hDl, htl, hnl, hnd, hnn, hP, hT⟩
    have hTl : (6 : Nat) = 6 := rfl
    refine ⟨g _ _ hof, ?_⟩
    have e6 : (odict l1 l2 l3 l4 l5 k0).length = 6 := rfl
    rw [e6] at hP hT hnl
    rw [if_pos rfl] at hT
    have cl : cs.length = 5 := by rw [← hcs']; rfl
    rw [List.take_of_length_le (by omega), ← hcs'] at hP
    cases hP with
    | @cons n1 _ _ _ p1 hP => cases hP with
    | @cons n2 _ _ _ p2 hP => cases hP with
    | @cons n3 _ _ _ p3 hP => cases hP with
    | @cons n4 _ _ _ p4 hP => cases hP with
    | @cons n5 _ _ _ p5 hP => cases hP with
    | nil =>
    have back : ∀ {q : Addr} {u : HO}, q ≠ o → H2 q = some u → upd H2 o (.dK (odict l1 l2 l3 l4 l5 k0)) q = some u := fun e h => by rw [upd_ne e]; exact h
    have no : ∀ {n : Addr}, n ∈ [n1, n2, n3, n4, n5] → n ≠ o := fun hn e => by have := (hnn _ hn).1; rw [e, hof] at this; cases this
    have Do : D ≠ o := (ne_of_none hof hD).symm
    refine ⟨D, ts, _, rfl, .of (back Do hDl), pr_imp (fun a b h => .of (back (fun e => by rw [e, g _ _ hof] at h; cases h) h)) hT, fun p hp => ?_⟩
    have em : mergeK [] (kvN [n1, n2, n3, n4, n5] ++ [(.inr "steps", .int k0)]) = odict n1 n2 n3 n4 n5 k0 := o_merge
    rw [em]
    have sH : Same H (upd H2 o (.dK (odict l1 l2 l3 l4 l5 k0))) := fun q u hq => by
      by_cases e : q = o
      · rw [e, upd_same, ← O.dict, ← e]; exact hq
      · rw [upd_ne e]
        refine g _ _ ?_
        rw [← hH1, upd_ne e]; exact hq
    have sn := same_new hp (.dK (odict n1 n2 n3 n4 n5 k0))
    have ss := sH.trans sn
    have np : ∀ {n : Addr} {xs : List V}, n ≠ o → H2 n = some (.lst xs) → n ≠ p ∧ upd (upd H2 o (.dK (odict l1 l2 l3 l4 l5 k0))) p (.dK (odict n1 n2 n3 n4 n5 k0)) n = some (.lst xs) := fun e h => ⟨ne_of_none (back e h) hp, sn _ _ (back e h)⟩
    have q1 := np (no (by simp)) p1
    have q2 := np (no (by simp)) p2
    have q3 := np (no (by simp)) p3
    have q4 := np (no (by simp)) p4
    have q5 := np (no (by simp)) p5
    refine k p [p, n1, n2, n3, n4, n5] _ ss (fun x hx => ?_) ⟨n1, n2, n3, n4, n5, cv, hv, rfl, upd_same, q1.2, pr_imp (fun _ _ => One.mono (.of ss)) O.cameP, q2.2, q3.2, q4.2, q5.2, pr_imp (fun _ _ => One.mono (.of ss)) O.heardP, ?_⟩
    · rcases List.mem_cons.mp hx with e | e
      · rw [e]; exact Same.gone sH hp
      · exact hgs x (hnn x e).1
    · refine List.nodup_cons.mpr ⟨?_, hnd⟩
      simp only [List.mem_cons, List.not_mem_nil, or_false, not_or]
      exact ⟨q1.1.symm, q2.1.symm, q3.1.symm, q4.1.symm, q5.1.symm⟩
end
end Fp
namespace Fp
open PySem PySem.Spec PyProof.Rows L2
theorem vpair_dp {K : PySem.W.Frag} {H : Hp} {xs : List V} {ds : List PyData} (h : Paired (VAt H) xs ds) : DpAll K H xs ds := by
  induction h with
  | nil => exact .nil
  | cons r _ ih => exact .cons r.dp ih
section
variable {P : Program} {w : World} {K : PySem.W.Frag} {mg : Str → Option Value} {base : Heap} {f : Addr} {fd : FuncData} {C : Addr}
theorem ok_may_comeD (F : Fun K "may_come" "may_come" s_may_come f fd) (T : MTx mg) (hC : DC K C) (G_winners : Fd P w K mg base CX0 "winners" 2 ["door"] (spWinG C)) : FnOk P w K mg base CX0 3 f fd ["door"] (spMayD C) := by
  refine F.ok sc_may_come (fun vs H Q E h => ?_) (fun cdv A outer s H vs Q E hr h => ?_)
  · obtain ⟨d, s, dat, rfl, _⟩ := h
    rfl
  obtain ⟨d, s, dat, rfl, hD, hdat, k⟩ := h
  refine ⟨_, (pss_cons (ps_set (i := 1) sc_may_come.nd rfl (Or.inl rfl) (pe_lst pa_nil))
  (pss_cons (ps_for PassesOwn.never rfl (pi_list (pe_fd G_winners (hr.mono (by first | decide | omega)) rfl (pa_cons (pv 0) pa_nil))) (pg_name (i := 2) sc_may_come.nd rfl (Or.inl rfl)) (pss_cons (ps_set (i := 3) sc_may_come.nd rfl (Or.inl rfl) (pe_ix ix_tup (pe_ix ix_tup (pe_fld (pv 0) rfl) (pv 2) (fun _ _ => rfl)) pe_int (fun _ _ => rfl)))
  (pss_one (ps_if (pt_cmpR (op_notInD (u65 hr)) (pv 3) (pv 1) rfl) (pss_one (ps_expr (pe_bm PySem.F.plainAttrs_list PySem.F.slot_list_append PySem.F.type_list_append mt_append (pv 1) (pa_cons (pv 3) pa_nil)))) pss_nil))))
  (pss_one (ps_ret (pe_callTy call_tuple_of rfl T.tuple (by decide +kernel) (pa_cons (pv 1) pa_nil)))))), ?_⟩
  have W := hD.wf
  have w6 := wins_len W
  refine ⟨szl (by decide), fun l0 n0 => ?_⟩
  have g0 := same_new n0 (.lst [])
  refine ⟨_, rfl, d, s, rfl, hD.same g0, fun l H1 g1 nl hl => ⟨l, rfl, ⟨_, .of hl⟩, ?_⟩⟩
  have hl0 : H1 l0 = some (.lst []) := g1 _ _ upd_same
  have hll : l ≠ l0 := fun z => by rw [z, upd_same] at nl; cases nl
  have hD1 := (hD.same g0).same g1
  have hdat1 : Dats H1 s dat := hdat.mono ((TK.of g0).trans (.of g1))
  refine for_list (K := K) (a := l) (xs := natV s.wins) (fun i σ H' => ∃ u2 u3 xs, σ = [some (.ref d), some (.ref l0), u2, u3] ∧ But [l0] H1 H' ∧ H' l0 = some (.lst xs) ∧ Paired (VAt H') xs (ddup ((s.wins.take i).map dat))) ?_ ?_ ?_ ?_
  · exact ⟨_, _, [], rfl, But.refl _ _, hl0, .nil⟩
  · rintro i σ H' _ ⟨_, _, _, rfl, g, _⟩
    exact .of (g.at hl (by simpa using hll))
  · rintro i x σ H' hx ⟨_, _, xs, rfl, g, hi, hp2⟩
    obtain ⟨p, hp, rfl⟩ := natV_get hx
    have hD2 := hD1.but g fun x hx => by rw [List.mem_singleton.mp hx]; exact .inl ⟨_, hl0⟩
    have tk : TK H1 H' := TK.but g fun a ha z => by rw [List.mem_singleton.mp ha, hl0] at z; exact z
    obtain ⟨dx, a, b, c, e, f, cv, hv, sv, dv, D⟩ := hD2
    obtain ⟨hwl, hcm⟩ := wins_mem W (List.mem_of_getElem? hp)
    obtain ⟨v, hv'⟩ : ∃ v, s.cm p = some v := by
      cases q : s.cm p with
      | none => exact absurd q hcm
      | some v => exact ⟨v, rfl⟩
    obtain ⟨xc, hxc, oc⟩ := pr_at D.cameP (W.acm hwl)
    rw [hv'] at oc
    obtain ⟨q, rfl, hq⟩ := oc
    obtain ⟨va, vo⟩ := (hdat1.mono tk) p v hv'
    refine ⟨_, rfl, d, C, dx, _, _, rfl, D.obj, hC.cl, hC.nC, d_came, _, rfl, a, cv, _, _, rfl, rfl, D.came.sq, atI_nat hxc, q, _, _, _, rfl, rfl, .of hq, atI_nat (j := 0) rfl, ?_⟩
    have smA : ∀ d ∈ ddup ((s.wins.take i).map dat), Sm 4 39 d := fun d hd => by
      obtain ⟨p', hp', e⟩ := List.mem_map.mp (ddup_mem _ _ rfl d hd)
      obtain ⟨_, hc'⟩ := wins_mem W (List.mem_of_mem_take hp')
      cases q : s.cm p' with
      | none => exact absurd q hc'
      | some v' => rw [← e]; exact (hdat1 p' v' q).2.sm
    have smL : Sm 5 _ (.list (ddup ((s.wins.take i).map dat))) := (Sms.all smA).lst
    have dl : xs.length ≤ 6 := by
      rw [pr_len hp2]
      have := ddup_len _ ((s.wins.take i).map dat) rfl
      rw [List.length_map, List.length_take] at this
      omega
    refine ⟨_, rfl, _, rfl, dat p, _, va.dp, .lst (.of hi) (vpair_dp hp2), vo.sm.shaped (by decide), smL.shaped (by decide), _, rfl, ?_⟩
    have ed : ddup ((s.wins.take (i + 1)).map dat) = if ((ddup ((s.wins.take i).map dat)).any fun z => PyData.eqv z (dat p)) = true then ddup ((s.wins.take i).map dat) else ddup ((s.wins.take i).map dat) ++ [dat p] := by
      rw [take_snoc hp, List.map_append]; exact ddup_snoc _ _
    cases hin : (ddup ((s.wins.take i).map dat)).any fun z => PyData.eqv z (dat p) with
    | true =>
      refine ite_no rfl ?_
      rw [hin, if_pos rfl] at ed
      exact ⟨_, _, _, rfl, g, hi, by rw [ed]; exact hp2⟩
    | false =>
      refine ite_yes rfl ?_
      rw [hin, if_neg (by simp)] at ed
      refine ⟨_, rfl, .inl ⟨rfl, _, .of hi⟩, _, rfl, l0, _, _, rfl, rfl, hi, szt (by omega), ?_⟩
      have tk2 : TK H' (upd H' l0 (.lst (xs ++ [v]))) := TK.put hi fun z => z
      exact ⟨_, _, _, rfl, g.put (by simp), upd_same, by rw [ed]; exact pr_append (pr_imp (fun _ _ z => z.mono tk2) hp2) (.cons (va.mono tk2) .nil)⟩
  · rintro σ H' ⟨_, _, xs, rfl, g, hi, hp2⟩
    rw [natV_len, List.take_length] at hp2
    refine ⟨_, rfl, l0, _, rfl, .inl ⟨.of hi, fun t nt => ?_⟩⟩
    refine k t xs _ (fun q o e => ?_) upd_same (pr_imp (fun _ _ z => z.mono (.of (same_new nt _))) hp2)
    have ql : q ≠ l0 := ne_of_none e n0
    exact same_new nt _ _ _ (g _ _ (by simpa using ql) (g1 _ _ (g0 _ _ e)))
abbrev s_law_may_come : Stmt := top 36
theorem sc_law_may_come : FnScope ["door", "found", "player", "value"] ["door"] (defScope s_law_may_come) := ⟨rfl, rfl, rfl, by decide +kernel, rfl, by decide +kernel, by decide +kernel⟩
theorem ok_law_may_come (F : Fun K "_law_may_come" "_law_may_come" s_law_may_come f fd) (T : LTx mg) (G_law_door_winners : FdG P w K mg base CX0 "_law_door_winners" 2 ["door"] spOWin) : FnOkG P w K mg base CX0 3 f fd ["door"] spOMay := by
  refine fun_okG F sc_law_may_come (fun vs H Q E h => ?_) (fun cdv A outer s H vs Q E hr hgu h => ?_)
  · obtain ⟨o, L, s, k, dat, rfl, _⟩ := h
    rfl
  obtain ⟨o, L, s, k0, dat, rfl, hO, W, Wn, h3, hdat, k⟩ := h
  refine ⟨_, (pss_cons (ps_set (i := 1) sc_law_may_come.nd rfl (Or.inl rfl) (pe_lst pa_nil))
  (pss_cons (ps_for PassesOwn.never rfl (pi_list (pe_fdG G_law_door_winners (hr.mono (by decide)) hgu rfl (pa_cons (pv 0) pa_nil))) (pg_name (i := 2) sc_law_may_come.nd rfl (Or.inl rfl)) (pss_cons (ps_set (i := 3) sc_law_may_come.nd rfl (Or.inl rfl) (pe_ix ix_tup (pe_ix ix_list (pe_dget (hu_of hr) (pv 0) pe_str (fun _ _ => rfl)) (pv 2) (fun _ _ => rfl)) pe_int (fun _ _ => rfl)))
  (pss_one (ps_expr (pe_bm PySem.F.plainAttrs_list PySem.F.slot_list_extend PySem.F.type_list_extend mt_extend (pv 1) (pa_cons (pe_ifExp (pt_cmpR (op_inD (u65 hr)) (pv 3) (pv 1) rfl) (pe_lst pa_nil) (pe_lst (pa_cons (pv 3) pa_nil))) pa_nil))))))
  (pss_one (ps_ret (pe_callTy call_tuple_of rfl T.tuple (by decide +kernel) (pa_cons (pv 1) pa_nil)))))), ?_⟩
  have w6 := wins_len W
  refine ⟨szl (by decide), fun l0 n0 => ?_⟩
  have g0 := same_new n0 (.lst [])
  refine ⟨_, rfl, o, L, s, k0, rfl, hO.same g0, W, Wn, h3, fun l H1 g1 nl hl => ⟨l, rfl, ⟨_, .of hl⟩, ?_⟩⟩
  have hl0 : H1 l0 = some (.lst []) := g1 _ _ upd_same
  have hll : l ≠ l0 := fun z => by rw [z, upd_same] at nl; cases nl
  have hO1 := (hO.same g0).same g1
  have hdat1 : Dats H1 s dat := hdat.mono ((TK.of g0).trans (.of g1))
  have nL : ∀ x ∈ [l0], x ∉ L := fun x hx hm => by
    rw [List.mem_singleton.mp hx] at hm
    rcases hO.kind l0 hm with ⟨_, e⟩ | ⟨_, e⟩ <;> rw [n0] at e <;> cases e
  refine for_list (K := K) (a := l) (xs := natV s.wins) (fun i σ H' => ∃ u2 u3 xs, σ = [some (.ref o), some (.ref l0), u2, u3] ∧ But [l0] H1 H' ∧ H' l0 = some (.lst xs) ∧ Paired (VAt H') xs (ddup ((s.wins.take i).map dat))) ?_ ?_ ?_ ?_
  · exact ⟨_, _, [], rfl, But.refl _ _, hl0, .nil⟩
  · rintro i σ H' _ ⟨_, _, _, rfl, g, _⟩
    exact .of (g.at hl (by simpa using hll))
  · rintro i x σ H' hx ⟨_, _, xs, rfl, g, hi, hp2⟩
    obtain ⟨p, hp, rfl⟩ := natV_get hx
    have tk : TK H1 H' := TK.but g fun a ha z => by rw [List.mem_singleton.mp ha, hl0] at z; exact z
    have hO2 := hO1.but g nL tk
    obtain ⟨l1, l2, l3, l4, l5, cv, hv, rfl, D⟩ := hO2
    obtain ⟨hwl, hcm⟩ := wins_mem W (List.mem_of_getElem? hp)
    obtain ⟨v, hv'⟩ : ∃ v, s.cm p = some v := by
      cases q : s.cm p with
      | none => exact absurd q hcm
      | some v => exact ⟨v, rfl⟩
    obtain ⟨xc, hxc, oc⟩ := pr_at D.cameP (W.acm hwl)
    rw [hv'] at oc
    obtain ⟨q, rfl, hq⟩ := oc
    obtain ⟨va, vo⟩ := (hdat1.mono tk) p v hv'
    refine ⟨_, rfl, o, _, rfl, og_came D.dict, _, rfl, l1, cv, _, _, rfl, rfl, .of D.came, atI_nat hxc, q, _, _, _, rfl, rfl, .of hq, atI_nat (j := 0) rfl, ?_⟩
    have smA : ∀ d ∈ ddup ((s.wins.take i).map dat), Sm 4 39 d := fun d hd => by
      obtain ⟨p', hp', e⟩ := List.mem_map.mp (ddup_mem _ _ rfl d hd)
      obtain ⟨_, hc'⟩ := wins_mem W (List.mem_of_mem_take hp')
      cases q : s.cm p' with
      | none => exact absurd q hc'
      | some v' => rw [← e]; exact (hdat1 p' v' q).2.sm
    have smL : Sm 5 _ (.list (ddup ((s.wins.take i).map dat))) := (Sms.all smA).lst
    have dl : xs.length ≤ 6 := by
      rw [pr_len hp2]
      have := ddup_len _ ((s.wins.take i).map dat) rfl
      rw [List.length_map, List.length_take] at this
      omega
    have ed : ddup ((s.wins.take (i + 1)).map dat) = if ((ddup ((s.wins.take i).map dat)).any fun z => PyData.eqv z (dat p)) = true then ddup ((s.wins.take i).map dat) else ddup ((s.wins.take i).map dat) ++ [dat p] := by
      rw [take_snoc hp, List.map_append]; exact ddup_snoc _ _
    refine ⟨_, rfl, .inl ⟨rfl, _, .of hi⟩, _, rfl, _, rfl, dat p, _, va.dp, .lst (.of hi) (vpair_dp hp2), vo.sm.shaped (by decide), smL.shaped (by decide), _, rfl, ?_⟩
    have nt : ∀ {b : Addr} {zs : List V}, H' b = none → upd H' b (.lst zs) l0 = some (.lst xs) := fun {b zs} nb => by rw [upd_ne (ne_of_none hi nb)]; exact hi
    cases hin : (ddup ((s.wins.take i).map dat)).any fun z => PyData.eqv z (dat p) with
    | true =>
      rw [hin, if_pos rfl] at ed
      refine ite_yes rfl ⟨szl (by decide), fun b nb => ⟨l0, b, xs, [], rfl, rfl, nt nb, upd_same, szl (by simp; omega), ?_⟩⟩
      have b0 : But [l0] H' (upd (upd H' b (.lst [])) l0 (.lst (xs ++ []))) := ((But.refl _ _).new nb).put (by simp)
      have tk2 : TK H' (upd (upd H' b (.lst [])) l0 (.lst (xs ++ []))) := (TK.of (same_new nb _)).trans (.put (nt nb) fun z => z)
      exact ⟨_, _, _, rfl, g.trans b0, upd_same, by rw [ed, List.append_nil]; exact pr_imp (fun _ _ z => z.mono (by rw [List.append_nil] at tk2; exact tk2)) hp2⟩
    | false =>
      rw [hin, if_neg (by simp)] at ed
      refine ite_no rfl ⟨_, rfl, szl (by show 1 ≤ _; decide), fun b nb => ⟨l0, b, xs, [v], rfl, rfl, nt nb, upd_same, szl (by simp; omega), ?_⟩⟩
      have b0 : But [l0] H' (upd (upd H' b (.lst [v])) l0 (.lst (xs ++ [v]))) := ((But.refl _ _).new nb).put (by simp)
      have tk2 : TK H' (upd (upd H' b (.lst [v])) l0 (.lst (xs ++ [v]))) := (TK.of (same_new nb _)).trans (.put (nt nb) fun z => z)
      exact ⟨_, _, _, rfl, g.trans b0, upd_same, by rw [ed]; exact pr_append (pr_imp (fun _ _ z => z.mono tk2) hp2) (.cons (va.mono tk2) .nil)⟩
  · rintro σ H' ⟨_, _, xs, rfl, g, hi, hp2⟩
    rw [natV_len, List.take_length] at hp2
    refine ⟨_, rfl, l0, _, rfl, .inl ⟨.of hi, fun t nt => ?_⟩⟩
    refine k t xs _ (fun q o e => ?_) upd_same (pr_imp (fun _ _ z => z.mono (.of (same_new nt _))) hp2)
    have ql : q ≠ l0 := ne_of_none e n0
    exact same_new nt _ _ _ (g _ _ (by simpa using ql) (g1 _ _ (g0 _ _ e)))
end
end Fp
namespace Fp
open PySem PySem.Spec PyProof.Rows L2
theorem while_up {c : L2.TT} {tb : TS} {D : Ends} {σ : L2.St} {H : Hp} (n : Nat) (Pv : Nat → L2.St → Hp → Prop) (h0 : Pv 0 σ H)
    (hs : ∀ i σ H, i ≤ n → Pv i σ H → c σ H fun b H1 => if b = true then i < n ∧ tb { D with nx := Pv (i + 1), ct := Pv (i + 1), bk := D.nx } σ H1 else D.nx σ H1)
    (mono : ∀ σ H Q Q', (∀ b H1, Q b H1 → Q' b H1) → c σ H Q → c σ H Q') : tWhile c tb D σ H := by
  refine ⟨fun m σ H => ∃ i, m + i = n ∧ Pv i σ H, ⟨n, 0, rfl, h0⟩, ?_⟩
  rintro m σ H ⟨i, hi, p⟩
  refine mono σ H _ _ (fun b H1 q => ?_) (hs i σ H (by omega) p)
  cases b with
  | true =>
    obtain ⟨hlt, q⟩ := q
    exact ⟨Pv (i + 1), fun σ' H' p' => ⟨n - (i + 1), by omega, i + 1, by omega, p'⟩, q⟩
  | false => exact q
theorem lev_codes {s : DS} (W : s.WF) (w : s.Wn) : s.lev = s.codes.map lvc := by
  refine List.ext_getElem? fun i => ?_
  rw [List.getElem?_map]
  by_cases hi : i < s.lev.length
  · rw [alv hi, codes_at hi, (code_of W w i).1]; rfl
  · rw [List.getElem?_eq_none (by omega), List.getElem?_eq_none (by rw [codes_len]; omega)]; rfl
theorem stg_codes {s : DS} (W : s.WF) (w : s.Wn) : ((List.range s.lev.length).map fun p => V.int (s.stg p : Nat)) = s.codes.map fun c => V.int (stc c : Nat) := by
  unfold DS.codes
  rw [List.map_map]
  exact List.map_congr_left fun p _ => by show V.int _ = V.int _; rw [(code_of W w p).2.1]
theorem won_codes {s : DS} (W : s.WF) (w : s.Wn) : ((List.range s.lev.length).map fun p => V.bl (s.won p)) = s.codes.map fun c => V.bl (wnc c) := by
  unfold DS.codes
  rw [List.map_map]
  exact List.map_congr_left fun p _ => by show V.bl _ = V.bl _; rw [(code_of W w p).2.2]
theorem ints_dp {K : PySem.W.Frag} {H : Hp} {α : Type} (f : α → Int) : ∀ l : List α, DpAll K H (l.map fun c => V.int (f c)) (l.map fun c => PyData.int (f c))
  | [] => .nil
  | _ :: l => .cons (.int _) (ints_dp f l)
theorem bls_dp {K : PySem.W.Frag} {H : Hp} {α : Type} (f : α → Bool) : ∀ l : List α, DpAll K H (l.map fun c => V.bl (f c)) (l.map fun c => PyData.bool (f c))
  | [] => .nil
  | _ :: l => .cons (.bl _) (bls_dp f l)
theorem Sm.bool (b : Bool) : Sm 1 0 (.bool b) := ⟨by simp [PyData.showable], by simp [PyData.canLay0], by simp [PyData.leavesShort], by simp [PyData.bulk], by simp [PyData.depth]⟩
theorem stc_le (c : Nat) : stc c ≤ 3 := by unfold stc; split <;> decide
theorem key_sm {cs : List Nat} (h : cs.length ≤ 3) : Sm 3 100 (keyD cs) := by
  have a1 : Sm 2 30 (.list (cs.map fun c => lvD (lvc c))) := ((Sms.all (k := 1) (n := 0) fun d hd => by
    obtain ⟨c, _, rfl⟩ := List.mem_map.mp hd
    unfold lvc
    split
    · exact Sm.non
    all_goals exact Sm.int (by decide) (by decide)).lst).mono (by decide) (by rw [List.length_map]; omega)
  have a2 : Sm 2 30 (.list (cs.map fun c => PyData.int (stc c : Nat))) := ((Sms.all (k := 1) (n := 0) fun d hd => by
    obtain ⟨c, _, rfl⟩ := List.mem_map.mp hd
    have := stc_le c
    exact Sm.int (by omega) (by omega)).lst).mono (by decide) (by rw [List.length_map]; omega)
  have a3 : Sm 2 30 (.list (cs.map fun c => PyData.bool (wnc c))) := ((Sms.all (k := 1) (n := 0) fun d hd => by
    obtain ⟨c, _, rfl⟩ := List.mem_map.mp hd
    exact Sm.bool _).lst).mono (by decide) (by rw [List.length_map]; omega)
  exact (Sms.tup (.cons a1 (.cons a2 (.cons a3 (Sms.nil (n := 0)))))).mono (by decide) (by decide)
def isWord : Told → Bool
  | .word _ => true
  | _ => false
theorem code_ge {s : DS} {p : Nat} (W : s.WF) (w : s.Wn) : 4 ≤ s.code p ↔ s.stg p = 3 := by
  rw [(code_of W w p).2.1]
  have := code_lt s p
  rcases (show s.code p = 0 ∨ s.code p = 1 ∨ s.code p = 2 ∨ s.code p = 3 ∨ s.code p = 4 ∨ s.code p = 5 by omega) with e | e | e | e | e | e <;> rw [e] <;> decide
theorem word_code {s : DS} {p : Nat} (W : s.WF) (w : s.Wn) : isWord (s.told p) = true ↔ 4 ≤ s.code p ∧ cHeld s.codes = false := by
  rw [code_ge W w]
  have h1 : cHeld s.codes = false ↔ ¬ some 1 ∈ s.lev := by rw [has1 W]; simp
  rw [h1]
  have h4 := DS.stg_lt s p
  rcases (show s.stg p = 0 ∨ s.stg p = 1 ∨ s.stg p = 2 ∨ s.stg p = 3 by omega) with e | e | e | e
  · rw [DS.told0 e, e]; simp [isWord]
  · rw [DS.told1 e, e]; simp [isWord]
  · rw [DS.told2 e, e]; simp [isWord]
  · rw [DS.told3 e, e]
    by_cases z : some 1 ∈ s.lev
    · rw [if_pos z]; simp [isWord, z]
    · rw [if_neg z]; simp [isWord, z]
/-- the loop's own things -/
structure Lp (H0 : Hp) (af sn aw : Addr) (n : Nat) (fl : List Bool) (st : Sr) (m : Nat) (H : Hp) : Prop where
  g : Same H0 H
  f : H af = some (.dK (fndK st.found))
  s : SnAt H sn n m st.mask
  w : ∃ xs, H aw = some (.lst xs) ∧ Paired (Stk H [af, sn, aw] n fl) xs st.wait
  fl : st.found.length ≤ m
  wl : st.wait.length ≤ m + 1
structure Dj (H0 : Hp) (af sn aw : Addr) : Prop where
  a : H0 af = none
  b : H0 sn = none
  c : H0 aw = none
  ab : af ≠ sn
  ac : af ≠ aw
  bc : sn ≠ aw
theorem stks_same {H H' : Hp} {S : List Addr} {n : Nat} {fl : List Bool} {xs : List V} {cs : List (List Nat)} (h : Paired (Stk H S n fl) xs cs) (g : Same H H') : Paired (Stk H' S n fl) xs cs := pr_imp (fun _ _ z => z.same g) h
theorem stks_but {H H' : Hp} {S : List Addr} {n : Nat} {fl : List Bool} {xs : List V} {cs : List (List Nat)} (h : Paired (Stk H S n fl) xs cs) (g : But S H H') (tk : TK H H') : Paired (Stk H' S n fl) xs cs := pr_imp (fun _ _ z => z.but g tk) h
theorem Lp.same {H0 H H' : Hp} {af sn aw : Addr} {n m : Nat} {fl : List Bool} {st : Sr} (h : Lp H0 af sn aw n fl st m H) (g : Same H H') : Lp H0 af sn aw n fl st m H' := by
  obtain ⟨xs, e, p⟩ := h.w
  exact ⟨h.g.trans g, g _ _ h.f, h.s.at (fun o z => g _ _ z), ⟨xs, g _ _ e, stks_same p g⟩, h.fl, h.wl⟩
theorem Lp.up {H0 H : Hp} {af sn aw : Addr} {n m m' : Nat} {fl : List Bool} {st : Sr} (h : Lp H0 af sn aw n fl st m H) (g : m ≤ m') : Lp H0 af sn aw n fl st m' H :=
  ⟨h.g, h.f, h.s.up g, h.w, by have := h.fl; omega, by have := h.wl; omega⟩
theorem ins_len (l : List Nat) (x : Nat) : (insN l x).length ≤ l.length + 1 := by unfold insN; split <;> simp
section
variable {H0 H : Hp} {af sn aw : Addr} {n m : Nat} {fl : List Bool} {st : Sr}
theorem sm_upd {a : Addr} {u : HO} (g : Same H0 H) (h : H0 a = none) : Same H0 (upd H a u) := fun o v q => by rw [upd_ne (ne_of_none q h)]; exact g _ _ q
/-- somebody is found -/
theorem Lp.putF (d : Dj H0 af sn aw) (h : Lp H0 af sn aw n fl st m H) (x : Nat) : Lp H0 af sn aw n fl { st with found := insN st.found x } (m + 1) (upd H af (.dK (fndK (insN st.found x)))) := by
  obtain ⟨xs, e, p⟩ := h.w
  have tk : TK H (upd H af (.dK (fndK (insN st.found x)))) := TK.put h.f fun z => z
  exact ⟨sm_upd h.g d.a, upd_same, (h.s.at fun o z => by rw [upd_ne (Ne.symm d.ab)]; exact z).up (Nat.le_succ _), ⟨xs, by rw [upd_ne (Ne.symm d.ac)]; exact e, stks_but p ((But.refl _ _).put (by simp)) tk⟩, by have := h.fl; have := ins_len st.found x; show (insN st.found x).length ≤ _; omega, by have := h.wl; show st.wait.length ≤ _; omega⟩
/-- a standing is new -/
theorem Lp.putS (d : Dj H0 af sn aw) (h1 : 1 ≤ n) (h3 : n ≤ 3) (h : Lp H0 af sn aw n fl st m H) {cs : List Nat} (hc : Vec n cs) {kvs : List (Key × V)} (e : H sn = some (.dK kvs)) (hl : kvs.length ≤ m) (hv : ∀ cs, Vec n cs → (valV kvs (.inr (keyT cs))).isSome = st.mask.testBit (num cs)) :
    Lp H0 af sn aw n fl { st with mask := st.mask ||| 2 ^ num cs } (m + 1) (upd H sn (.dK (putK kvs (.inr (keyT cs)) (.bl true)))) := by
  obtain ⟨xs, ew, p⟩ := h.w
  have tk : TK H (upd H sn (.dK (putK kvs (.inr (keyT cs)) (.bl true)))) := TK.put e fun z => z
  exact ⟨sm_upd h.g d.b, by rw [upd_ne d.ab]; exact h.f, ⟨_, upd_same, by have := length_putK kvs (.inr (keyT cs)) (.bl true); omega, seen_put h1 h3 hc hv⟩, ⟨xs, by rw [upd_ne (Ne.symm d.bc)]; exact ew, stks_but p ((But.refl _ _).put (by simp)) tk⟩, by have := h.fl; show st.found.length ≤ _; omega, by have := h.wl; show st.wait.length ≤ _; omega⟩
/-- the stack is another one -/
theorem Lp.putW (d : Dj H0 af sn aw) (h : Lp H0 af sn aw n fl st m H) {xs ys : List V} {cs : List (List Nat)} (e : H aw = some (.lst xs)) (p : Paired (Stk H [af, sn, aw] n fl) ys cs) (hl : cs.length ≤ m + 1) : Lp H0 af sn aw n fl { st with wait := cs } m (upd H aw (.lst ys)) := by
  have tk : TK H (upd H aw (.lst ys)) := TK.put e fun z => z
  exact ⟨sm_upd h.g d.c, by rw [upd_ne d.ac]; exact h.f, h.s.at fun o z => by rw [upd_ne d.bc]; exact z, ⟨ys, upd_same, stks_but p ((But.refl _ _).put (by simp)) tk⟩, h.fl, hl⟩
end
theorem paired_snoc {α β : Type} {R : α → β → Prop} {x : α} : ∀ {ys : List α} {zs : List β}, Paired R (ys ++ [x]) zs → ∃ ws b, zs = ws ++ [b] ∧ R x b ∧ Paired R ys ws
  | [], _, .cons r t => by cases t; exact ⟨[], _, rfl, r, .nil⟩
  | y :: ys, _, .cons r t => by
    obtain ⟨ws, b, e, h1, h2⟩ := paired_snoc t
    exact ⟨_ :: ws, b, by rw [e]; rfl, h1, .cons r h2⟩
theorem iter_stop {fl : List Bool} {st : Sr} {i : Nat} (h : (iter fl st i).wait = []) : ∀ j, iter fl st (i + j) = iter fl st i
  | 0 => rfl
  | j + 1 => by
    show turn fl (iter fl st (i + j)) = _
    rw [iter_stop h j]
    unfold turn
    rw [h]; rfl
theorem turn_snoc {fl : List Bool} {st : Sr} {ws : List (List Nat)} {here : List Nat} (h : st.wait = ws ++ [here]) : turn fl st = upto fl here { st with wait := ws } fl.length := by
  unfold turn
  rw [h]
  simp
theorem srt_of : ∀ {l : List Nat}, sortedB l = true → l.Pairwise (· ≤ ·)
  | [], _ => .nil
  | [a], _ => by simp
  | a :: b :: l, h => by
    simp only [sortedB, Bool.and_eq_true, decide_eq_true_eq] at h
    have ih := srt_of h.2
    refine List.pairwise_cons.mpr ⟨fun x hx => ?_, ih⟩
    rcases List.mem_cons.mp hx with rfl | hx
    · exact h.1
    · exact Nat.le_trans h.1 ((List.pairwise_cons.mp ih).1 x hx)
theorem sorted_one {ys : List Int} {l : List Nat} (h1 : ys.Perm (l.map fun (p : Nat) => (p : Int))) (h2 : ys.Pairwise (· ≤ ·)) {l2 : List Nat} (h3 : l.Perm l2) (h4 : sortedB l2 = true) : ys = l2.map fun (p : Nat) => (p : Int) := by
  have p2 : ys.Perm (l2.map fun (p : Nat) => (p : Int)) := h1.trans (h3.map _)
  refine p2.eq_of_pairwise (le := fun a b => a ≤ b) (fun a b _ _ x y => Int.le_antisymm x y) h2 ?_
  exact (srt_of h4).map _ fun a b h => by omega
section
variable {P : Program} {w : World} {K : PySem.W.Frag} {mg : Str → Option Value} {base : Heap} {f : Addr} {fd : FuncData} {C : Addr}
abbrev s_law_door_winners : Stmt := top 35
theorem sc_law_door_winners : FnScope ["door", "found", "seen", "waiting", "here", "player", "came", "later", "act", "key"] ["door"] (defScope s_law_door_winners) := ⟨rfl, rfl, rfl, by decide +kernel, rfl, by decide +kernel, by decide +kernel⟩
theorem ok_law_door_winners (F : Fun K "_law_door_winners" "_law_door_winners" s_law_door_winners f fd) (T : LTx mg) (hsorted : mg "sorted" = none) (G_law_door_copy : Fd P w K mg base CX0 "_law_door_copy" 1 ["door"] spOCopy) (G_law_door_step : Fd P w K mg base CX0 "_law_door_step" 1 ["door", "player"] spOStep) : FnOkG P w K mg base CX0 2 f fd ["door"] spOWin := by
  refine fun_okG F sc_law_door_winners (fun vs H Q E h => ?_) (fun cdv A outer s H vs Q E hr hgu h => ?_)
  · obtain ⟨o, L, s, k, rfl, _⟩ := h
    rfl
  obtain ⟨o, L, s, k0, rfl, hO, W, Wn, h3, k⟩ := h
  refine ⟨_, (pss_cons (ps_par3 (i := 1) (j := 2) (l := 3) (by rfl) sc_law_door_winners.nd rfl rfl rfl (by decide) (by decide) (by decide) rfl rfl rfl (pa_cons pe_dnewK (pa_cons pe_dnewK (pa_cons (pe_lst (pa_cons (pv 0) pa_nil)) pa_nil))) (by rfl))
  (pss_cons (ps_while PassesOwn.never (pt_cmpR (L2.op_neNil (hu_of hr)) (pv 3) (pe_lst pa_nil) (nomark _)) (pss_cons (ps_set (i := 4) sc_law_door_winners.nd rfl (Or.inl rfl) (pe_bm0 PySem.F.plainAttrs_list PySem.F.slot_list_pop PySem.F.type_list_pop mt_pop (pv 3)))
  (pss_one (ps_for PassesOwn.never rfl (pi_enum rfl T.enumerate (pa_cons (pe_dget (hu_of hr) (pv 4) pe_str (fun _ _ => rfl)) pa_nil)) (pg_tup rfl (pgs_cons (pg_name (i := 5) sc_law_door_winners.nd rfl (Or.inl rfl)) (pgs_cons (pg_name (i := 6) sc_law_door_winners.nd rfl (Or.inl rfl)) pgs_nil))) (pss_cons (ps_if (pt_cmpR op_isN (pv 6) pe_non (nomark _)) (pss_one ps_continue) pss_nil)
  (pss_cons (ps_set (i := 7) sc_law_door_winners.nd rfl (Or.inl rfl) (pe_fd G_law_door_copy (hr.mono (by first | decide | omega)) rfl (pa_cons (pv 4) pa_nil)))
  (pss_cons (ps_set (i := 8) sc_law_door_winners.nd rfl (Or.inl rfl) (pe_fd G_law_door_step (hr.mono (by first | decide | omega)) rfl (pa_cons (pv 7) (pa_cons (pv 5) pa_nil))))
  (pss_cons (ps_set (i := 9) sc_law_door_winners.nd rfl (Or.inl rfl) (pe_callB (call_reprA hgu (u66 hr)) rfl T.repr (by decide +kernel) (pa_cons (pe_tup (pa_cons (pe_dget (hu_of hr) (pv 7) pe_str (fun _ _ => rfl)) (pa_cons (pe_dget (hu_of hr) (pv 7) pe_str (fun _ _ => rfl)) (pa_cons (pe_dget (hu_of hr) (pv 7) pe_str (fun _ _ => rfl)) pa_nil)))) pa_nil)))
  (pss_one (ps_if (pt_cmpR op_eq (pe_ix ix_tup (pv 8) pe_int (fun _ _ => rfl)) pe_str (nomark _)) (pss_one (ps_dput (hu_of hr) (pv 1) (pe_bm PySem.F.plainAttrs_list PySem.F.slot_list_index PySem.F.type_list_index mt_index (pe_dget (hu_of hr) (pv 7) pe_str (fun _ _ => rfl)) (pa_cons pe_int pa_nil)) pe_bl rfl)) (pss_one (ps_if (pt_cmp (pc_dnotin (hu_of hr) (pv 9) (pv 2)) rfl) (pss_cons (ps_dput (hu_of hr) (pv 2) (pv 9) pe_bl rfl)
  (pss_one (ps_expr (pe_bm PySem.F.plainAttrs_list PySem.F.slot_list_append PySem.F.type_list_append mt_append (pv 3) (pa_cons (pv 7) pa_nil))))) pss_nil))))))))))))
  (pss_one (ps_ret (pe_callB (call_sortedDI rfl) rfl hsorted (by decide +kernel) (pa_cons (pv 1) pa_nil)))))), ?_⟩
  have n1 := W.n1
  refine fun af naf sn nsn => ⟨_, rfl, szl (by show 1 ≤ _; decide), fun aw naw => ⟨_, _, _, rfl, ?_⟩⟩
  have d1 : af ≠ sn := fun z => by rw [← z, upd_same] at nsn; cases nsn
  have d2 : af ≠ aw := fun z => by rw [← z, upd_ne d1, upd_same] at naw; cases naw
  have d3 : sn ≠ aw := fun z => by rw [← z, upd_same] at naw; cases naw
  have hsn : H sn = none := by rw [upd_ne (Ne.symm d1)] at nsn; exact nsn
  have haw : H aw = none := by rw [upd_ne (Ne.symm d3), upd_ne (Ne.symm d2)] at naw; exact naw
  have dj : Dj H af sn aw := ⟨naf, hsn, haw, d1, d2, d3⟩
  have nL : ∀ x ∈ [af, sn, aw], x ∉ L := fun x hx hm => by
    have e : H x = none := by
      simp only [List.mem_cons, List.not_mem_nil, or_false] at hx
      rcases hx with rfl | rfl | rfl
      · exact naf
      · exact hsn
      · exact haw
    rcases hO.kind x hm with ⟨_, z⟩ | ⟨_, z⟩ <;> rw [e] at z <;> cases z
  have gd := good_at (n := s.lev.length) n1 h3 (flags_len (s := s)) vec_of
  unfold good at gd
  rw [okC_of W Wn] at gd
  simp only [Bool.not_true, Bool.false_or, Bool.and_eq_true] at gd
  obtain ⟨gw, gp, gs⟩ := gd
  generalize hst0 : (⟨[], 0, [s.codes]⟩ : Sr) = st0 at gw gp
  have L0 : Lp H af sn aw s.lev.length s.flags st0 0 (upd (upd (upd H af (.dK [])) sn (.dK [])) aw (.lst [.ref o])) := by
    subst hst0
    have g0 : Same H (upd (upd (upd H af (.dK [])) sn (.dK [])) aw (.lst [.ref o])) := sm_upd (sm_upd (same_new naf _) hsn) haw
    refine ⟨g0, by rw [upd_ne d2, upd_ne d1]; exact upd_same, ⟨[], by rw [upd_ne d3]; exact upd_same, Nat.le_refl _, fun cs _ => by rw [valV_nil]; simp⟩, ⟨_, upd_same, .cons ⟨o, L, s, k0, rfl, hO.same g0, W, Wn, rfl, rfl, rfl, nL⟩ .nil⟩, Nat.le_refl _, Nat.le_refl _⟩
  generalize upd (upd (upd H af (.dK [])) sn (.dK [])) aw (.lst [.ref o]) = Hs at L0
  have fll : s.flags.length = s.lev.length := flags_len
  generalize hn : s.lev.length = n at *
  generalize hfl : s.flags = fl at *
  refine while_up fuel (fun i σ H' => ∃ u4 u5 u6 u7 u8 u9, σ = [some (.ref o), some (.ref af), some (.ref sn), some (.ref aw), u4, u5, u6, u7, u8, u9] ∧ Lp H af sn aw n fl (iter fl st0 i) (i * n) H') ⟨_, _, _, _, _, _, rfl, by rw [Nat.zero_mul]; exact L0⟩ ?_ ?_
  rotate_left
  · intro σ H Q Q' m h
    obtain ⟨v, e1, hl, r⟩ := h
    exact ⟨v, e1, hl, fun b nb => by obtain ⟨a, c, xs, h1, h2, h3, h4, kk, h5, h6⟩ := r b nb; exact ⟨a, c, xs, h1, h2, h3, h4, kk, h5, m _ _ h6⟩⟩
  rintro i σ H1 hi ⟨u4, u5, u6, u7, u8, u9, rfl, I⟩
  have hin : i * n ≤ 690 := by
    have : i * n ≤ fuel * 3 := Nat.mul_le_mul hi h3
    exact Nat.le_trans this (by decide)
  have I0 := I
  obtain ⟨xs, hw, hp⟩ := I.w
  have hxl := pr_len hp
  refine ⟨_, rfl, szl (by decide), fun b nb => ⟨aw, b, xs, rfl, rfl, same_new nb _ _ _ hw, upd_same, _, rfl, ?_⟩⟩
  have I1 := I.same (same_new nb (.lst []))
  have hw1 := same_new nb (.lst []) _ _ hw
  generalize upd H1 b (.lst []) = H2 at I1 hw1
  rcases List.eq_nil_or_concat xs with rfl | ⟨ys, x, rfl⟩
  · refine ite_no rfl ?_
    have e0 : (iter fl st0 i).wait = [] := List.length_eq_zero_iff.mp hxl.symm
    have es : iter fl st0 fuel = iter fl st0 i := by
      obtain ⟨j, hj⟩ := Nat.exists_eq_add_of_le hi
      rw [hj]; exact iter_stop e0 j
    rw [es] at gp
    have fl3 := I1.fl
    refine ⟨_, rfl, af, _, _, rfl, .of I1.f, fnd_keys _, ?_, fun ns p hpm hps np => ?_⟩
    · rw [List.length_map]
      have hpl := (List.isPerm_iff.mp gp).length_eq
      rw [hpl, ← hfl, ← wins_code W]
      have := wins_len W
      omega
    have ens := sorted_one hpm hps (List.isPerm_iff.mp gp) gs
    rw [← hfl, ← wins_code W] at ens
    refine k p _ (I1.g.trans (same_new np _)) (Same.gone I1.g np) ?_
    rw [upd_same, ens]
    unfold natV
    rw [List.map_map]; rfl
  rw [List.concat_eq_append] at *
  refine ite_yes (by simp) ?_
  obtain ⟨ws, here, ew, hx, hys⟩ : ∃ ws here, (iter fl st0 i).wait = ws ++ [here] ∧ Stk H2 [af, sn, aw] n fl x here ∧ Paired (Stk H2 [af, sn, aw] n fl) ys ws := by
    obtain ⟨xs2, hw2, hp2⟩ := I1.w
    rw [hw1] at hw2
    cases hw2
    exact paired_snoc hp2
  have hlt : i < fuel := by
    rcases Nat.lt_or_ge i fuel with z | z
    · exact z
    · have : i = fuel := by omega
      subst this
      rw [ew] at gw
      simp at gw
  refine ⟨hlt, ?_⟩
  obtain ⟨o', L', s', k', rfl, O', W', Wn', hl', hfl', hcd, dL'⟩ := hx.ex
  refine ⟨_, rfl, .inl ⟨rfl, _, .of hw1⟩, aw, _, .ref o', rfl, rfl, hw1, by simp, ?_⟩
  rw [List.dropLast_concat]
  have wlen := I1.wl
  rw [ew, List.length_append, List.length_singleton] at wlen
  have I2 := I1.putW dj (cs := ws) hw1 hys (by omega)
  have tk2 : TK H2 (upd H2 aw (.lst ys)) := TK.put hw1 fun z => z
  have O2 := O'.but ((But.refl [af, sn, aw] H2).put (p := aw) (o := .lst ys) (by simp)) dL' tk2
  rw [show iter fl st0 (i + 1) = upto fl here { iter fl st0 i with wait := ws } fl.length from turn_snoc ew]
  rw [fll]
  generalize upd H2 aw (.lst ys) = H3 at I2 O2
  obtain ⟨l1, l2, l3, l4, l5, cv, hv, eL, D⟩ := O2
  refine ⟨_, rfl, o', _, rfl, og_came D.dict, l1, cv, rfl, .of D.came, ?_⟩
  have hcl : cv.length = n := by rw [pr_len D.cameP, W'.lc, hl']
  refine for_it (walk_enum (xs := cv)) (fun j σ H' => ∃ u5 u6 u7 u8 u9, σ = [some (.ref o), some (.ref af), some (.ref sn), some (.ref aw), some (.ref o'), u5, u6, u7, u8, u9] ∧ Lp H af sn aw n fl (upto fl here { iter fl st0 i with wait := ws } j) (i * n + j) H' ∧ But [af, sn, aw] H3 H' ∧ TK H3 H') ?_ ?_ ?_ ?_
  · exact ⟨_, _, _, _, _, rfl, I2, But.refl _ _, TK.refl _⟩
  · rintro j σ H' _ ⟨_, _, _, _, _, rfl, _, b, _⟩
    refine .of (b _ _ (fun m => ?_) D.came)
    exact dL' _ m (by rw [eL]; simp)
  · rintro j y0 σ H4 H5 hj ⟨u5, u6, u7, u8, u9, rfl, J, bJ, tJ⟩ ⟨T', x0, y, rfl, hT, rfl, hx0, hy⟩
    cases hx0
    have hjn : j < n := by omega
    have hjs : j < s'.lev.length := by omega
    obtain ⟨y', hy', oy⟩ := pr_at D.cameP (W'.acm hjs)
    rw [show cv[j]? = some y from hy] at hy'
    cases hy'
    have gT := same_new hT (.tup [.int (j : Nat), y])
    refine ⟨T', _, rfl, .of upd_same, rfl, _, _, rfl, _, _, rfl, rfl, ?_⟩
    have J1 := J.same gT
    have bJ1 : But [af, sn, aw] H3 (upd H4 T' (.tup [.int (j : Nat), y])) := bJ.trans (.of gT)
    have tJ1 : TK H3 (upd H4 T' (.tup [.int (j : Nat), y])) := tJ.trans (.of gT)
    generalize upd H4 T' (.tup [.int (j : Nat), y]) = H6 at J1 bJ1 tJ1
    refine ⟨_, rfl, rfl, _, rfl, ?_⟩
    rw [oy.is]
    have fj : fl.getD j false = (s'.cm j).isSome := by rw [← hfl', flags_getD hjs]
    cases hc : s'.cm j with
    | none =>
      rw [hc] at fj
      refine ite_yes rfl ⟨_, _, _, _, _, rfl, ?_, bJ1, tJ1⟩
      rw [upto_succ]
      unfold one
      rw [fj, if_neg (by simp)]
      exact J1.up (by omega)
    | some v =>
      rw [hc] at fj
      have hc' : s'.cm j ≠ none := by rw [hc]; simp
      refine ite_no rfl ?_
      have O6 : OwnAt H6 o' L' s' k' := OwnAt.but ⟨l1, l2, l3, l4, l5, cv, hv, eL, D⟩ bJ1 dL' tJ1
      refine ⟨_, rfl, o', L', s', k', rfl, O6, fun o2 L2 H7 g7 hL2 O7 => ?_⟩
      refine ⟨_, rfl, _, rfl, o2, L2, j, s', k', rfl, O7, hc', W', fun t H8 g8 ht O8 => ?_⟩
      have tk8 := O7.tk g8
      have gs8 : Same H6 H8 := fun q u hq => g8 _ _ (fun m => by have := hL2 q m; rw [hq] at this; cases this) (g7 _ _ hq)
      have J8 := J1.same gs8
      have bJ8 : But [af, sn, aw] H3 H8 := bJ1.trans (.of gs8)
      have tJ8 : TK H3 H8 := tJ1.trans (.of gs8)
      have W2 := W'.step hc'
      have Wn2 := Fp.Wn.step W' Wn' hc'
      have cs2 : (s'.step j).codes = here.set j (nxc (here.contains 4) (here.getD j 0)) := by rw [codes_step W' hc', hcd]
      have len2 : (s'.step j).lev.length = n := by rw [DS.len_step]; exact hl'
      have nL2 : ∀ x ∈ [af, sn, aw], x ∉ L2 := fun x hx hm => by
        have h0 := hL2 x hm
        simp only [List.mem_cons, List.not_mem_nil, or_false] at hx
        obtain ⟨kvs, es, _⟩ := J1.s.ex
        obtain ⟨xs3, ew3, _⟩ := J1.w
        rcases hx with rfl | rfl | rfl
        · rw [J1.f] at h0; cases h0
        · rw [es] at h0; cases h0
        · rw [ew3] at h0; cases h0
      have S2 : Stk H8 [af, sn, aw] n fl (.ref o2) (s'.step j).codes := ⟨o2, L2, _, _, rfl, O8, W2, Wn2, len2, by rw [flags_step]; exact hfl', rfl, nL2⟩
      have hiw := word_code (p := j) W' Wn'
      rw [hcd, ← codes_getD hjs, hcd] at hiw
      obtain ⟨m1, m2, m3, m4, m5, cv2, hv2, eL2, D8⟩ := O8
      refine ⟨_, rfl, o2, _, rfl, og_lev D8.dict, _, rfl, o2, _, rfl, og_stg D8.dict, _, rfl, o2, _, rfl, og_won D8.dict, szl (by show 3 ≤ _; decide), fun tt ntt => ?_⟩
      have gtt := same_new ntt (.tup [.ref m2, .ref m3, .ref m4])
      refine ⟨_, keyD (s'.step j).codes, 3, 100, rfl, ?_, key_sm (by rw [codes_len, len2]; exact h3), by decide, by decide, ?_⟩
      · refine .tup (.of upd_same) (.cons (.lst (.of (gtt _ _ D8.lev)) ?_) (.cons (.lst (.of (gtt _ _ D8.stg)) ?_) (.cons (.lst (.of (gtt _ _ D8.won)) ?_) .nil)))
        · have := lv_dp (K := K) (H := upd H8 tt (.tup [.ref m2, .ref m3, .ref m4])) (s'.step j).lev
          rw [lev_codes W2 Wn2] at this ⊢
          rw [List.map_map] at this ⊢
          rw [List.map_map] at this
          exact this
        · rw [stg_codes W2 Wn2]; exact ints_dp (fun c => ((stc c : Nat) : Int)) _
        · rw [won_codes W2 Wn2]; exact bls_dp wnc _
      have J9 := J8.same gtt
      have bJ9 := bJ8.trans (.of gtt)
      have tJ9 := tJ8.trans (.of gtt)
      have S9 := S2.same gtt
      have ht9 := ht.mono (.of gtt)
      have elev := gtt _ _ D8.lev
      have edict := gtt _ _ D8.dict
      generalize upd H8 tt (.tup [.ref m2, .ref m3, .ref m4]) = H9 at J9 bJ9 tJ9 S9 ht9 elev edict
      have vec2 : Vec n (s'.step j).codes := by have := vec_of (s := s'.step j); rw [len2] at this; exact this
      have fj : fl.getD j false = true := fj
      generalize hstj : upto fl here { iter fl st0 i with wait := ws } j = stj at J9
      have eone : upto fl here { iter fl st0 i with wait := ws } (j + 1) = one fl here stj j := by rw [upto_succ, hstj]
      rw [eone]
      by_cases cnd : 4 ≤ here.getD j 0 ∧ cHeld here = false
      · have hwd := hiw.mpr cnd
        have eon : one fl here stj j = { stj with found := insN stj.found (here.findIdx fun c => c == 4) } := by unfold one; rw [fj, if_pos rfl, if_pos cnd]
        rw [eon]
        have hge : 4 ≤ s'.code j := by rw [← codes_getD hjs, hcd]; exact cnd.1
        have same_codes : (s'.step j).codes = here := by
          rw [cs2]
          have e1 : nxc (here.contains 4) (here.getD j 0) = here.getD j 0 := by
            have := code_lt s' j
            rw [← codes_getD hjs, hcd] at this
            have h4 := cnd.1
            rcases (show here.getD j 0 = 4 ∨ here.getD j 0 = 5 by omega) with e | e <;> rw [e] <;> rfl
          rw [e1, ← hcd]
          refine List.ext_getElem? fun q => ?_
          rw [List.getElem?_set]
          by_cases e : j = q
          · subst e
            rw [if_pos rfl, if_pos (by rw [codes_len]; exact hjs), codes_at hjs, codes_getD hjs]
          · rw [if_neg e]
        have h2 : ∃ q, (s'.step j).lv q = some 2 := DS.has2_step W' hc' (DS.ask_two W' ((code_ge W' Wn').mp hge))
        obtain ⟨q1, q2, q3⟩ := DS.two_lev h2
        have e2c := two_code W2
        rw [same_codes] at e2c
        cases htl : s'.told j with
        | level x => rw [htl] at hwd; simp [isWord] at hwd
        | look l => rw [htl] at hwd; simp [isWord] at hwd
        | wait => rw [htl] at hwd; simp [isWord] at hwd
        | word vx =>
          rw [htl] at ht9
          refine ⟨_, rfl, t, _, _, _, rfl, rfl, .of ht9, atI_nat (j := 0) rfl, rfl, _, rfl, iteT ?_⟩
          refine ⟨_, rfl, _, rfl, o2, _, rfl, og_lev edict, .inl ⟨rfl, _, .of elev⟩, m2, _, .int 2, (s'.step j).two, lvV ((s'.step j).lv (s'.step j).two), rfl, rfl, .of elev, rfl, lv_flat (s'.step j).lev, alvV q1, by rw [eqV_lv, q2]; decide, fun m z' hm hz' => ?_, ?_⟩
          · rw [alvV (by omega)] at hz'
            cases hz'
            rw [eqV_lv]
            exact decide_eq_false (q3 m hm)
          have fl9 := J9.fl
          refine ⟨af, _, rfl, DPut.k (k := .inl ((s'.step j).two : Int)) J9.f (szt (by unfold fndK; rw [List.length_map]; omega)), ?_⟩
          rw [fnd_put]
          have tk : TK H9 (upd H9 af (.dK (fndK (insN stj.found (s'.step j).two)))) := TK.put J9.f fun z => z
          refine ⟨_, _, _, _, _, rfl, ?_, bJ9.put (by simp), tJ9.trans tk⟩
          rw [← e2c]
          exact J9.putF dj (s'.step j).two
      · have nwd : isWord (s'.told j) = false := by
          cases e : isWord (s'.told j) with
          | false => rfl
          | true => exact absurd (hiw.mp e) cnd
        obtain ⟨z, zs, hz, hne⟩ : ∃ (z : Str) (zs : List V), H9 t = some (.tup (.str z :: zs)) ∧ decide (V.str z = V.str "word") = false := by
          cases htl : s'.told j with
          | level x => rw [htl] at ht9; exact ⟨_, _, ht9, by decide +kernel⟩
          | look l => rw [htl] at ht9; obtain ⟨q, ht9, _⟩ := ht9; exact ⟨_, _, ht9, by decide +kernel⟩
          | wait => rw [htl] at ht9; exact ⟨_, _, ht9, by decide +kernel⟩
          | word vx => rw [htl] at nwd; simp [isWord] at nwd
        obtain ⟨kvs, es, kl, kv⟩ := J9.s.ex
        have ekv := kv _ vec2
        refine ⟨_, rfl, t, _, _, .str z, rfl, rfl, .of hz, atI_nat (j := 0) rfl, rfl, _, rfl, ite_no hne ?_⟩
        refine ⟨_, rfl, _, rfl, sn, _, rfl, DGet.k (k := .inr (keyT (s'.step j).codes)) es, _, rfl, ?_⟩
        rw [ekv]
        cases hb : stj.mask.testBit (num (s'.step j).codes) with
        | true =>
          have eon : one fl here stj j = stj := by unfold one; rw [fj, if_pos rfl, if_neg cnd, ← cs2, if_pos hb]
          rw [eon]
          refine ite_no rfl ⟨_, _, _, _, _, rfl, J9.up (by omega), bJ9, tJ9⟩
        | false =>
          have eon : one fl here stj j = { stj with mask := stj.mask ||| 2 ^ num (s'.step j).codes, wait := stj.wait ++ [(s'.step j).codes] } := by unfold one; rw [fj, if_pos rfl, if_neg cnd, ← cs2, if_neg (by rw [hb]; simp)]
          rw [eon]
          refine ite_yes rfl ⟨_, rfl, _, rfl, sn, _, rfl, DPut.k (k := .inr (keyT (s'.step j).codes)) es (szt (by omega)), ?_⟩
          have J10 := J9.putS dj n1 h3 vec2 es kl kv
          have tk : TK H9 (upd H9 sn (.dK (putK kvs (.inr (keyT (s'.step j).codes)) (.bl true)))) := TK.put es fun z => z
          have bJ10 := bJ9.put (p := sn) (o := .dK (putK kvs (.inr (keyT (s'.step j).codes)) (.bl true))) (by simp)
          have tJ10 := tJ9.trans tk
          have S10 := S9.but ((But.refl [af, sn, aw] H9).put (p := sn) (o := .dK (putK kvs (.inr (keyT (s'.step j).codes)) (.bl true))) (by simp)) tk
          generalize upd H9 sn (.dK (putK kvs (.inr (keyT (s'.step j).codes)) (.bl true))) = H10 at J10 bJ10 tJ10 S10
          obtain ⟨xs4, ew4, hp4⟩ := J10.w
          have wl10 := J10.wl
          have hp4' : Paired (Stk H10 [af, sn, aw] n fl) xs4 stj.wait := hp4
          have wl9 := J9.wl
          refine ⟨_, rfl, .inl ⟨rfl, _, .of ew4⟩, _, rfl, aw, _, _, rfl, rfl, ew4, szt (by rw [pr_len hp4']; omega), ?_⟩
          have tk11 : TK H10 (upd H10 aw (.lst (xs4 ++ [.ref o2]))) := TK.put ew4 fun z => z
          refine ⟨_, _, _, _, _, rfl, ?_, bJ10.put (by simp), tJ10.trans tk11⟩
          exact J10.putW dj ew4 (pr_append hp4' (.cons S10 .nil)) (by rw [List.length_append, List.length_singleton]; omega)
  · rintro σ H' ⟨u5, u6, u7, u8, u9, rfl, J, bJ, tJ⟩
    rw [hcl] at J
    refine ⟨_, _, _, _, _, _, rfl, ?_⟩
    rw [Nat.succ_mul]; exact J
end
end Fp
namespace Fp
open PySem PySem.Spec PyProof.Rows L2
def spRight : Sp := fun vs H Q _ => ∃ p, vs = [.ref p] ∧ PotAt H p 0 ∧ ∀ H', But [p] H H' → Q (.bl true) H'
theorem dats_of {C : Addr} {H : Hp} {d : Addr} {s : DS} (h : DoorAt C H d s) : ∃ dat, Dats H s dat := by
  obtain ⟨dx, a, b, c, e, f, cv, hv, sv, dv, D⟩ := h
  have ex : ∀ p, ∃ x : PyData, ∀ v, s.cm p = some v → VAt H v x ∧ VOk 3 x := fun p => by
    cases q : s.cm p with
    | none => exact ⟨.none, fun v z => by cases z⟩
    | some v =>
      obtain ⟨x, h1, h2⟩ := D.good p v q
      exact ⟨x, fun v' z => by cases z; exact ⟨h1, h2⟩⟩
  exact ⟨fun p => Classical.choose (ex p), fun p v e => Classical.choose_spec (ex p) v e⟩
theorem told_sm {H : Hp} {s : DS} {dat : Nat → PyData} (W : s.WF) (h : Dats H s dat) : Sm 5 300 (.tuple (ddup (s.wins.map dat))) := by
  refine ((Sms.all (k := 4) (n := 39) fun d hd => ?_).tup).mono (Nat.le_refl _) ?_
  · obtain ⟨p, hp, rfl⟩ := List.mem_map.mp (ddup_mem _ _ rfl d hd)
    obtain ⟨_, hc⟩ := wins_mem W hp
    cases q : s.cm p with
    | none => exact absurd q hc
    | some v => exact (h p v q).2.sm
  · have := ddup_len _ (s.wins.map dat) rfl
    have := wins_len W
    rw [List.length_map] at *
    omega
/-- the few values that are drawn from -/
structure Few (H : Hp) (lf : Addr) (fv : List V) : Prop where
  at_ : H lf = some (.lst fv)
  ok : ∀ v ∈ fv, ∃ d, VAt H v d ∧ VOk 1 d
theorem Few.but {H H' : Hp} {lf : Addr} {fv : List V} {S : List Addr} (h : Few H lf fv) (g : But S H H') (n : lf ∉ S) (tk : TK H H') : Few H' lf fv :=
  ⟨g _ _ n h.at_, fun v hv => by obtain ⟨d, a, b⟩ := h.ok v hv; exact ⟨d, a.mono tk, b⟩⟩
section
variable {P : Program} {w : World} {K : PySem.W.Frag} {mg : Str → Option Value} {base : Heap} {f : Addr} {fd : FuncData} {C : Addr}
abbrev s_law_right : Stmt := top 39
theorem sc_law_right : FnScope ["pot", "many", "lap", "door", "own", "few", "player", "coming", "value"] ["pot"] (defScope s_law_right) := ⟨rfl, rfl, rfl, by decide +kernel, rfl, by decide +kernel, by decide +kernel⟩
theorem ok_law_right (F : Fun K "_law_right" "_law_right" s_law_right f fd) (T : LTx mg) (hC : DC K C) (G_law_take : Fd P w K mg base CX0 "_law_take" 1 ["pot", "upto"] spTake) (G_law_of : Fd P w K mg base CX0 "_law_of" 2 ["pot", "some"] (spOf K)) (G_law_drawn_value : Fd P w K mg base CX0 "_law_drawn_value" 5 ["pot", "deep"] (spVal 3)) (G_law_drawn_deed : Fd P w K mg base CX0 "_law_drawn_deed" 6 ["pot", "own"] spDeed) (G_law_door : Fd P w K mg base CX0 "_law_door" 1 ["many"] spODoor) (G_law_door_come : Fd P w K mg base CX0 "_law_door_come" 1 ["door", "player", "value"] spOCome) (G_law_door_step : Fd P w K mg base CX0 "_law_door_step" 1 ["door", "player"] spOStep) (G_may_come : Fd P w K mg base CX0 "may_come" 3 ["door"] (spMayD C)) (G_law_may_come : FdG P w K mg base CX0 "_law_may_come" 3 ["door"] spOMay) (M_Door : MkC P w K mg base "Door" C 2 ["self", "many"] (spDInit C)) (M_step : Md P w K mg base CX0 C "step" 5 ["self", "player"] (spStep C)) (M_come : Md P w K mg base CX0 C "come" 8 ["self", "player", "value"] (spCome C)) : FnOkG P w K mg base CX0 9 f fd ["pot"] spRight := by
  refine fun_okG F sc_law_right (fun vs H Q E h => ?_) (fun cdv A outer s H vs Q E hr hgu h => ?_)
  · obtain ⟨p, rfl, _⟩ := h
    rfl
  obtain ⟨pt, rfl, hP, k⟩ := h
  refine ⟨_, (pss_cons (ps_set (i := 1) sc_law_right.nd rfl (Or.inl rfl) (pe_mid (pe_op op_add pe_int (pe_fd G_law_take (hr.mono (by first | decide | omega)) rfl (pa_cons (pv 0) (pa_cons pe_int pa_nil))))))
  (pss_cons (ps_par3 (i := 3) (j := 4) (l := 5) (by rfl) sc_law_right.nd rfl rfl rfl (by decide) (by decide) (by decide) rfl rfl rfl (pa_cons (pe_mk M_Door (hr.mono (by first | decide | omega)) rfl (pa_cons (pv 1) pa_nil)) (pa_cons (pe_fd G_law_door (hr.mono (by first | decide | omega)) rfl (pa_cons (pv 1) pa_nil)) (pa_cons (pe_lc (own := [("lap", 2)]) (g := (gName 2)) (tt := tYes) rfl sc_law_right.nd (pi_range1 rfl T.range (pa_cons pe_int pa_nil)) (blkOk_by (own := [("lap", 2)]) (N := ["pot", "many", "lap", "door", "own", "few", "player", "coming", "value"]) (sc := defScope s_law_right) (by decide +kernel)) (fun _ _ _ _ _ => (pg_name (i := 2) sc_law_right.nd rfl (Or.inl rfl))) (fun _ _ _ _ _ => pts_nil) (fun _ _ _ _ _ => (pe_fd G_law_drawn_value (hr.mono (by first | decide | omega)) rfl (pa_cons (pv 0) (pa_cons pe_int pa_nil))))) pa_nil))) (by rfl))
  (pss_cons (ps_if (pt_cmpR op_ne (pe_callB (call_reprA hgu (u66 hr)) rfl T.repr (by decide +kernel) (pa_cons (pe_fd G_may_come (hr.mono (by first | decide | omega)) rfl (pa_cons (pv 3) pa_nil)) pa_nil)) pe_str (nomark _)) (pss_one (ps_ret pe_bl)) pss_nil)
  (pss_cons (ps_for PassesOwn.never rfl (pi_range1 rfl T.range (pa_cons (pe_mid (pe_op op_add pe_int (pe_fd G_law_take (hr.mono (by first | decide | omega)) rfl (pa_cons (pv 0) (pa_cons pe_int pa_nil))))) pa_nil)) (pg_name (i := 2) sc_law_right.nd rfl (Or.inl rfl)) (pss_cons (ps_asg (pe_fd G_law_drawn_deed (hr.mono (by first | decide | omega)) rfl (pa_cons (pv 0) (pa_cons (pv 4) pa_nil))) (pg_tup rfl (pgs_cons (pg_name (i := 6) sc_law_right.nd rfl (Or.inl rfl)) (pgs_cons (pg_name (i := 7) sc_law_right.nd rfl (Or.inl rfl)) pgs_nil))))
  (pss_cons (ps_if (pt_cmpR op_notN (pv 7) pe_non (nomark _)) (pss_cons (ps_set (i := 8) sc_law_right.nd rfl (Or.inl rfl) (pe_fd G_law_of (hr.mono (by first | decide | omega)) rfl (pa_cons (pv 0) (pa_cons (pv 5) pa_nil))))
  (pss_cons (ps_expr (pe_fd G_law_door_come (hr.mono (by first | decide | omega)) rfl (pa_cons (pv 4) (pa_cons (pv 6) (pa_cons (pv 8) pa_nil)))))
  (pss_one (ps_expr (pe_md (pv 3) hC.cl M_come (hr.mono (by first | decide | omega)) (pa_cons (pv 6) (pa_cons (pv 8) pa_nil))))))) (pss_cons (ps_expr (pe_fd G_law_door_step (hr.mono (by first | decide | omega)) rfl (pa_cons (pv 4) (pa_cons (pv 6) pa_nil))))
  (pss_one (ps_expr (pe_md (pv 3) hC.cl M_step (hr.mono (by first | decide | omega)) (pa_cons (pv 6) pa_nil))))))
  (pss_one (ps_if (pt_cmpR op_ne (pe_callB (call_reprA hgu (u66 hr)) rfl T.repr (by decide +kernel) (pa_cons (pe_fd G_may_come (hr.mono (by first | decide | omega)) rfl (pa_cons (pv 3) pa_nil)) pa_nil)) (pe_callB (call_reprA hgu (u66 hr)) rfl T.repr (by decide +kernel) (pa_cons (pe_fdG G_law_may_come (hr.mono (by decide)) hgu rfl (pa_cons (pv 4) pa_nil)) pa_nil)) (nomark _)) (pss_one (ps_ret pe_bl)) pss_nil)))))
  (pss_one (ps_ret pe_bl)))))), ?_⟩
  refine ⟨fun y H' => ∃ N : Nat, y = .int N ∧ 1 ≤ N ∧ N ≤ 3 ∧ But [pt] H H' ∧ PotAt H' pt 1, ⟨_, rfl, pt, 3, 0, rfl, by decide, by decide, by decide, hP, fun n0 H1 hn0 g1 hP1 => ⟨_, _, rfl, rfl, 1 + n0, (by show V.int (1 + (n0 : Int)) = _; congr 1), by omega, by omega, g1, hP1⟩⟩, ?_⟩
  rintro y H1 ⟨N, rfl, hN2, hN3, g1, hP1⟩
  refine ⟨_, rfl, fun d dx hd hdx hne => ?_⟩
  refine ⟨d, dx, N, rfl, by omega, by omega, upd_same, by rw [upd_ne hne]; exact upd_same, fun H2 b2 D2 => ⟨rfl, ?_⟩⟩
  refine ⟨_, rfl, N, rfl, by omega, fun o L H3 g3 hL O3 => ?_⟩
  have S0 := Sta.make hP g1 hP1 hd hdx hne b2 D2 g3 hL O3
  have l0 : (DS.new N).lev.length = N := by simp [DS.new]
  have wn0 := Fp.Wn.new N
  have w0 : (DS.new N).wins = [] := by
    rcases (show N = 1 ∨ N = 2 ∨ N = 3 by omega) with rfl | rfl | rfl <;> rfl
  generalize DS.new N = s0 at S0 l0 wn0 w0
  refine ⟨3, rfl, by decide, by decide, fun lf nlf => ?_⟩
  obtain ⟨f1, f2, f3, f4⟩ := S0.new nlf
  have Slf : Sta C H pt d o L (upd H3 lf (.lst [])) s0 s0 1 0 := S0.same (same_new nlf _)
  refine lc_range (lo := 0) (n := 3) (fun i H' => Sta C H pt d o L H' s0 s0 (1 + i * 8) 0 ∧ ∃ fv, Few H' lf fv ∧ fv.length = i) ⟨Slf, [], ⟨upd_same, fun v hv => by cases hv⟩, rfl⟩ ?_ ?_
  · rintro i H4 hi ⟨S, fv, Fw, hfl⟩
    refine ⟨rfl, ?_⟩
    unfold tYes
    refine iteT ?_
    refine ⟨_, rfl, pt, 1, _, rfl, by decide, by decide, by show _ + 8 ≤ _; omega, S.pot, fun v vd H5 g5 hv hvd hP5 => ?_⟩
    have S1 := S.take g5 hP5
    have tk5 := S.pot.tk g5
    have Fw1 := Fw.but g5 (by simpa using f4) tk5
    have S2 := S1.put (ys := fv ++ [v]) Fw1.at_ f1 f2
    have tk6 : TK H5 (upd H5 lf (.lst (fv ++ [v]))) := TK.put Fw1.at_ fun z => z
    refine ⟨fv, Fw1.at_, szt (by omega), S2.up (by show _ + 8 ≤ _; omega) (Nat.le_refl _), fv ++ [v], ⟨upd_same, fun x hx => ?_⟩, by rw [List.length_append, hfl]; rfl⟩
    rcases List.mem_append.mp hx with z | z
    · obtain ⟨dd, a, b⟩ := Fw1.ok x z
      exact ⟨dd, a.mono tk6, b⟩
    · rw [List.mem_singleton.mp z]; exact ⟨vd, hv.mono tk6, hvd⟩
  rintro H4 ⟨S1, fv, Fw, hfl⟩
  refine ⟨_, _, _, rfl, ?_⟩
  obtain ⟨dat, hdat⟩ := dats_of S1.door
  refine ⟨_, rfl, d, s0, dat, rfl, S1.door, hdat, fun t xs H5 g5 ht hxs => ?_⟩
  rw [w0] at hxs
  have e0 : ddup (([] : List Nat).map dat) = [] := rfl
  rw [e0] at hxs
  cases hxs
  refine ⟨_, .tuple [], 5, 300, rfl, .tup (.of ht) .nil, (Sms.nil (k := 1) (n := 0)).tup.mono (by decide) (by decide), by decide, by decide, ?_⟩
  refine ⟨rfl, _, rfl, ite_no (two_str (by decide +kernel)) ?_⟩
  have S2 := S1.same g5
  have Fw2 := Fw.but (S := []) (.of g5) (by simp) (.of g5)
  refine ⟨fun y H' => ∃ M : Nat, y = .int M ∧ M ≤ 8 ∧ Sta C H pt d o L H' s0 s0 40 0 ∧ Few H' lf fv, ⟨_, rfl, pt, 7, _, rfl, by decide, by decide, by omega, S2.pot, fun n1 H6 hn1 g6 hP6 => ⟨_, _, rfl, rfl, 2 + n1, (by show V.int (2 + (n1 : Int)) = _; congr 1), by omega, (S2.take g6 hP6).up (by omega) (Nat.le_refl _), Fw2.but g6 (by simpa using f4) (S2.pot.tk g6)⟩⟩, ?_⟩
  rintro y H6 ⟨M, rfl, hM, S3, Fw3⟩
  refine ⟨_, rfl, by omega, by omega, for_range (lo := 0) (n := M) (fun i σ H' => ∃ u2 u6 u7 u8 s, σ = [some (.ref pt), some (.int N), u2, some (.ref d), some (.ref o), some (.ref lf), u6, u7, u8] ∧ s.lev.length = N ∧ s.Wn ∧ Sta C H pt d o L H' s s (40 + i * 200) i ∧ Few H' lf fv) ?_ ?_ ?_⟩
  · exact ⟨_, _, _, _, s0, rfl, l0, wn0, S3.up (by omega) (Nat.le_refl _), Fw3⟩
  · rintro i σ H7 hi ⟨u2, u6, u7, u8, s, rfl, hl, wn, S, Fw⟩
    obtain ⟨k0, O⟩ := S.own
    have W := S.door.wf
    refine ⟨_, rfl, _, rfl, pt, o, L, s, k0, _, rfl, O, W, S.ptL, S.pot, by omega, fun t p H8 g8 hP8 hp hcase => ?_⟩
    have tk8 := S.pot.tk g8
    have S4 := S.take g8 hP8
    have Fw4 := Fw.but g8 (by simpa using f4) tk8
    rcases hcase with ⟨hc, q, v, ht, hq, dv, hv, ho⟩ | ⟨hc, ht⟩
    · refine ⟨t, _, rfl, .of ht, rfl, _, _, rfl, _, _, rfl, rfl, ?_⟩
      refine ⟨_, rfl, rfl, _, rfl, iteT ?_⟩
      have hfd : lf ≠ d := f3
      have hof : lf ≠ pt := f4
      refine ⟨_, rfl, _, rfl, pt, lf, fv, _, rfl, .of Fw4.at_, f4, (by intro z; rw [z] at hfl; cases hfl), by omega, by omega, S4.pot, fun di v H9 hdv g9 hP9 => ?_⟩
      have tk9 := S4.pot.tk g9
      have S5 := S4.take g9 hP9
      have Fw5 := Fw4.but g9 (by simpa using f4) tk9
      obtain ⟨vd, hvd, hvo⟩ := Fw5.ok v (List.mem_of_getElem? hdv)
      have gd : Good H9 v := ⟨vd, hvd, hvo.up.up⟩
      obtain ⟨k5, O5⟩ := S5.own
      refine ⟨_, rfl, _, rfl, _, rfl, o, L, p, v, s, k5, rfl, O5, hp, W, fun H10 g10 O10 => ?_⟩
      have tk10 := O5.tk g10
      have S6 := S5.stepO g10 O10
      have Fw6 := Fw5.but g10 f2 tk10
      obtain ⟨dx', fs, hobj, n1', n2', n3', n4'⟩ := S6.door.ob
      refine ⟨_, rfl, d, dx', fs, rfl, hobj, n2', _, rfl, _, rfl, d, p, v, s, rfl, S6.door, hp, hc, gd.mono tk10, by have := S6.dl; omega, fun H11 g11 D11 => ?_⟩
      have S9 := S6.stepD g11 D11 (q' := i + 1) (by rw [deeds_come]; have := S6.dl; omega)
      have Fw9 := Fw6.but g11 (by simpa using f3) (S6.door.tk g11)
      have hl9 : (s.come p v).lev.length = N := hl
      have wn9 : (s.come p v).Wn := wn

      have W9 := S9.door.wf
      obtain ⟨dat, hdat⟩ := dats_of S9.door
      have smD := told_sm W9 hdat
      obtain ⟨k9, O9⟩ := S9.own
      refine ⟨_, rfl, d, _, dat, rfl, S9.door, hdat, fun t1 xs1 J1 q1 ht1 hx1 => ?_⟩
      refine ⟨_, _, 5, 300, rfl, .tup (.of ht1) (vpair_dp hx1), smD, by decide, by decide, ?_⟩
      refine ⟨_, rfl, o, L, _, k9, dat, rfl, O9.same q1, W9, wn9, by rw [hl9]; exact hN3, hdat.mono (.of q1), fun t2 xs2 J2 q2 ht2 hx2 => ?_⟩
      refine ⟨_, _, 5, 300, rfl, .tup (.of ht2) (vpair_dp hx2), smD, by decide, by decide, ?_⟩
      refine ⟨rfl, _, rfl, ite_no (two_str rfl) ?_⟩
      exact ⟨_, _, _, _, _, rfl, hl9, wn9, ((S9.same q1).same q2).up (by omega) (Nat.le_refl _), (Fw9.but (S := []) (.of q1) (by simp) (.of q1)).but (S := []) (.of q2) (by simp) (.of q2)⟩
    · refine ⟨t, _, rfl, .of ht, rfl, _, _, rfl, _, _, rfl, rfl, ?_⟩
      refine ⟨_, rfl, rfl, _, rfl, iteF ?_⟩
      obtain ⟨k5, O5⟩ := S4.own
      refine ⟨_, rfl, _, rfl, o, L, p, s, k5, rfl, O5, hc, W, fun t2 H10 g10 ht2 O10 => ?_⟩
      have tk10 := O5.tk g10
      have S6 := S4.stepO g10 O10
      have Fw6 := Fw4.but g10 f2 tk10
      obtain ⟨dx', fs, hobj, n1', n2', n3', n4'⟩ := S6.door.ob
      refine ⟨_, rfl, d, dx', fs, rfl, hobj, n1', _, rfl, d, p, s, rfl, S6.door, hc, by have := S6.dl; omega, fun t3 H11 g11 ht3 D11 => ?_⟩
      have S9 := S6.stepD g11 D11 (q' := i + 1) (by rw [deeds_step]; have := S6.dl; omega)
      have Fw9 := Fw6.but g11 (by simpa using f3) (S6.door.tk g11)
      have hl9 : (s.step p).lev.length = N := by rw [DS.len_step]; exact hl
      have wn9 := Fp.Wn.step W wn hc

      have W9 := S9.door.wf
      obtain ⟨dat, hdat⟩ := dats_of S9.door
      have smD := told_sm W9 hdat
      obtain ⟨k9, O9⟩ := S9.own
      refine ⟨_, rfl, d, _, dat, rfl, S9.door, hdat, fun t1 xs1 J1 q1 ht1 hx1 => ?_⟩
      refine ⟨_, _, 5, 300, rfl, .tup (.of ht1) (vpair_dp hx1), smD, by decide, by decide, ?_⟩
      refine ⟨_, rfl, o, L, _, k9, dat, rfl, O9.same q1, W9, wn9, by rw [hl9]; exact hN3, hdat.mono (.of q1), fun t2 xs2 J2 q2 ht2 hx2 => ?_⟩
      refine ⟨_, _, 5, 300, rfl, .tup (.of ht2) (vpair_dp hx2), smD, by decide, by decide, ?_⟩
      refine ⟨rfl, _, rfl, ite_no (two_str rfl) ?_⟩
      exact ⟨_, _, _, _, _, rfl, hl9, wn9, ((S9.same q1).same q2).up (by omega) (Nat.le_refl _), (Fw9.but (S := []) (.of q1) (by simp) (.of q1)).but (S := []) (.of q2) (by simp) (.of q2)⟩
  · rintro σ H7 ⟨u2, u6, u7, u8, s, rfl, hl, wn, S, Fw⟩
    exact k _ S.fr
end
end Fp
namespace Fp
open PySem PySem.Spec PyProof.Rows L2
def spLaw (K : PySem.W.Frag) : Sp := fun vs H Q _ => ∃ (a : Addr) (ns : List Int), vs = [.ref a] ∧ SqL K H a (ns.map V.int) ∧ ns.length ≤ 63 ∧ ∀ H', Q (.bl true) H'
section
variable {P : Program} {w : World} {K : PySem.W.Frag} {mg : Str → Option Value} {base : Heap} {f : Addr} {fd : FuncData}
abbrev s_law : Stmt := top 40
theorem sc_law : FnScope ["script", "place"] ["script"] (defScope s_law) := ⟨rfl, rfl, rfl, by decide +kernel, rfl, by decide +kernel, by decide +kernel⟩
theorem ok_law (F : Fun K "law" "law" s_law f fd) (T : LTx mg) (G_law_cells : Fd P w K mg base CX0 "_law_cells" 1 ["script", "limit"] (spCells K)) (G_law_pot : Fd P w K mg base CX0 "_law_pot" 1 ["script", "place"] (spPot K)) (G_law_right : FdG P w K mg base CX0 "_law_right" 9 ["pot"] spRight) : FnOkG P w K mg base CX0 (9 + 1) f fd ["script"] (spLaw K) := by
  refine fun_okG F sc_law (fun vs H Q E h => ?_) (fun cdv A outer s H vs Q E hr hgu h => ?_)
  · obtain ⟨a, ns, rfl, _⟩ := h
    rfl
  obtain ⟨a, ns, rfl, hS, hl, k⟩ := h
  refine ⟨_, (pss_one (ps_ret (pe_callB (cr_all rfl) rfl T.all (by decide +kernel) (pa_cons (pe_lc (own := [("place", 1)]) (g := (gName 1)) (tt := tYes) rfl sc_law.nd (pi_list (pe_fd G_law_cells (hr.mono (by first | decide | omega)) rfl (pa_cons (pv 0) (pa_cons pe_int pa_nil)))) (blkOk_by (own := [("place", 1)]) (N := ["script", "place"]) (sc := defScope s_law) (by decide +kernel)) (fun _ _ _ _ _ => (pg_name (i := 1) sc_law.nd rfl (Or.inl rfl))) (fun _ _ _ _ _ => pts_nil) (fun _ _ _ _ _ => (pe_fdG G_law_right hr hgu rfl (pa_cons (pe_fd G_law_pot (hr.mono (by decide)) rfl (pa_cons (pv 0) (pa_cons (pv 1) pa_nil))) pa_nil)))) pa_nil)))), ?_⟩
  refine ⟨_, rfl, a, ns, 1, rfl, hS, hl, by decide, fun l H1 n hn g1 hl0 hl1 => ?_⟩
  refine ⟨l, rfl, ⟨_, .of hl1⟩, fun D hD => ?_⟩
  have hlen : ((List.range n).map fun i => V.int (i : Nat)).length = n := by simp
  refine lc_list (K := K) (a := l) (xs := (List.range n).map fun i => V.int (i : Nat)) (fun i H' => Same H1 H' ∧ H' D = some (.lst ((List.replicate i true).map V.bl))) ⟨same_new hD _, upd_same⟩ (fun i H' _ z => .of (z.1 _ _ hl1)) ?_ ?_
  · rintro i x Hi hx ⟨gi, hDi⟩
    have hi : i < n := by have := get_lt hx; rw [hlen] at this; exact this
    have hx' : x = .int (i : Nat) := by
      rw [List.getElem?_map, List.getElem?_range hi] at hx
      exact (Option.some.inj hx).symm
    subst hx'
    refine ⟨rfl, _, rfl, _, rfl, a, ns, i, rfl, gi.seq (g1.seq hS), hl, by omega, fun lp H3 g3 hlp hP => ?_⟩
    have lpD : D ≠ lp := ne_of_none hDi hlp
    refine ⟨lp, rfl, hP, fun H4 g4 => ?_⟩
    refine ⟨_, g4 _ _ (by simpa using lpD) (g3 _ _ hDi), Nat.lt_of_le_of_lt (show _ ≤ 1000 by rw [List.length_map, List.length_replicate]; omega) (by decide), fun b o q => ?_, ?_⟩
    · rw [upd_ne (ne_of_none q hD)]
      have q2 := gi b o q
      exact g4 _ _ (by simpa using ne_of_none q2 hlp) (g3 _ _ q2)
    · rw [upd_same, List.replicate_succ', List.map_append]
      rfl
  · rintro Hi ⟨gi, hDi⟩
    refine ⟨D, List.replicate ((List.range n).map fun i => V.int (i : Nat)).length true, rfl, .of hDi, ?_⟩
    rw [show (List.replicate ((List.range n).map fun i => V.int (i : Nat)).length true).all id = true by simp]
    exact k Hi
end
end Fp
namespace Fp
open PySem PySem.Spec PyProof.Rows L2
theorem all_mk {l : PySem.W.OpenLaw} {w : World} {K : PySem.W.Frag} {h : Heap} {mg : Str → Option Value} {fa : Addr} (X : K.In h) (G : h.Ns mainGlobals mg) (hfa : mg "law" = some (.ref fa))
    {C : Addr}
    (aCP : PySem.W.nsIn K mainGlobals "Door" = some (some (.ref C)))
    {od_is_whole an_is_whole : Option Addr} {sl_is_whole : Array (Option Value)} {oc_is_whole kV_is_whole dc_is_whole pm_is_whole cd_is_whole ct_is_whole : Value} {f_is_whole : Addr}
    (a_is_whole : PySem.W.nsIn K mainGlobals "is_whole" = some (some (.ref f_is_whole)))
    (l_is_whole : K.lookup f_is_whole = some ⟨oc_is_whole, od_is_whole, .func (PySem.W.fnOf "is_whole" "is_whole" (defArgs s_is_whole) (defBody s_is_whole) (defScope s_is_whole) .none kV_is_whole dc_is_whole pm_is_whole an_is_whole cd_is_whole ct_is_whole), sl_is_whole⟩)
    (c_is_whole : PySem.W.codeIn K cd_is_whole "is_whole" = true)
    (k_is_whole : PySem.W.keepIn K (.ref f_is_whole) = true)
    {od_is_below an_is_below : Option Addr} {sl_is_below : Array (Option Value)} {oc_is_below kV_is_below dc_is_below pm_is_below cd_is_below ct_is_below : Value} {f_is_below : Addr}
    (a_is_below : PySem.W.nsIn K mainGlobals "is_below" = some (some (.ref f_is_below)))
    (l_is_below : K.lookup f_is_below = some ⟨oc_is_below, od_is_below, .func (PySem.W.fnOf "is_below" "is_below" (defArgs s_is_below) (defBody s_is_below) (defScope s_is_below) .none kV_is_below dc_is_below pm_is_below an_is_below cd_is_below ct_is_below), sl_is_below⟩)
    (c_is_below : PySem.W.codeIn K cd_is_below "is_below" = true)
    (k_is_below : PySem.W.keepIn K (.ref f_is_below) = true)
    {od_exchanged an_exchanged : Option Addr} {sl_exchanged : Array (Option Value)} {oc_exchanged kV_exchanged dc_exchanged pm_exchanged cd_exchanged ct_exchanged : Value} {f_exchanged : Addr}
    (a_exchanged : PySem.W.nsIn K mainGlobals "exchanged" = some (some (.ref f_exchanged)))
    (l_exchanged : K.lookup f_exchanged = some ⟨oc_exchanged, od_exchanged, .func (PySem.W.fnOf "exchanged" "exchanged" (defArgs s_exchanged) (defBody s_exchanged) (defScope s_exchanged) .none kV_exchanged dc_exchanged pm_exchanged an_exchanged cd_exchanged ct_exchanged), sl_exchanged⟩)
    (c_exchanged : PySem.W.codeIn K cd_exchanged "exchanged" = true)
    (k_exchanged : PySem.W.keepIn K (.ref f_exchanged) = true)
    {od_is_small_value an_is_small_value : Option Addr} {sl_is_small_value : Array (Option Value)} {oc_is_small_value kV_is_small_value dc_is_small_value pm_is_small_value cd_is_small_value ct_is_small_value : Value} {f_is_small_value : Addr}
    (a_is_small_value : PySem.W.nsIn K mainGlobals "is_small_value" = some (some (.ref f_is_small_value)))
    (l_is_small_value : K.lookup f_is_small_value = some ⟨oc_is_small_value, od_is_small_value, .func (PySem.W.fnOf "is_small_value" "is_small_value" (defArgs s_is_small_value) (defBody s_is_small_value) (defScope s_is_small_value) .none kV_is_small_value dc_is_small_value pm_is_small_value an_is_small_value cd_is_small_value ct_is_small_value), sl_is_small_value⟩)
    (c_is_small_value : PySem.W.codeIn K cd_is_small_value "is_small_value" = true)
    (k_is_small_value : PySem.W.keepIn K (.ref f_is_small_value) = true)
    {od_is_small_within an_is_small_within : Option Addr} {sl_is_small_within : Array (Option Value)} {oc_is_small_within kV_is_small_within dc_is_small_within pm_is_small_within cd_is_small_within ct_is_small_within : Value} {f_is_small_within : Addr}
    (a_is_small_within : PySem.W.nsIn K mainGlobals "is_small_within" = some (some (.ref f_is_small_within)))
    (l_is_small_within : K.lookup f_is_small_within = some ⟨oc_is_small_within, od_is_small_within, .func (PySem.W.fnOf "is_small_within" "is_small_within" (defArgs s_is_small_within) (defBody s_is_small_within) (defScope s_is_small_within) .none kV_is_small_within dc_is_small_within pm_is_small_within an_is_small_within cd_is_small_within ct_is_small_within), sl_is_small_within⟩)
    (c_is_small_within : PySem.W.codeIn K cd_is_small_within "is_small_within" = true)
    (k_is_small_within : PySem.W.keepIn K (.ref f_is_small_within) = true)
    {od_held_by an_held_by : Option Addr} {sl_held_by : Array (Option Value)} {oc_held_by kV_held_by dc_held_by pm_held_by cd_held_by ct_held_by : Value} {f_held_by : Addr}
    (a_held_by : PySem.W.nsIn K mainGlobals "held_by" = some (some (.ref f_held_by)))
    (l_held_by : K.lookup f_held_by = some ⟨oc_held_by, od_held_by, .func (PySem.W.fnOf "held_by" "held_by" (defArgs s_held_by) (defBody s_held_by) (defScope s_held_by) .none kV_held_by dc_held_by pm_held_by an_held_by cd_held_by ct_held_by), sl_held_by⟩)
    (c_held_by : PySem.W.codeIn K cd_held_by "held_by" = true)
    (k_held_by : PySem.W.keepIn K (.ref f_held_by) = true)
    {od_may_come an_may_come : Option Addr} {sl_may_come : Array (Option Value)} {oc_may_come kV_may_come dc_may_come pm_may_come cd_may_come ct_may_come : Value} {f_may_come : Addr}
    (a_may_come : PySem.W.nsIn K mainGlobals "may_come" = some (some (.ref f_may_come)))
    (l_may_come : K.lookup f_may_come = some ⟨oc_may_come, od_may_come, .func (PySem.W.fnOf "may_come" "may_come" (defArgs s_may_come) (defBody s_may_come) (defScope s_may_come) .none kV_may_come dc_may_come pm_may_come an_may_come cd_may_come ct_may_come), sl_may_come⟩)
    (c_may_come : PySem.W.codeIn K cd_may_come "may_come" = true)
    (k_may_come : PySem.W.keepIn K (.ref f_may_come) = true)
    {od_winners an_winners : Option Addr} {sl_winners : Array (Option Value)} {oc_winners kV_winners dc_winners pm_winners cd_winners ct_winners : Value} {f_winners : Addr}
    (a_winners : PySem.W.nsIn K mainGlobals "winners" = some (some (.ref f_winners)))
    (l_winners : K.lookup f_winners = some ⟨oc_winners, od_winners, .func (PySem.W.fnOf "winners" "winners" (defArgs s_winners) (defBody s_winners) (defScope s_winners) .none kV_winners dc_winners pm_winners an_winners cd_winners ct_winners), sl_winners⟩)
    (c_winners : PySem.W.codeIn K cd_winners "winners" = true)
    (k_winners : PySem.W.keepIn K (.ref f_winners) = true)
    {od_is_ready an_is_ready : Option Addr} {sl_is_ready : Array (Option Value)} {oc_is_ready kV_is_ready dc_is_ready pm_is_ready cd_is_ready ct_is_ready : Value} {f_is_ready : Addr}
    (a_is_ready : PySem.W.nsIn K mainGlobals "is_ready" = some (some (.ref f_is_ready)))
    (l_is_ready : K.lookup f_is_ready = some ⟨oc_is_ready, od_is_ready, .func (PySem.W.fnOf "is_ready" "is_ready" (defArgs s_is_ready) (defBody s_is_ready) (defScope s_is_ready) .none kV_is_ready dc_is_ready pm_is_ready an_is_ready cd_is_ready ct_is_ready), sl_is_ready⟩)
    (c_is_ready : PySem.W.codeIn K cd_is_ready "is_ready" = true)
    (k_is_ready : PySem.W.keepIn K (.ref f_is_ready) = true)
    {od_law_pot an_law_pot : Option Addr} {sl_law_pot : Array (Option Value)} {oc_law_pot kV_law_pot dc_law_pot pm_law_pot cd_law_pot ct_law_pot : Value} {f_law_pot : Addr}
    (a_law_pot : PySem.W.nsIn K mainGlobals "_law_pot" = some (some (.ref f_law_pot)))
    (l_law_pot : K.lookup f_law_pot = some ⟨oc_law_pot, od_law_pot, .func (PySem.W.fnOf "_law_pot" "_law_pot" (defArgs s_law_pot) (defBody s_law_pot) (defScope s_law_pot) .none kV_law_pot dc_law_pot pm_law_pot an_law_pot cd_law_pot ct_law_pot), sl_law_pot⟩)
    (c_law_pot : PySem.W.codeIn K cd_law_pot "_law_pot" = true)
    (k_law_pot : PySem.W.keepIn K (.ref f_law_pot) = true)
    {od_law_take an_law_take : Option Addr} {sl_law_take : Array (Option Value)} {oc_law_take kV_law_take dc_law_take pm_law_take cd_law_take ct_law_take : Value} {f_law_take : Addr}
    (a_law_take : PySem.W.nsIn K mainGlobals "_law_take" = some (some (.ref f_law_take)))
    (l_law_take : K.lookup f_law_take = some ⟨oc_law_take, od_law_take, .func (PySem.W.fnOf "_law_take" "_law_take" (defArgs s_law_take) (defBody s_law_take) (defScope s_law_take) .none kV_law_take dc_law_take pm_law_take an_law_take cd_law_take ct_law_take), sl_law_take⟩)
    (c_law_take : PySem.W.codeIn K cd_law_take "_law_take" = true)
    (k_law_take : PySem.W.keepIn K (.ref f_law_take) = true)
    {od_law_of an_law_of : Option Addr} {sl_law_of : Array (Option Value)} {oc_law_of kV_law_of dc_law_of pm_law_of cd_law_of ct_law_of : Value} {f_law_of : Addr}
    (a_law_of : PySem.W.nsIn K mainGlobals "_law_of" = some (some (.ref f_law_of)))
    (l_law_of : K.lookup f_law_of = some ⟨oc_law_of, od_law_of, .func (PySem.W.fnOf "_law_of" "_law_of" (defArgs s_law_of) (defBody s_law_of) (defScope s_law_of) .none kV_law_of dc_law_of pm_law_of an_law_of cd_law_of ct_law_of), sl_law_of⟩)
    (c_law_of : PySem.W.codeIn K cd_law_of "_law_of" = true)
    (k_law_of : PySem.W.keepIn K (.ref f_law_of) = true)
    {od_law_cells an_law_cells : Option Addr} {sl_law_cells : Array (Option Value)} {oc_law_cells kV_law_cells dc_law_cells pm_law_cells cd_law_cells ct_law_cells : Value} {f_law_cells : Addr}
    (a_law_cells : PySem.W.nsIn K mainGlobals "_law_cells" = some (some (.ref f_law_cells)))
    (l_law_cells : K.lookup f_law_cells = some ⟨oc_law_cells, od_law_cells, .func (PySem.W.fnOf "_law_cells" "_law_cells" (defArgs s_law_cells) (defBody s_law_cells) (defScope s_law_cells) .none kV_law_cells dc_law_cells pm_law_cells an_law_cells cd_law_cells ct_law_cells), sl_law_cells⟩)
    (c_law_cells : PySem.W.codeIn K cd_law_cells "_law_cells" = true)
    (k_law_cells : PySem.W.keepIn K (.ref f_law_cells) = true)
    {od_law_door an_law_door : Option Addr} {sl_law_door : Array (Option Value)} {oc_law_door kV_law_door dc_law_door pm_law_door cd_law_door ct_law_door : Value} {f_law_door : Addr}
    (a_law_door : PySem.W.nsIn K mainGlobals "_law_door" = some (some (.ref f_law_door)))
    (l_law_door : K.lookup f_law_door = some ⟨oc_law_door, od_law_door, .func (PySem.W.fnOf "_law_door" "_law_door" (defArgs s_law_door) (defBody s_law_door) (defScope s_law_door) .none kV_law_door dc_law_door pm_law_door an_law_door cd_law_door ct_law_door), sl_law_door⟩)
    (c_law_door : PySem.W.codeIn K cd_law_door "_law_door" = true)
    (k_law_door : PySem.W.keepIn K (.ref f_law_door) = true)
    {od_law_door_copy an_law_door_copy : Option Addr} {sl_law_door_copy : Array (Option Value)} {oc_law_door_copy kV_law_door_copy dc_law_door_copy pm_law_door_copy cd_law_door_copy ct_law_door_copy : Value} {f_law_door_copy : Addr}
    (a_law_door_copy : PySem.W.nsIn K mainGlobals "_law_door_copy" = some (some (.ref f_law_door_copy)))
    (l_law_door_copy : K.lookup f_law_door_copy = some ⟨oc_law_door_copy, od_law_door_copy, .func (PySem.W.fnOf "_law_door_copy" "_law_door_copy" (defArgs s_law_door_copy) (defBody s_law_door_copy) (defScope s_law_door_copy) .none kV_law_door_copy dc_law_door_copy pm_law_door_copy an_law_door_copy cd_law_door_copy ct_law_door_copy), sl_law_door_copy⟩)
    (c_law_door_copy : PySem.W.codeIn K cd_law_door_copy "_law_door_copy" = true)
    (k_law_door_copy : PySem.W.keepIn K (.ref f_law_door_copy) = true)
    {od_law_door_come an_law_door_come : Option Addr} {sl_law_door_come : Array (Option Value)} {oc_law_door_come kV_law_door_come dc_law_door_come pm_law_door_come cd_law_door_come ct_law_door_come : Value} {f_law_door_come : Addr}
    (a_law_door_come : PySem.W.nsIn K mainGlobals "_law_door_come" = some (some (.ref f_law_door_come)))
    (l_law_door_come : K.lookup f_law_door_come = some ⟨oc_law_door_come, od_law_door_come, .func (PySem.W.fnOf "_law_door_come" "_law_door_come" (defArgs s_law_door_come) (defBody s_law_door_come) (defScope s_law_door_come) .none kV_law_door_come dc_law_door_come pm_law_door_come an_law_door_come cd_law_door_come ct_law_door_come), sl_law_door_come⟩)
    (c_law_door_come : PySem.W.codeIn K cd_law_door_come "_law_door_come" = true)
    (k_law_door_come : PySem.W.keepIn K (.ref f_law_door_come) = true)
    {od_law_door_step an_law_door_step : Option Addr} {sl_law_door_step : Array (Option Value)} {oc_law_door_step kV_law_door_step dc_law_door_step pm_law_door_step cd_law_door_step ct_law_door_step : Value} {f_law_door_step : Addr}
    (a_law_door_step : PySem.W.nsIn K mainGlobals "_law_door_step" = some (some (.ref f_law_door_step)))
    (l_law_door_step : K.lookup f_law_door_step = some ⟨oc_law_door_step, od_law_door_step, .func (PySem.W.fnOf "_law_door_step" "_law_door_step" (defArgs s_law_door_step) (defBody s_law_door_step) (defScope s_law_door_step) .none kV_law_door_step dc_law_door_step pm_law_door_step an_law_door_step cd_law_door_step ct_law_door_step), sl_law_door_step⟩)
    (c_law_door_step : PySem.W.codeIn K cd_law_door_step "_law_door_step" = true)
    (k_law_door_step : PySem.W.keepIn K (.ref f_law_door_step) = true)
    {od_law_door_winners an_law_door_winners : Option Addr} {sl_law_door_winners : Array (Option Value)} {oc_law_door_winners kV_law_door_winners dc_law_door_winners pm_law_door_winners cd_law_door_winners ct_law_door_winners : Value} {f_law_door_winners : Addr}
    (a_law_door_winners : PySem.W.nsIn K mainGlobals "_law_door_winners" = some (some (.ref f_law_door_winners)))
    (l_law_door_winners : K.lookup f_law_door_winners = some ⟨oc_law_door_winners, od_law_door_winners, .func (PySem.W.fnOf "_law_door_winners" "_law_door_winners" (defArgs s_law_door_winners) (defBody s_law_door_winners) (defScope s_law_door_winners) .none kV_law_door_winners dc_law_door_winners pm_law_door_winners an_law_door_winners cd_law_door_winners ct_law_door_winners), sl_law_door_winners⟩)
    (c_law_door_winners : PySem.W.codeIn K cd_law_door_winners "_law_door_winners" = true)
    (k_law_door_winners : PySem.W.keepIn K (.ref f_law_door_winners) = true)
    {od_law_may_come an_law_may_come : Option Addr} {sl_law_may_come : Array (Option Value)} {oc_law_may_come kV_law_may_come dc_law_may_come pm_law_may_come cd_law_may_come ct_law_may_come : Value} {f_law_may_come : Addr}
    (a_law_may_come : PySem.W.nsIn K mainGlobals "_law_may_come" = some (some (.ref f_law_may_come)))
    (l_law_may_come : K.lookup f_law_may_come = some ⟨oc_law_may_come, od_law_may_come, .func (PySem.W.fnOf "_law_may_come" "_law_may_come" (defArgs s_law_may_come) (defBody s_law_may_come) (defScope s_law_may_come) .none kV_law_may_come dc_law_may_come pm_law_may_come an_law_may_come cd_law_may_come ct_law_may_come), sl_law_may_come⟩)
    (c_law_may_come : PySem.W.codeIn K cd_law_may_come "_law_may_come" = true)
    (k_law_may_come : PySem.W.keepIn K (.ref f_law_may_come) = true)
    {od_law_drawn_value an_law_drawn_value : Option Addr} {sl_law_drawn_value : Array (Option Value)} {oc_law_drawn_value kV_law_drawn_value dc_law_drawn_value pm_law_drawn_value cd_law_drawn_value ct_law_drawn_value : Value} {f_law_drawn_value : Addr}
    (a_law_drawn_value : PySem.W.nsIn K mainGlobals "_law_drawn_value" = some (some (.ref f_law_drawn_value)))
    (l_law_drawn_value : K.lookup f_law_drawn_value = some ⟨oc_law_drawn_value, od_law_drawn_value, .func (PySem.W.fnOf "_law_drawn_value" "_law_drawn_value" (defArgs s_law_drawn_value) (defBody s_law_drawn_value) (defScope s_law_drawn_value) .none kV_law_drawn_value dc_law_drawn_value pm_law_drawn_value an_law_drawn_value cd_law_drawn_value ct_law_drawn_value), sl_law_drawn_value⟩)
    (c_law_drawn_value : PySem.W.codeIn K cd_law_drawn_value "_law_drawn_value" = true)
    (k_law_drawn_value : PySem.W.keepIn K (.ref f_law_drawn_value) = true)
    {od_law_drawn_deed an_law_drawn_deed : Option Addr} {sl_law_drawn_deed : Array (Option Value)} {oc_law_drawn_deed kV_law_drawn_deed dc_law_drawn_deed pm_law_drawn_deed cd_law_drawn_deed ct_law_drawn_deed : Value} {f_law_drawn_deed : Addr}
    (a_law_drawn_deed : PySem.W.nsIn K mainGlobals "_law_drawn_deed" = some (some (.ref f_law_drawn_deed)))
    (l_law_drawn_deed : K.lookup f_law_drawn_deed = some ⟨oc_law_drawn_deed, od_law_drawn_deed, .func (PySem.W.fnOf "_law_drawn_deed" "_law_drawn_deed" (defArgs s_law_drawn_deed) (defBody s_law_drawn_deed) (defScope s_law_drawn_deed) .none kV_law_drawn_deed dc_law_drawn_deed pm_law_drawn_deed an_law_drawn_deed cd_law_drawn_deed ct_law_drawn_deed), sl_law_drawn_deed⟩)
    (c_law_drawn_deed : PySem.W.codeIn K cd_law_drawn_deed "_law_drawn_deed" = true)
    (k_law_drawn_deed : PySem.W.keepIn K (.ref f_law_drawn_deed) = true)
    {od_law_right an_law_right : Option Addr} {sl_law_right : Array (Option Value)} {oc_law_right kV_law_right dc_law_right pm_law_right cd_law_right ct_law_right : Value} {f_law_right : Addr}
    (a_law_right : PySem.W.nsIn K mainGlobals "_law_right" = some (some (.ref f_law_right)))
    (l_law_right : K.lookup f_law_right = some ⟨oc_law_right, od_law_right, .func (PySem.W.fnOf "_law_right" "_law_right" (defArgs s_law_right) (defBody s_law_right) (defScope s_law_right) .none kV_law_right dc_law_right pm_law_right an_law_right cd_law_right ct_law_right), sl_law_right⟩)
    (c_law_right : PySem.W.codeIn K cd_law_right "_law_right" = true)
    (k_law_right : PySem.W.keepIn K (.ref f_law_right) = true)
    {od_law an_law : Option Addr} {sl_law : Array (Option Value)} {oc_law kV_law dc_law pm_law cd_law ct_law : Value} {f_law : Addr}
    (a_law : PySem.W.nsIn K mainGlobals "law" = some (some (.ref f_law)))
    (l_law : K.lookup f_law = some ⟨oc_law, od_law, .func (PySem.W.fnOf "law" "law" (defArgs s_law) (defBody s_law) (defScope s_law) .none kV_law dc_law pm_law an_law cd_law ct_law), sl_law⟩)
    (c_law : PySem.W.codeIn K cd_law "law" = true)
    (k_law : PySem.W.keepIn K (.ref f_law) = true)
    {od_Door_init an_Door_init : Option Addr} {sl_Door_init : Array (Option Value)} {oc_Door_init kV_Door_init dc_Door_init pm_Door_init cd_Door_init ct_Door_init : Value} {f_Door_init : Addr}
    (a_Door_init : PySem.W.findIn K (.ref C) "__init__" = some (some (.ref f_Door_init)))
    (l_Door_init : K.lookup f_Door_init = some ⟨oc_Door_init, od_Door_init, .func (PySem.W.fnOf "__init__" "Door.__init__" (defArgs s_Door_init) (defBody s_Door_init) (defScope s_Door_init) .none kV_Door_init dc_Door_init pm_Door_init an_Door_init cd_Door_init ct_Door_init), sl_Door_init⟩)
    (c_Door_init : PySem.W.codeIn K cd_Door_init "Door.__init__" = true)
    (k_Door_init : PySem.W.keepIn K (.ref f_Door_init) = true)
    (i_Door_init : PySem.W.isFn K (.ref f_Door_init) = true)
    {od_Door_come an_Door_come : Option Addr} {sl_Door_come : Array (Option Value)} {oc_Door_come kV_Door_come dc_Door_come pm_Door_come cd_Door_come ct_Door_come : Value} {f_Door_come : Addr}
    (a_Door_come : PySem.W.findIn K (.ref C) "come" = some (some (.ref f_Door_come)))
    (l_Door_come : K.lookup f_Door_come = some ⟨oc_Door_come, od_Door_come, .func (PySem.W.fnOf "come" "Door.come" (defArgs s_Door_come) (defBody s_Door_come) (defScope s_Door_come) .none kV_Door_come dc_Door_come pm_Door_come an_Door_come cd_Door_come ct_Door_come), sl_Door_come⟩)
    (c_Door_come : PySem.W.codeIn K cd_Door_come "Door.come" = true)
    (k_Door_come : PySem.W.keepIn K (.ref f_Door_come) = true)
    (i_Door_come : PySem.W.isFn K (.ref f_Door_come) = true)
    {od_Door_step an_Door_step : Option Addr} {sl_Door_step : Array (Option Value)} {oc_Door_step kV_Door_step dc_Door_step pm_Door_step cd_Door_step ct_Door_step : Value} {f_Door_step : Addr}
    (a_Door_step : PySem.W.findIn K (.ref C) "step" = some (some (.ref f_Door_step)))
    (l_Door_step : K.lookup f_Door_step = some ⟨oc_Door_step, od_Door_step, .func (PySem.W.fnOf "step" "Door.step" (defArgs s_Door_step) (defBody s_Door_step) (defScope s_Door_step) .none kV_Door_step dc_Door_step pm_Door_step an_Door_step cd_Door_step ct_Door_step), sl_Door_step⟩)
    (c_Door_step : PySem.W.codeIn K cd_Door_step "Door.step" = true)
    (k_Door_step : PySem.W.keepIn K (.ref f_Door_step) = true)
    (i_Door_step : PySem.W.isFn K (.ref f_Door_step) = true)
    {od_Door_next an_Door_next : Option Addr} {sl_Door_next : Array (Option Value)} {oc_Door_next kV_Door_next dc_Door_next pm_Door_next cd_Door_next ct_Door_next : Value} {f_Door_next : Addr}
    (a_Door_next : PySem.W.findIn K (.ref C) "next" = some (some (.ref f_Door_next)))
    (l_Door_next : K.lookup f_Door_next = some ⟨oc_Door_next, od_Door_next, .func (PySem.W.fnOf "next" "Door.next" (defArgs s_Door_next) (defBody s_Door_next) (defScope s_Door_next) .none kV_Door_next dc_Door_next pm_Door_next an_Door_next cd_Door_next ct_Door_next), sl_Door_next⟩)
    (c_Door_next : PySem.W.codeIn K cd_Door_next "Door.next" = true)
    (k_Door_next : PySem.W.keepIn K (.ref f_Door_next) = true)
    (i_Door_next : PySem.W.isFn K (.ref f_Door_next) = true)
    {od_Door_check_player an_Door_check_player : Option Addr} {sl_Door_check_player : Array (Option Value)} {oc_Door_check_player kV_Door_check_player dc_Door_check_player pm_Door_check_player cd_Door_check_player ct_Door_check_player : Value} {f_Door_check_player : Addr}
    (a_Door_check_player : PySem.W.findIn K (.ref C) "check_player" = some (some (.ref f_Door_check_player)))
    (l_Door_check_player : K.lookup f_Door_check_player = some ⟨oc_Door_check_player, od_Door_check_player, .func (PySem.W.fnOf "check_player" "Door.check_player" (defArgs s_Door_check_player) (defBody s_Door_check_player) (defScope s_Door_check_player) .none kV_Door_check_player dc_Door_check_player pm_Door_check_player an_Door_check_player cd_Door_check_player ct_Door_check_player), sl_Door_check_player⟩)
    (c_Door_check_player : PySem.W.codeIn K cd_Door_check_player "Door.check_player" = true)
    (k_Door_check_player : PySem.W.keepIn K (.ref f_Door_check_player) = true)
    (i_Door_check_player : PySem.W.isFn K (.ref f_Door_check_player) = true)
    {od_Door_shows_level an_Door_shows_level : Option Addr} {sl_Door_shows_level : Array (Option Value)} {oc_Door_shows_level kV_Door_shows_level dc_Door_shows_level pm_Door_shows_level cd_Door_shows_level ct_Door_shows_level : Value} {f_Door_shows_level : Addr}
    (a_Door_shows_level : PySem.W.findIn K (.ref C) "shows_level" = some (some (.ref f_Door_shows_level)))
    (l_Door_shows_level : K.lookup f_Door_shows_level = some ⟨oc_Door_shows_level, od_Door_shows_level, .func (PySem.W.fnOf "shows_level" "Door.shows_level" (defArgs s_Door_shows_level) (defBody s_Door_shows_level) (defScope s_Door_shows_level) .none kV_Door_shows_level dc_Door_shows_level pm_Door_shows_level an_Door_shows_level cd_Door_shows_level ct_Door_shows_level), sl_Door_shows_level⟩)
    (c_Door_shows_level : PySem.W.codeIn K cd_Door_shows_level "Door.shows_level" = true)
    (k_Door_shows_level : PySem.W.keepIn K (.ref f_Door_shows_level) = true)
    (i_Door_shows_level : PySem.W.isFn K (.ref f_Door_shows_level) = true)
    {od_Door_asks an_Door_asks : Option Addr} {sl_Door_asks : Array (Option Value)} {oc_Door_asks kV_Door_asks dc_Door_asks pm_Door_asks cd_Door_asks ct_Door_asks : Value} {f_Door_asks : Addr}
    (a_Door_asks : PySem.W.findIn K (.ref C) "asks" = some (some (.ref f_Door_asks)))
    (l_Door_asks : K.lookup f_Door_asks = some ⟨oc_Door_asks, od_Door_asks, .func (PySem.W.fnOf "asks" "Door.asks" (defArgs s_Door_asks) (defBody s_Door_asks) (defScope s_Door_asks) .none kV_Door_asks dc_Door_asks pm_Door_asks an_Door_asks cd_Door_asks ct_Door_asks), sl_Door_asks⟩)
    (c_Door_asks : PySem.W.codeIn K cd_Door_asks "Door.asks" = true)
    (k_Door_asks : PySem.W.keepIn K (.ref f_Door_asks) = true)
    (i_Door_asks : PySem.W.isFn K (.ref f_Door_asks) = true)
    (pgC : PySem.W.plainGet K C Str.empty = true)
    (hdC : PySem.W.hasDictIn K C = true)
    (poC : PySem.W.plainOver K C = true)
    (saC : PySem.W.findIn K (.ref C) "__setattr__" = some (some (.builtin "object.__setattr__")))
    (mkC : PySem.W.makesIn K C = true)
    (kpC : PySem.W.keepIn K (.ref C) = true)
    (np_many : PySem.W.findIn K (.ref C) "many" = some none)
    (np_came : PySem.W.findIn K (.ref C) "came" = some none)
    (np_levels : PySem.W.findIn K (.ref C) "levels" = some none)
    (np_heard : PySem.W.findIn K (.ref C) "heard" = some none)
    (np_seen : PySem.W.findIn K (.ref C) "seen" = some none)
    (np_deeds : PySem.W.findIn K (.ref C) "deeds" = some none)
    (z_isinstance : PySem.W.nsIn K mainGlobals "isinstance" = some none)
    (z_int : PySem.W.nsIn K mainGlobals "int" = some none)
    (z_bool : PySem.W.nsIn K mainGlobals "bool" = some none)
    (z_tuple : PySem.W.nsIn K mainGlobals "tuple" = some none)
    (z_all : PySem.W.nsIn K mainGlobals "all" = some none)
    (z_len : PySem.W.nsIn K mainGlobals "len" = some none)
    (z_enumerate : PySem.W.nsIn K mainGlobals "enumerate" = some none)
    (z_sum : PySem.W.nsIn K mainGlobals "sum" = some none)
    (z_abs : PySem.W.nsIn K mainGlobals "abs" = some none)
    (z_list : PySem.W.nsIn K mainGlobals "list" = some none)
    (z_range : PySem.W.nsIn K mainGlobals "range" = some none)
    (z_max : PySem.W.nsIn K mainGlobals "max" = some none)
    (z_min : PySem.W.nsIn K mainGlobals "min" = some none)
    (z_repr : PySem.W.nsIn K mainGlobals "repr" = some none)
    {t_MOST_PLAYERS : Tok}
    (v_MOST_PLAYERS : PySem.W.nsIn K mainGlobals "MOST_PLAYERS" = some (some (.int 5 t_MOST_PLAYERS)))
    {t_MOST_DEEP : Tok}
    (v_MOST_DEEP : PySem.W.nsIn K mainGlobals "MOST_DEEP" = some (some (.int 12 t_MOST_DEEP)))
    {t_MOST_ENTRIES : Tok}
    (v_MOST_ENTRIES : PySem.W.nsIn K mainGlobals "MOST_ENTRIES" = some (some (.int 60 t_MOST_ENTRIES)))
    {t_MOST_INTEGER : Tok}
    (v_MOST_INTEGER : PySem.W.nsIn K mainGlobals "MOST_INTEGER" = some (some (.int 9999 t_MOST_INTEGER)))
    (z_sorted : PySem.W.nsIn K mainGlobals "sorted" = some none)
    (z_dict : PySem.W.nsIn K mainGlobals "dict" = some none) :
    ∃ fd : FuncData, (∀ (s : Shared) (v : Value), BindsTo s fd ⟨[v], []⟩ [("script", v)]) ∧ ∀ base : Heap, K.In base → base.Ns mainGlobals mg → FnOkG l.prog w K mg base CX0 (9 + 1) fa fd ["script"] (spLaw K) := by
  have e := hfa.symm.trans (PySem.W.mg_of X G a_law)
  cases e
  have F_is_whole := fun_mk (st := s_is_whole) l_is_whole c_is_whole k_is_whole
  have b_is_whole := F_is_whole.binds (ps := ["value"]) fun _ _ _ _ _ _ us hl => match us, hl with | [_], _ => rfl
  have F_is_below := fun_mk (st := s_is_below) l_is_below c_is_below k_is_below
  have b_is_below := F_is_below.binds (ps := ["value", "many"]) fun _ _ _ _ _ _ us hl => match us, hl with | [_, _], _ => rfl
  have F_exchanged := fun_mk (st := s_exchanged) l_exchanged c_exchanged k_exchanged
  have b_exchanged := F_exchanged.binds (ps := ["row", "at", "thing"]) fun _ _ _ _ _ _ us hl => match us, hl with | [_, _, _], _ => rfl
  have F_is_small_value := fun_mk (st := s_is_small_value) l_is_small_value c_is_small_value k_is_small_value
  have b_is_small_value := F_is_small_value.binds (ps := ["value"]) fun _ _ _ _ _ _ us hl => match us, hl with | [_], _ => rfl
  have F_is_small_within := fun_mk (st := s_is_small_within) l_is_small_within c_is_small_within k_is_small_within
  have b_is_small_within := F_is_small_within.binds (ps := ["value", "deep"]) fun _ _ _ _ _ _ us hl => match us, hl with | [_, _], _ => rfl
  have F_held_by := fun_mk (st := s_held_by) l_held_by c_held_by k_held_by
  have b_held_by := F_held_by.binds (ps := ["door"]) fun _ _ _ _ _ _ us hl => match us, hl with | [_], _ => rfl
  have F_may_come := fun_mk (st := s_may_come) l_may_come c_may_come k_may_come
  have b_may_come := F_may_come.binds (ps := ["door"]) fun _ _ _ _ _ _ us hl => match us, hl with | [_], _ => rfl
  have F_winners := fun_mk (st := s_winners) l_winners c_winners k_winners
  have b_winners := F_winners.binds (ps := ["door"]) fun _ _ _ _ _ _ us hl => match us, hl with | [_], _ => rfl
  have F_is_ready := fun_mk (st := s_is_ready) l_is_ready c_is_ready k_is_ready
  have b_is_ready := F_is_ready.binds (ps := ["door", "player"]) fun _ _ _ _ _ _ us hl => match us, hl with | [_, _], _ => rfl
  have F_law_pot := fun_mk (st := s_law_pot) l_law_pot c_law_pot k_law_pot
  have b_law_pot := F_law_pot.binds (ps := ["script", "place"]) fun _ _ _ _ _ _ us hl => match us, hl with | [_, _], _ => rfl
  have F_law_take := fun_mk (st := s_law_take) l_law_take c_law_take k_law_take
  have b_law_take := F_law_take.binds (ps := ["pot", "upto"]) fun _ _ _ _ _ _ us hl => match us, hl with | [_, _], _ => rfl
  have F_law_of := fun_mk (st := s_law_of) l_law_of c_law_of k_law_of
  have b_law_of := F_law_of.binds (ps := ["pot", "some"]) fun _ _ _ _ _ _ us hl => match us, hl with | [_, _], _ => rfl
  have F_law_cells := fun_mk (st := s_law_cells) l_law_cells c_law_cells k_law_cells
  have b_law_cells := F_law_cells.binds (ps := ["script", "limit"]) fun _ _ _ _ _ _ us hl => match us, hl with | [_, _], _ => rfl
  have F_law_door := fun_mk (st := s_law_door) l_law_door c_law_door k_law_door
  have b_law_door := F_law_door.binds (ps := ["many"]) fun _ _ _ _ _ _ us hl => match us, hl with | [_], _ => rfl
  have F_law_door_copy := fun_mk (st := s_law_door_copy) l_law_door_copy c_law_door_copy k_law_door_copy
  have b_law_door_copy := F_law_door_copy.binds (ps := ["door"]) fun _ _ _ _ _ _ us hl => match us, hl with | [_], _ => rfl
  have F_law_door_come := fun_mk (st := s_law_door_come) l_law_door_come c_law_door_come k_law_door_come
  have b_law_door_come := F_law_door_come.binds (ps := ["door", "player", "value"]) fun _ _ _ _ _ _ us hl => match us, hl with | [_, _, _], _ => rfl
  have F_law_door_step := fun_mk (st := s_law_door_step) l_law_door_step c_law_door_step k_law_door_step
  have b_law_door_step := F_law_door_step.binds (ps := ["door", "player"]) fun _ _ _ _ _ _ us hl => match us, hl with | [_, _], _ => rfl
  have F_law_door_winners := fun_mk (st := s_law_door_winners) l_law_door_winners c_law_door_winners k_law_door_winners
  have b_law_door_winners := F_law_door_winners.binds (ps := ["door"]) fun _ _ _ _ _ _ us hl => match us, hl with | [_], _ => rfl
  have F_law_may_come := fun_mk (st := s_law_may_come) l_law_may_come c_law_may_come k_law_may_come
  have b_law_may_come := F_law_may_come.binds (ps := ["door"]) fun _ _ _ _ _ _ us hl => match us, hl with | [_], _ => rfl
  have F_law_drawn_value := fun_mk (st := s_law_drawn_value) l_law_drawn_value c_law_drawn_value k_law_drawn_value
  have b_law_drawn_value := F_law_drawn_value.binds (ps := ["pot", "deep"]) fun _ _ _ _ _ _ us hl => match us, hl with | [_, _], _ => rfl
  have F_law_drawn_deed := fun_mk (st := s_law_drawn_deed) l_law_drawn_deed c_law_drawn_deed k_law_drawn_deed
  have b_law_drawn_deed := F_law_drawn_deed.binds (ps := ["pot", "own"]) fun _ _ _ _ _ _ us hl => match us, hl with | [_, _], _ => rfl
  have F_law_right := fun_mk (st := s_law_right) l_law_right c_law_right k_law_right
  have b_law_right := F_law_right.binds (ps := ["pot"]) fun _ _ _ _ _ _ us hl => match us, hl with | [_], _ => rfl
  have F_law := fun_mk (st := s_law) l_law c_law k_law
  have b_law := F_law.binds (ps := ["script"]) fun _ _ _ _ _ _ us hl => match us, hl with | [_], _ => rfl
  have F_Door_init := fun_mk (st := s_Door_init) l_Door_init c_Door_init k_Door_init
  have b_Door_init := F_Door_init.binds (ps := ["self", "many"]) fun _ _ _ _ _ _ us hl => match us, hl with | [_, _], _ => rfl
  have F_Door_come := fun_mk (st := s_Door_come) l_Door_come c_Door_come k_Door_come
  have b_Door_come := F_Door_come.binds (ps := ["self", "player", "value"]) fun _ _ _ _ _ _ us hl => match us, hl with | [_, _, _], _ => rfl
  have F_Door_step := fun_mk (st := s_Door_step) l_Door_step c_Door_step k_Door_step
  have b_Door_step := F_Door_step.binds (ps := ["self", "player"]) fun _ _ _ _ _ _ us hl => match us, hl with | [_, _], _ => rfl
  have F_Door_next := fun_mk (st := s_Door_next) l_Door_next c_Door_next k_Door_next
  have b_Door_next := F_Door_next.binds (ps := ["self", "player"]) fun _ _ _ _ _ _ us hl => match us, hl with | [_, _], _ => rfl
  have F_Door_check_player := fun_mk (st := s_Door_check_player) l_Door_check_player c_Door_check_player k_Door_check_player
  have b_Door_check_player := F_Door_check_player.binds (ps := ["self", "player"]) fun _ _ _ _ _ _ us hl => match us, hl with | [_, _], _ => rfl
  have F_Door_shows_level := fun_mk (st := s_Door_shows_level) l_Door_shows_level c_Door_shows_level k_Door_shows_level
  have b_Door_shows_level := F_Door_shows_level.binds (ps := ["self", "player"]) fun _ _ _ _ _ _ us hl => match us, hl with | [_, _], _ => rfl
  have F_Door_asks := fun_mk (st := s_Door_asks) l_Door_asks c_Door_asks k_Door_asks
  have b_Door_asks := F_Door_asks.binds (ps := ["self", "player"]) fun _ _ _ _ _ _ us hl => match us, hl with | [_, _], _ => rfl
  refine ⟨PySem.W.fnOf "law" "law" (defArgs s_law) (defBody s_law) (defScope s_law) .none kV_law dc_law pm_law an_law cd_law ct_law, fun s v => .of_eq rfl, fun base _ _ => ?_⟩
  have hC : DC K C := ⟨⟨pgC, hdC, poC, saC⟩, np_many, np_came, np_levels, np_heard, np_seen, np_deeds⟩
  have T : PTx mg := ⟨(PySem.W.mg_none_of X G z_isinstance), (PySem.W.mg_none_of X G z_int), (PySem.W.mg_none_of X G z_bool), (PySem.W.mg_none_of X G z_tuple), (PySem.W.mg_none_of X G z_all), (PySem.W.mg_none_of X G z_len), (PySem.W.mg_none_of X G z_enumerate), ⟨_, (PySem.W.mg_of X G v_MOST_PLAYERS)⟩, ⟨_, (PySem.W.mg_of X G v_MOST_DEEP)⟩, ⟨_, (PySem.W.mg_of X G v_MOST_ENTRIES)⟩, ⟨_, (PySem.W.mg_of X G v_MOST_INTEGER)⟩⟩
  have LT : LTx mg := ⟨(PySem.W.mg_none_of X G z_len), (PySem.W.mg_none_of X G z_int), (PySem.W.mg_none_of X G z_sum), (PySem.W.mg_none_of X G z_abs), (PySem.W.mg_none_of X G z_list), (PySem.W.mg_none_of X G z_tuple), (PySem.W.mg_none_of X G z_range), (PySem.W.mg_none_of X G z_max), (PySem.W.mg_none_of X G z_min), (PySem.W.mg_none_of X G z_repr), (PySem.W.mg_none_of X G z_all), (PySem.W.mg_none_of X G z_enumerate)⟩
  have G_is_whole : Fd l.prog w K mg base CX0 "is_whole" 1 ["value"] spIsWhole := ⟨_, _, (PySem.W.mg_of X G a_is_whole), k_is_whole, b_is_whole, ok_is_whole F_is_whole T⟩
  have G_is_below : Fd l.prog w K mg base CX0 "is_below" 2 ["value", "many"] spBelow := ⟨_, _, (PySem.W.mg_of X G a_is_below), k_is_below, b_is_below, ok_is_below F_is_below T G_is_whole⟩
  have G_exchanged : Fd l.prog w K mg base CX0 "exchanged" 1 ["row", "at", "thing"] (spExch K) := ⟨_, _, (PySem.W.mg_of X G a_exchanged), k_exchanged, b_exchanged, ok_exchanged F_exchanged⟩
  have G_small := all_small F_is_small_within b_is_small_within (PySem.W.mg_of X G a_is_small_within) T G_is_whole (P := l.prog) (w := w) (base := base) 5
  have G_is_small_value : Fd l.prog w K mg base CX0 "is_small_value" 7 ["value"] spSmall := ⟨_, _, (PySem.W.mg_of X G a_is_small_value), k_is_small_value, b_is_small_value, ok_small_value F_is_small_value T G_small⟩
  have M_check_player : Md l.prog w K mg base CX0 C "check_player" 3 ["self", "player"] (spCheck C) := ⟨_, _, ⟨a_Door_check_player, i_Door_check_player, k_Door_check_player⟩, b_Door_check_player, ok_Door_check_player F_Door_check_player T hC G_is_below⟩
  have M_next : Md l.prog w K mg base CX0 C "next" 4 ["self", "player"] (spNext C) := ⟨_, _, ⟨a_Door_next, i_Door_next, k_Door_next⟩, b_Door_next, ok_Door_next F_Door_next T hC M_check_player⟩
  have M_shows_level : Md l.prog w K mg base CX0 C "shows_level" 2 ["self", "player"] (spShows C) := ⟨_, _, ⟨a_Door_shows_level, i_Door_shows_level, k_Door_shows_level⟩, b_Door_shows_level, ok_Door_shows_level F_Door_shows_level hC G_exchanged⟩
  have M_asks : Md l.prog w K mg base CX0 C "asks" 2 ["self", "player"] (spAsks C) := ⟨_, _, ⟨a_Door_asks, i_Door_asks, k_Door_asks⟩, b_Door_asks, ok_Door_asks F_Door_asks hC G_exchanged⟩
  have M_step : Md l.prog w K mg base CX0 C "step" 5 ["self", "player"] (spStep C) := ⟨_, _, ⟨a_Door_step, i_Door_step, k_Door_step⟩, b_Door_step, ok_Door_step F_Door_step hC G_exchanged M_next M_shows_level M_asks⟩
  have M_come : Md l.prog w K mg base CX0 C "come" 8 ["self", "player", "value"] (spCome C) := ⟨_, _, ⟨a_Door_come, i_Door_come, k_Door_come⟩, b_Door_come, ok_Door_come F_Door_come hC G_exchanged G_is_small_value M_check_player⟩
  have M_Door : MkC l.prog w K mg base "Door" C 2 ["self", "many"] (spDInit C) := ⟨(PySem.W.mg_of X G aCP), _, _, ⟨mkC, a_Door_init, i_Door_init, kpC⟩, b_Door_init, ok_Door_init F_Door_init T hC G_is_whole⟩
  have G_held_by : Fd l.prog w K mg base CX0 "held_by" 1 ["door"] (spHeld C) := ⟨_, _, (PySem.W.mg_of X G a_held_by), k_held_by, b_held_by, ok_held_by F_held_by T hC⟩
  have MT : MTx mg := ⟨(PySem.W.mg_none_of X G z_enumerate), (PySem.W.mg_none_of X G z_min), (PySem.W.mg_none_of X G z_tuple)⟩
  have G_is_ready : Fd l.prog w K mg base CX0 "is_ready" 1 ["door", "player"] (spReady C) := ⟨_, _, (PySem.W.mg_of X G a_is_ready), k_is_ready, b_is_ready, ok_is_ready F_is_ready hC⟩
  have G_winners : Fd l.prog w K mg base CX0 "winners" 2 ["door"] (spWin2 C) := ⟨_, _, (PySem.W.mg_of X G a_winners), k_winners, b_winners, ok_winners F_winners MT hC G_held_by G_is_ready⟩
  have G_may_come : Fd l.prog w K mg base CX0 "may_come" 3 ["door"] (spMay2 C) := ⟨_, _, (PySem.W.mg_of X G a_may_come), k_may_come, b_may_come, ok_may_come F_may_come MT hC G_winners⟩
  have G_law_take : Fd l.prog w K mg base CX0 "_law_take" 1 ["pot", "upto"] spTake := ⟨_, _, (PySem.W.mg_of X G a_law_take), k_law_take, b_law_take, ok_law_take F_law_take LT⟩
  have G_law_of : Fd l.prog w K mg base CX0 "_law_of" 2 ["pot", "some"] (spOf K) := ⟨_, _, (PySem.W.mg_of X G a_law_of), k_law_of, b_law_of, ok_law_of F_law_of LT G_law_take⟩
  have G_law_cells : Fd l.prog w K mg base CX0 "_law_cells" 1 ["script", "limit"] (spCells K) := ⟨_, _, (PySem.W.mg_of X G a_law_cells), k_law_cells, b_law_cells, ok_law_cells F_law_cells LT⟩
  have G_law_pot : Fd l.prog w K mg base CX0 "_law_pot" 1 ["script", "place"] (spPot K) := ⟨_, _, (PySem.W.mg_of X G a_law_pot), k_law_pot, b_law_pot, ok_law_pot F_law_pot LT⟩
  have G_law_drawn_value := all_value F_law_drawn_value b_law_drawn_value (PySem.W.mg_of X G a_law_drawn_value) LT G_law_take G_law_of (P := l.prog) (w := w) (base := base) 3
  have G_law_door : Fd l.prog w K mg base CX0 "_law_door" 1 ["many"] spODoor := ⟨_, _, (PySem.W.mg_of X G a_law_door), k_law_door, b_law_door, ok_law_door F_law_door⟩
  have G_law_door_come : Fd l.prog w K mg base CX0 "_law_door_come" 1 ["door", "player", "value"] spOCome := ⟨_, _, (PySem.W.mg_of X G a_law_door_come), k_law_door_come, b_law_door_come, ok_law_door_come F_law_door_come⟩
  have G_law_door_step : Fd l.prog w K mg base CX0 "_law_door_step" 1 ["door", "player"] spOStep := ⟨_, _, (PySem.W.mg_of X G a_law_door_step), k_law_door_step, b_law_door_step, ok_law_door_step F_law_door_step LT⟩
  have G_law_drawn_deed : Fd l.prog w K mg base CX0 "_law_drawn_deed" 6 ["pot", "own"] spDeed := ⟨_, _, (PySem.W.mg_of X G a_law_drawn_deed), k_law_drawn_deed, b_law_drawn_deed, ok_law_drawn_deed F_law_drawn_deed LT G_law_take G_law_drawn_value⟩
  have hsorted : mg "sorted" = none := (PySem.W.mg_none_of X G z_sorted)
  have hdict : mg "dict" = none := (PySem.W.mg_none_of X G z_dict)
  have G_winnersG : Fd l.prog w K mg base CX0 "winners" 2 ["door"] (spWinG C) := ⟨_, _, (PySem.W.mg_of X G a_winners), k_winners, b_winners, ok_winnersG F_winners MT hC G_held_by G_is_ready⟩
  have G_may_comeD : Fd l.prog w K mg base CX0 "may_come" 3 ["door"] (spMayD C) := ⟨_, _, (PySem.W.mg_of X G a_may_come), k_may_come, b_may_come, ok_may_comeD F_may_come MT hC G_winnersG⟩
  have G_law_door_copy : Fd l.prog w K mg base CX0 "_law_door_copy" 1 ["door"] spOCopy := ⟨_, _, (PySem.W.mg_of X G a_law_door_copy), k_law_door_copy, b_law_door_copy, ok_law_door_copy F_law_door_copy LT hdict⟩
  have G_law_door_winners : FdG l.prog w K mg base CX0 "_law_door_winners" 2 ["door"] spOWin := ⟨_, _, (PySem.W.mg_of X G a_law_door_winners), k_law_door_winners, b_law_door_winners, ok_law_door_winners F_law_door_winners LT hsorted G_law_door_copy G_law_door_step⟩
  have G_law_may_come : FdG l.prog w K mg base CX0 "_law_may_come" 3 ["door"] spOMay := ⟨_, _, (PySem.W.mg_of X G a_law_may_come), k_law_may_come, b_law_may_come, ok_law_may_come F_law_may_come LT G_law_door_winners⟩
  have G_law_right : FdG l.prog w K mg base CX0 "_law_right" 9 ["pot"] spRight := ⟨_, _, (PySem.W.mg_of X G a_law_right), k_law_right, b_law_right, ok_law_right F_law_right LT hC G_law_take G_law_of G_law_drawn_value G_law_drawn_deed G_law_door G_law_door_come G_law_door_step G_may_comeD G_law_may_come M_Door M_step M_come⟩
  exact ok_law F_law LT G_law_cells G_law_pot G_law_right
theorem walk {l : PySem.W.OpenLaw} {q : Program} {loose : List Str} {XP : (Str → Option Value) → Heap → Prop} {YP : World → Heap → Prop} {d : DefRec} {K : Params → PySem.W.Frag} (hn : l.most = some 63) (hdf : d.params.defaults = [])
    (hY : ∀ (w : World) (h : Heap), YP w h → (K w.params).In h)
    (F : ∀ (w : World) (mg : Str → Option Value) (fa : Addr) (h : Heap), (K w.params).In h → h.Ns mainGlobals mg → mg d.name = some (.ref fa) →
      ∃ fd : FuncData, (∀ (s : Shared) (u : Value), BindsTo s fd ⟨[u], []⟩ [("script", u)]) ∧ ∀ base : Heap, (K w.params).In base → base.Ns mainGlobals mg → FnOkG l.prog w (K w.params) mg base CX0 (9 + 1) fa fd ["script"] (spLaw (K w.params))) :
    PySem.W.WalkO q loose XP YP l.row.toRowW d [] (fun f vs => PySem.call f vs) :=
  L2.walk_ofG (n := 63) (k := 9 + 1) (x := "script") (CX := fun _ => CX0) (sp := fun w => spLaw (K w.params)) hn (by decide) hdf ⟨rfl, by decide, by decide⟩ hY F (fun _ _ a ns hl _ hS => ⟨a, ns, rfl, hS, hl, fun _ => rfl⟩) fun _ _ _ _ _ z => z
end Fp
open PySem PySem.W PyProof.Rows
set_option maxRecDepth 100000 in
set_option maxHeartbeats 0 in
theorem PySem.Challenge.cw_fewplaymany_k36_whole_which_words_may_co_holds : PySem.Challenge.rw_fewplaymany_k36_whole_which_words_may_co.Holds := by
  w_on; o_law; k_head; (case hw => w_witness2)
  k_fill
  refine Fp.walk (l := PySem.Challenge.rw_fewplaymany_k36_whole_which_words_may_co) rfl rfl (fun w h Y => PySem.W.kIn_of Y) ?F
  case F =>
    intro w mg fa h KX G hmg
    refine' Fp.all_mk KX G hmg ?aCP ?a_is_whole ?l_is_whole ?c_is_whole ?k_is_whole ?a_is_below ?l_is_below ?c_is_below ?k_is_below ?a_exchanged ?l_exchanged ?c_exchanged ?k_exchanged ?a_is_small_value ?l_is_small_value ?c_is_small_value ?k_is_small_value ?a_is_small_within ?l_is_small_within ?c_is_small_within ?k_is_small_within ?a_held_by ?l_held_by ?c_held_by ?k_held_by ?a_may_come ?l_may_come ?c_may_come ?k_may_come ?a_winners ?l_winners ?c_winners ?k_winners ?a_is_ready ?l_is_ready ?c_is_ready ?k_is_ready ?a_law_pot ?l_law_pot ?c_law_pot ?k_law_pot ?a_law_take ?l_law_take ?c_law_take ?k_law_take ?a_law_of ?l_law_of ?c_law_of ?k_law_of ?a_law_cells ?l_law_cells ?c_law_cells ?k_law_cells ?a_law_door ?l_law_door ?c_law_door ?k_law_door ?a_law_door_copy ?l_law_door_copy ?c_law_door_copy ?k_law_door_copy ?a_law_door_come ?l_law_door_come ?c_law_door_come ?k_law_door_come ?a_law_door_step ?l_law_door_step ?c_law_door_step ?k_law_door_step ?a_law_door_winners ?l_law_door_winners ?c_law_door_winners ?k_law_door_winners ?a_law_may_come ?l_law_may_come ?c_law_may_come ?k_law_may_come ?a_law_drawn_value ?l_law_drawn_value ?c_law_drawn_value ?k_law_drawn_value ?a_law_drawn_deed ?l_law_drawn_deed ?c_law_drawn_deed ?k_law_drawn_deed ?a_law_right ?l_law_right ?c_law_right ?k_law_right ?a_law ?l_law ?c_law ?k_law ?a_Door_init ?l_Door_init ?c_Door_init ?k_Door_init ?i_Door_init ?a_Door_come ?l_Door_come ?c_Door_come ?k_Door_come ?i_Door_come ?a_Door_step ?l_Door_step ?c_Door_step ?k_Door_step ?i_Door_step ?a_Door_next ?l_Door_next ?c_Door_next ?k_Door_next ?i_Door_next ?a_Door_check_player ?l_Door_check_player ?c_Door_check_player ?k_Door_check_player ?i_Door_check_player ?a_Door_shows_level ?l_Door_shows_level ?c_Door_shows_level ?k_Door_shows_level ?i_Door_shows_level ?a_Door_asks ?l_Door_asks ?c_Door_asks ?k_Door_asks ?i_Door_asks ?pgC ?hdC ?poC ?saC ?mkC ?kpC ?np_many ?np_came ?np_levels ?np_heard ?np_seen ?np_deeds ?z_isinstance ?z_int ?z_bool ?z_tuple ?z_all ?z_len ?z_enumerate ?z_sum ?z_abs ?z_list ?z_range ?z_max ?z_min ?z_repr ?v_MOST_PLAYERS ?v_MOST_DEEP ?v_MOST_ENTRIES ?v_MOST_INTEGER ?z_sorted ?z_dict
    (case aCP => k_is)
    (case a_is_whole => k_is)
    (case l_is_whole => k_is)
    (case c_is_whole => k_is)
    (case k_is_whole => k_is)
    (case a_is_below => k_is)
    (case l_is_below => k_is)
    (case c_is_below => k_is)
    (case k_is_below => k_is)
    (case a_exchanged => k_is)
    (case l_exchanged => k_is)
    (case c_exchanged => k_is)
    (case k_exchanged => k_is)
    (case a_is_small_value => k_is)
    (case l_is_small_value => k_is)
    (case c_is_small_value => k_is)
    (case k_is_small_value => k_is)
    (case a_is_small_within => k_is)
    (case l_is_small_within => k_is)
    (case c_is_small_within => k_is)
    (case k_is_small_within => k_is)
    (case a_held_by => k_is)
    (case l_held_by => k_is)
    (case c_held_by => k_is)
    (case k_held_by => k_is)
    (case a_may_come => k_is)
    (case l_may_come => k_is)
    (case c_may_come => k_is)
    (case k_may_come => k_is)
    (case a_winners => k_is)
    (case l_winners => k_is)
    (case c_winners => k_is)
    (case k_winners => k_is)
    (case a_is_ready => k_is)
    (case l_is_ready => k_is)
    (case c_is_ready => k_is)
    (case k_is_ready => k_is)
    (case a_law_pot => k_is)
    (case l_law_pot => k_is)
    (case c_law_pot => k_is)
    (case k_law_pot => k_is)
    (case a_law_take => k_is)
    (case l_law_take => k_is)
    (case c_law_take => k_is)
    (case k_law_take => k_is)
    (case a_law_of => k_is)
    (case l_law_of => k_is)
    (case c_law_of => k_is)
    (case k_law_of => k_is)
    (case a_law_cells => k_is)
    (case l_law_cells => k_is)
    (case c_law_cells => k_is)
    (case k_law_cells => k_is)
    (case a_law_door => k_is)
    (case l_law_door => k_is)
    (case c_law_door => k_is)
    (case k_law_door => k_is)
    (case a_law_door_copy => k_is)
    (case l_law_door_copy => k_is)
    (case c_law_door_copy => k_is)
    (case k_law_door_copy => k_is)
    (case a_law_door_come => k_is)
    (case l_law_door_come => k_is)
    (case c_law_door_come => k_is)
    (case k_law_door_come => k_is)
    (case a_law_door_step => k_is)
    (case l_law_door_step => k_is)
    (case c_law_door_step => k_is)
    (case k_law_door_step => k_is)
    (case a_law_door_winners => k_is)
    (case l_law_door_winners => k_is)
    (case c_law_door_winners => k_is)
    (case k_law_door_winners => k_is)
    (case a_law_may_come => k_is)
    (case l_law_may_come => k_is)
    (case c_law_may_come => k_is)
    (case k_law_may_come => k_is)
    (case a_law_drawn_value => k_is)
    (case l_law_drawn_value => k_is)
    (case c_law_drawn_value => k_is)
    (case k_law_drawn_value => k_is)
    (case a_law_drawn_deed => k_is)
    (case l_law_drawn_deed => k_is)
    (case c_law_drawn_deed => k_is)
    (case k_law_drawn_deed => k_is)
    (case a_law_right => k_is)
    (case l_law_right => k_is)
    (case c_law_right => k_is)
    (case k_law_right => k_is)
    (case a_law => k_is)
    (case l_law => k_is)
    (case c_law => k_is)
    (case k_law => k_is)
    (case a_Door_init => k_is)
    (case l_Door_init => k_is)
    (case c_Door_init => k_is)
    (case k_Door_init => k_is)
    (case i_Door_init => k_is)
    (case a_Door_come => k_is)
    (case l_Door_come => k_is)
    (case c_Door_come => k_is)
    (case k_Door_come => k_is)
    (case i_Door_come => k_is)
    (case a_Door_step => k_is)
    (case l_Door_step => k_is)
    (case c_Door_step => k_is)
    (case k_Door_step => k_is)
    (case i_Door_step => k_is)
    (case a_Door_next => k_is)
    (case l_Door_next => k_is)
    (case c_Door_next => k_is)
    (case k_Door_next => k_is)
    (case i_Door_next => k_is)
    (case a_Door_check_player => k_is)
    (case l_Door_check_player => k_is)
    (case c_Door_check_player => k_is)
    (case k_Door_check_player => k_is)
    (case i_Door_check_player => k_is)
    (case a_Door_shows_level => k_is)
    (case l_Door_shows_level => k_is)
    (case c_Door_shows_level => k_is)
    (case k_Door_shows_level => k_is)
    (case i_Door_shows_level => k_is)
    (case a_Door_asks => k_is)
    (case l_Door_asks => k_is)
    (case c_Door_asks => k_is)
    (case k_Door_asks => k_is)
    (case i_Door_asks => k_is)
    (case pgC => k_is)
    (case hdC => k_is)
    (case poC => k_is)
    (case saC => k_is)
    (case mkC => k_is)
    (case kpC => k_is)
    (case np_many => k_is)
    (case np_came => k_is)
    (case np_levels => k_is)
    (case np_heard => k_is)
    (case np_seen => k_is)
    (case np_deeds => k_is)
    (case z_isinstance => k_is)
    (case z_int => k_is)
    (case z_bool => k_is)
    (case z_tuple => k_is)
    (case z_all => k_is)
    (case z_len => k_is)
    (case z_enumerate => k_is)
    (case z_sum => k_is)
    (case z_abs => k_is)
    (case z_list => k_is)
    (case z_range => k_is)
    (case z_max => k_is)
    (case z_min => k_is)
    (case z_repr => k_is)
    (case v_MOST_PLAYERS => k_is)
    (case v_MOST_DEEP => k_is)
    (case v_MOST_ENTRIES => k_is)
    (case v_MOST_INTEGER => k_is)
    (case z_sorted => k_is)
    (case z_dict => k_is)
