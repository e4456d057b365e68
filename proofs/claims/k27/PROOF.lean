import PyProof.Rows.All
import Wide.All
import OpenK.AllK
import Wide.FinOn
import HandS.ForMost
import HandS.ForExc
import HandS.Walk
import HandS.Conv
import HandS.Star
import HandS.CallLocal
import HandS.Codes
import HandS.More
import HandS.OwnEq
import HandS.Wide
import HandS.Flow
import KE.GoesEnum
import PyProof.ListStr
import PyProof.StrBlock2
import KE.IntTextLaws
import PyProof.InstNe
import HandS.MakeKwOnly
import HandS.IsInst
import HandS.Ends
import PyProof.ReprRoads
import KE.GoesMore
import HandS.TupMul
import HandS.TupAny
import HandS.Strs
import HandS.Deep
import HandS.Iter
import KE.KRevSl
import PySem.Challenge.RW_fewplaymany_k27_whole_views_of_weavings
import HandS.Zip
import HandS.Defaults
set_option Elab.async false
set_option linter.all false
set_option maxRecDepth 100000
set_option maxHeartbeats 4000000
namespace Fp
open PySem PySem.Spec PyProof.Rows L2
/-! ### heaps -/
/-- all that is tracked stays, but what stands at S -/
def But (S : List Addr) (H H' : Hp) : Prop := ∀ b o, b ∉ S → H b = some o → H' b = some o
theorem But.refl (S : List Addr) (H : Hp) : But S H H := fun _ _ _ h => h
theorem But.trans {S : List Addr} {H H1 H2 : Hp} (a : But S H H1) (b : But S H1 H2) : But S H H2 := fun c o n h => b c o n (a c o n h)
theorem But.of {S : List Addr} {H H' : Hp} (h : Same H H') : But S H H' := fun c o _ q => h c o q
theorem But.new {S : List Addr} {H H1 : Hp} {p : Addr} {o : HO} (a : But S H H1) (n : H1 p = none) : But S H (upd H1 p o) := fun c u k q => by
  have z := a c u k q
  rw [upd_ne (ne_of_none z n)]
  exact z
theorem But.put {S : List Addr} {H H1 : Hp} {p : Addr} {o : HO} (a : But S H H1) (n : p ∈ S) : But S H (upd H1 p o) := fun c u k q => by
  have ne : c ≠ p := fun z => k (z ▸ n)
  rw [upd_ne ne]
  exact a c u k q
theorem But.wide {S T : List Addr} {H H' : Hp} (a : But S H H') (h : ∀ x ∈ S, x ∈ T) : But T H H' := fun c o n q => a c o (fun z => n (h c z)) q
theorem But.at {S : List Addr} {H H' : Hp} {a : Addr} {o : HO} (b : But S H H') (h : H a = some o) (n : a ∉ S) : H' a = some o := b a o n h
theorem But.seq {S : List Addr} {H H' : Hp} {K : PySem.W.Frag} {a : Addr} {xs : List V} (b : But S H H') (h : SqL K H a xs) (n : a ∉ S) : SqL K H' a xs := by
  rcases h with (h | ⟨o, h⟩) | h
  · exact .inl (.inl (b _ _ n h))
  · exact .inl (.inr ⟨o, b _ _ n h⟩)
  · exact .inr h
theorem But.seqT {S : List Addr} {H H' : Hp} {K : PySem.W.Frag} {a : Addr} {xs : List V} (b : But S H H') (h : SqT K H a xs) (n : a ∉ S) : SqT K H' a xs := by
  rcases h with (h | ⟨o, h⟩) | h
  · exact .inl (.inl (b _ _ n h))
  · exact .inl (.inr ⟨o, b _ _ n h⟩)
  · exact .inr h
theorem same_new {H : Hp} {p : Addr} (h : H p = none) (o : HO) : Same H (upd H p o) := fun b u q => by rw [upd_ne (ne_of_none q h)]; exact q
/-! ### a def of the module with its promise -/
structure Fd (P : Program) (w : World) (K : PySem.W.Frag) (mg : Str → Option Value) (base : Heap) (CX : CXT) (x : Str) (k : Nat) (ps : List Str) (sp : Sp) : Prop where
  ex : ∃ (f : Addr) (fd : FuncData), mg x = some (.ref f) ∧ PySem.W.keepIn K (.ref f) = true ∧ Binds K fd ps [] ∧ FnOk P w K mg base CX k f fd ps sp
section
variable {X : Cx} {CX : CXT} {x : Str} {k : Nat} {ps : List Str} {sp : Sp} {e : Expr} {es : List Expr} {t : TA} {p pos : Pos}
theorem pe_fd (G : Fd X.prog X.w X.K X.mg X.base CX0 x k ps sp) (hr : Room k X.A) (hg : Gl X x) (ha : PA X (e :: es) t) (hdb : (x == ("__debug__" : Str)) = false := by decide)
    (he : starEach (e :: es) X.env = (false, eval e X.env) :: starEach es X.env := by rfl) (hpl : (backTo pos (starEach es X.env)).any (·.1) = false := by rfl) :
    PE X (.Call (.Name x p) (e :: es) [] pos) (tCall sp [] E0 t) := by
  obtain ⟨f, fd, h1, h2, h3, h4⟩ := G.ex
  exact pe_call h4 hr hg h1 h2 h3 .nil pass0 ha hdb he hpl
end
/-! ### powers of greater numbers -/
theorem op_powB {X : Cx} : OpR X (binaryOp .Pow) (rI (fun i j => 0 ≤ j ∧ (Builtin.Int.intBits i : Int) * j ≤ 2 ^ 27) fun i j => .int (i ^ j.toNat)) :=
  opI fun _ _ _ _ _ _ _ hc q => PyProof.Rows.pow_int hc.1 hc.2 q
theorem bits_ok {a : Int} (k : Nat) {j : Int} (h : a.natAbs < 2 ^ k) (hj : 0 ≤ j) (hk : (k : Int) * j ≤ 2 ^ 27) : (Builtin.Int.intBits a : Int) * j ≤ 2 ^ 27 := by
  have h1 : (Builtin.Int.intBits a : Int) ≤ (k : Int) := by
    have := PyProof.Rows.intBits_le h
    omega
  exact Int.le_trans (Int.mul_le_mul_of_nonneg_right h1 hj) hk
/-! ### a word between a part and what follows it -/
def tMid (t : TE) : TE := fun σ H Q => ∃ Mid : V → Hp → Prop, t σ H Mid ∧ ∀ v H', Mid v H' → Q v H'
theorem pe_mid {X : Cx} {e : Expr} {t : TE} (h : PE X e t) : PE X e (tMid t) := by
  refine ⟨fun pins s σ H Q I z => ?_⟩
  obtain ⟨Mid, hm, hu⟩ := z
  exact thn (h.run pins s σ H Mid I hm) fun v s1 ⟨x, H1, I1, r1, q1⟩ => ⟨x, H1, I1, r1, hu x H1 q1⟩
def tMidT (t : TT) : TT := fun σ H Q => ∃ Mid : Bool → Hp → Prop, t σ H Mid ∧ ∀ v H', Mid v H' → Q v H'
theorem pt_mid {X : Cx} {e : Expr} {t : TT} (h : PT X e t) : PT X e (tMidT t) := by
  refine ⟨fun pins s σ H Q I z => ?_⟩
  obtain ⟨Mid, hm, hu⟩ := z
  exact thn (h.run pins s σ H Mid I hm) fun v s1 ⟨H1, I1, q1⟩ => ⟨H1, I1, hu v H1 q1⟩
theorem erase_perm {α : Type} : ∀ (l : List α) (i : Nat) (h : i < l.length), (l[i] :: l.eraseIdx i).Perm l
  | a :: l, 0, _ => List.Perm.refl _
  | a :: l, i + 1, h => by
    have h' : i < l.length := Nat.lt_of_succ_lt_succ h
    have ih := erase_perm l i h'
    show (l[i] :: a :: l.eraseIdx i).Perm (a :: l)
    exact (List.Perm.swap _ _ _).trans (List.Perm.cons a ih)
theorem b01 (k : Bool) : -(2 ^ 64) < (if k = true then (1 : Int) else 0) ∧ (if k = true then (1 : Int) else 0) < 2 ^ 64 := by cases k <;> decide
/-! ### draws -/
def PotAt (H : Hp) (p : Addr) (n : Nat) : Prop := ∃ a b c : Int, H p = some (.lst [.int a, .int b, .int c]) ∧ 0 ≤ b ∧ b < 2305843009213693951 ∧ 0 ≤ c ∧ c ≤ n
theorem PotAt.mono {H : Hp} {p : Addr} {n m : Nat} (h : PotAt H p n) (l : n ≤ m) : PotAt H p m := by
  obtain ⟨a, b, c, h1, h2, h3, h4, h5⟩ := h
  exact ⟨a, b, c, h1, h2, h3, h4, by omega⟩
theorem PotAt.there {H : Hp} {p : Addr} {n : Nat} (h : PotAt H p n) : ∃ xs, H p = some (.lst xs) := by
  obtain ⟨a, b, c, h1, _⟩ := h
  exact ⟨_, h1⟩
def spTake : Sp := fun vs H Q _ => ∃ (p : Addr) (u : Int) (n : Nat), vs = [.ref p, .int u] ∧ 0 < u ∧ u < 1000000 ∧ n < 1000000 ∧ PotAt H p n ∧
  ∀ (d : Nat) (H' : Hp), (d : Int) < u → But [p] H H' → PotAt H' p (n + 1) → Q (.int d) H'
def spOf (K : PySem.W.Frag) : Sp := fun vs H Q _ => ∃ (p q : Addr) (xs : List V) (n : Nat), vs = [.ref p, .ref q] ∧ SqL K H q xs ∧ q ≠ p ∧ xs ≠ [] ∧ xs.length < 1000000 ∧ n < 1000000 ∧ PotAt H p n ∧
  ∀ (d : Nat) (v : V) (H' : Hp), xs[d]? = some v → But [p] H H' → PotAt H' p (n + 1) → Q v H'
/-- many of a pool, in some sequence -/
def spSome (K : PySem.W.Frag) : Sp := fun vs H Q _ => ∃ (p q : Addr) (xs : List V) (m n : Nat), vs = [.ref p, .ref q, .int m] ∧ (SqL K H q xs ∨ SqT K H q xs) ∧ m ≤ xs.length ∧ xs.length < 1000 ∧ n + m < 1000000 ∧ PotAt H p n ∧
  ∀ (l : Addr) (ys zs : List V) (H' : Hp), ys.length = m → (ys ++ zs).Perm xs → H l = none → H' l = some (.lst ys) → But [p] H H' → PotAt H' p (n + m) → Q (.ref l) H'
/-- the pot of a cell -/
def spPot (K : PySem.W.Frag) : Sp := fun vs H Q _ => ∃ (a : Addr) (ns : List Int) (k : Nat), vs = [.ref a, .int k] ∧ SqL K H a (ns.map V.int) ∧ ns.length ≤ 63 ∧ k < 1000 ∧ ∀ (l : Addr) (H' : Hp), Same H H' → H l = none → PotAt H' l 0 → Q (.ref l) H'
/-- the cells that are looked at -/
def spCells (K : PySem.W.Frag) : Sp := fun vs H Q _ => ∃ (a : Addr) (ns : List Int) (m : Nat), vs = [.ref a, .int m] ∧ SqL K H a (ns.map V.int) ∧ ns.length ≤ 63 ∧ m < 1000 ∧
  ∀ (l : Addr) (H' : Hp) (k : Nat), k < 1000 → Same H H' → H l = none → H' l = some (.lst ((List.range k).map fun i => V.int (i : Nat))) → Q (.ref l) H'
theorem modNat (a : Int) {u : Int} (h : 0 < u) : ∃ d : Nat, a % u = (d : Int) ∧ (d : Int) < u :=
  ⟨(a % u).toNat, by have := Int.emod_nonneg a (show u ≠ 0 by omega); omega, by have := Int.emod_nonneg a (show u ≠ 0 by omega); have := Int.emod_lt_of_pos a h; omega⟩
theorem sq_le (m : Int) {c : Int} (h : 0 ≤ c) (h1 : c ≤ 1000001) (hm : 0 ≤ m := by decide) (hm1 : m ≤ 200000 := by decide) : 0 ≤ m * c * c ∧ m * c * c ≤ 200000 * 1000001 * 1000001 := by
  have e1 : m * c ≤ 200000 * 1000001 := Int.mul_le_mul hm1 h1 h (by decide)
  have e0 : 0 ≤ m * c := Int.mul_nonneg hm h
  exact ⟨Int.mul_nonneg e0 h, Int.mul_le_mul e1 h1 h (by decide)⟩
end Fp
namespace Fp
open PySem PySem.Spec PyProof.Rows L2
/-! ### constants of the module -/
section
variable {X : Cx} {x : Str} {pos : Pos}
theorem pe_cS {z : Str} (h : ∃ t, X.mg x = some (.str z t)) (hg : Gl X x := by rfl) (hd : (x == ("__debug__" : Str)) = false := by decide) : PE X (.Name x pos) (tC (.str z)) := by
  obtain ⟨t, h⟩ := h
  exact pe_glob hg h ⟨_, rfl⟩ hd
theorem pe_cI {i : Int} (h : ∃ t, X.mg x = some (.int i t)) (hg : Gl X x := by rfl) (hd : (x == ("__debug__" : Str)) = false := by decide) : PE X (.Name x pos) (tC (.int i)) := by
  obtain ⟨t, h⟩ := h
  exact pe_glob hg h ⟨_, rfl⟩ hd
/-- a tuple of the module -/
def KTup (K : PySem.W.Frag) (a : Addr) (xs : List V) : Prop := ∀ H, SqT K H a xs
def tKT (K : PySem.W.Frag) (xs : List V) : TE := fun _ H Q => ∀ a, KTup K a xs → Q (.ref a) H
theorem pe_cT {xs : List V} (h : ∃ a, X.mg x = some (.ref a) ∧ KTup X.K a xs) (hg : Gl X x := by rfl) (hd : (x == ("__debug__" : Str)) = false := by decide) : PE X (.Name x pos) (tKT X.K xs) := by
  obtain ⟨a, h1, h2⟩ := h
  exact ⟨fun pins s σ H Q I q => (pe_glob (v := .ref a) hg h1 rfl hd).run pins s σ H Q I (q a h2)⟩
/-- an object of the module -/
def tKR (φ : Addr → Prop) : TE := fun _ H Q => ∀ a, φ a → Q (.ref a) H
theorem pe_cR {φ : Addr → Prop} (h : ∃ a, X.mg x = some (.ref a) ∧ φ a) (hg : Gl X x := by rfl) (hd : (x == ("__debug__" : Str)) = false := by decide) : PE X (.Name x pos) (tKR φ) := by
  obtain ⟨a, h1, h2⟩ := h
  exact ⟨fun pins s σ H Q I q => (pe_glob (v := .ref a) hg h1 rfl hd).run pins s σ H Q I (q a h2)⟩
/-- a dict of the module with text keys, at d -/
structure KD (K : PySem.W.Frag) (w : World) (d : Addr) (tab : Str → Option V) : Prop where
  ex : ∃ es n, KDict K w d es n
  get : ∀ z, ∃ r, PySem.W.nsIn K d z = some r ∧ RelO (tab z) r
theorem RelO.some_iff {o : Option V} {r : Option Value} (h : RelO o r) : o.isSome = r.isSome := by
  cases o <;> cases r <;> first | rfl | exact h.elim
variable {e : Expr} {te : TE} {apos cpos p : Pos} {tab : Str → Option V} {d : Addr}
/-- key in NAME -/
theorem pe_kin (D : ∃ d, X.mg x = some (.ref d) ∧ KD X.K X.w d tab) (he : PE X e te) (hg : Gl X x := by rfl) (hb : behindInMarks .In (.Name x p) = false := by rfl) (hd : (x == ("__debug__" : Str)) = false := by decide) : PE X (.Compare e [.In] [.Name x p] pos) (fun σ H Q => te σ H fun y H1 => ∃ z, y = .str z ∧ Q (.bl (tab z).isSome) H1) := by
  obtain ⟨d, hm, ⟨es, n, D⟩, get⟩ := D
  refine ⟨fun pins s σ H Q I h => ?_⟩
  refine (pe_cmpR (op_in_kd D) he (pe_glob (v := .ref d) hg hm rfl hd) hb).run pins s σ H Q I ?_
  have h' : (fun σ H Q => te σ H fun y H1 => ∃ z, y = .str z ∧ Q (.bl (tab z).isSome) H1) σ H Q := h
  exact (fun (k : te σ H _) => k) (by
    refine (?_ : te σ H _)
    have e2 : (fun (y : V) (H1 : Hp) => ∃ z : Str, y = V.str z ∧ Q (V.bl (tab z).isSome) H1) = fun y H1 => tC (.ref d) σ H1 fun y' H2 => ∃ (z : Str) (r : Option Value), y = .str z ∧ y' = .ref d ∧ PySem.W.nsIn X.K d z = some r ∧ Q (.bl r.isSome) H2 := by
      funext y H1
      apply propext
      constructor
      · rintro ⟨z, rfl, q⟩
        obtain ⟨r, g1, g2⟩ := get z
        refine ⟨z, r, rfl, rfl, g1, ?_⟩
        rw [← RelO.some_iff g2]
        exact q
      · rintro ⟨z, r, rfl, _, g1, q⟩
        obtain ⟨r', g1', g2⟩ := get z
        rw [g1] at g1'
        cases g1'
        refine ⟨z, rfl, ?_⟩
        rw [RelO.some_iff g2]
        exact q
    rw [← e2]
    exact h')
/-- NAME.get(key) -/
theorem pe_kget (D : ∃ d, X.mg x = some (.ref d) ∧ KD X.K X.w d tab) (he : PE X e te) (hg : Gl X x := by rfl) (m : M1 X (.Name x p) "get" apos e cpos := by exact ⟨rfl, rfl, rfl, rfl⟩) (hd : (x == ("__debug__" : Str)) = false := by decide) :
    PE X (.Call (.Attribute (.Name x p) "get" apos) [e] [] cpos) (fun σ H Q => te σ H fun y H1 => ∃ z, y = .str z ∧ Q ((tab z).getD .non) H1) := by
  obtain ⟨d, hm, ⟨es, n, D⟩, get⟩ := D
  refine ⟨fun pins s σ H Q I h => ?_⟩
  refine wpAny_Call_method m.base m.few m.line PySem.F.plainAttrs_dict PySem.F.slot_dict_get PySem.F.type_dict_get (thn ((pe_glob (v := .ref d) hg hm rfl hd).run pins s σ H (fun y H1 => y = .ref d ∧ te σ H1 fun y H1 => ∃ z, y = .str z ∧ Q ((tab z).getD .non) H1) I ⟨rfl, h⟩) fun u s1 hh => ?_)
  obtain ⟨y, H1, I1, ry, ey, q1⟩ := hh
  subst ey
  obtain rfl : u = Value.ref d := ry
  have hmp := PySem.W.mapOf_K (prog := X.prog) (w := X.w) I1.kIn D.at_ D.lit
  refine ⟨hmp.typeIs, hmp.noDict, ?_⟩
  rw [m.trees]
  refine Calls.callWith_builtin rfl (Calls.evalArgs_plain (Calls.spliced_cons (thn (he.run pins s1 σ H1 _ I1 q1) fun iv s2 hh2 => Calls.spliced_nil ?_)))
  obtain ⟨y2, H2, I2, ry2, z, ez, q2⟩ := hh2
  subst ez
  obtain ⟨t, rfl⟩ := ry2
  have hmp2 := PySem.W.mapOf_K (prog := X.prog) (w := X.w) I2.kIn D.at_ D.lit
  obtain ⟨r, g1, g2⟩ := get z
  refine call_meetsIn PySem.F.slot_dict_get hmp2.typeIs PySem.F.entry_dict_get (PySem.F.args_dict_get_2 _ _) (meets_dict_get (strKind X.prog X.w) d (PySem.strKind_is X.prog X.w z t) D.low) ⟨_, hmp2, ?_⟩
  show EP X pins σ Q _ _
  rw [PySem.W.find_K D.at_ g1]
  exact ⟨_, H2, I2.tok _, g2.getD (d := .non) rfl, q2⟩
end
/-! ### for i, x in enumerate(list, start) -/
def ItE (K : PySem.W.Frag) (a : Addr) (lo : Int) : It :=
  ⟨fun i H => ∃ (ys : List V) (y : V), SqL K H a ys ∧ ys[i]? = some y,
   fun i H v H' => ∃ T y, v = .ref T ∧ H T = none ∧ H' = upd H T (.tup [.int (lo + (i : Nat)), y]) ∧ ∀ ys, SqL K H a ys → ys[i]? = some y,
   fun i H => ∃ ys : List V, SqL K H a ys ∧ ys.length ≤ i⟩
theorem turn_enumS {P : Program} {w : World} {K : PySem.W.Frag} {elts : List Expr} {kk : Nat} {tpos : Pos} (a e it : Addr) (lo : Int) :
    Turn P w K (.Tuple elts kk tpos) (ItE K a lo) [e, it] e (fun i h => (∃ was, IsEnum h e it (lo + ((i : Nat) : Int)) was) ∧ h.IsListIter it a i ∧ e ≠ it) where
  mem := List.mem_cons_self
  obj := fun i h st b hb => by
    obtain ⟨⟨was, he⟩, ⟨o, ho, hc, hd⟩, _⟩ := st
    rcases List.mem_cons.mp hb with z | z
    · subst z
      exact ⟨_, he, fun v q => nomatch q⟩
    · have z' := List.mem_singleton.mp z
      subst z'
      exact ⟨o, ho, fun v q => by rw [hd] at q; cases q⟩
  keep := fun i h h' st k => ⟨st.1.imp fun was he => k e (by simp) _ he, st.2.1.at fun o q => k it (by simp) o q, st.2.2⟩
  item := by
    intro X hP hw hK hc i pins s σ H E I hf st hg
    subst hP hw hK
    obtain ⟨⟨was, he⟩, hit, hne⟩ := st
    obtain ⟨ys, y, hq, hx⟩ := hg
    obtain ⟨its, rv, lp, hz⟩ := I.list hq
    obtain ⟨u, hu, ru⟩ := rv.get hx
    have le : e < s.heap.objs.size := Heap.lt_size he
    have li : it < s.heap.objs.size := by
      obtain ⟨_, q, _⟩ := hit
      exact Heap.lt_size q
    have fr := I.hok.fresh (Nat.le_refl s.heap.objs.size)
    have hL := lp.isList
    have nel : e ≠ a := fun z => by
      obtain ⟨o, ho, hc', _⟩ := hL
      rw [← z, (show s.heap.get? e = some _ from he)] at ho
      cases ho
      injection hc' with z'
      exact absurd z' (by decide)
    have nil' : a ≠ it := fun z => by
      obtain ⟨o, ho, hc', _⟩ := hL
      obtain ⟨o2, ho2, hc2, _⟩ := hit
      rw [z, ho2] at ho
      cases ho
      rw [hc2] at hc'
      injection hc' with z'
      exact absurd z' (by decide)
    have hiu : its.toArray[i]? = some u := by simpa using hu
    have hlt : i < its.toArray.size := by
      by_cases z : i < its.toArray.size
      · exact z
      · rw [Array.getElem?_eq_none (by omega)] at hiu
        cases hiu
    refine wpAny_pyNext_enum_itemC (Draws.list (A := X.A.in1) (I.ok.hd hc) it a nil' its.toArray) he ⟨hit, hL⟩ hlt hne (by simp [hne, nel]) fun x h1 tk hx1 ho hst1 hT hsz hk => ⟨_, rfl, ?_⟩
    rw [hiu] at hx1
    cases hx1
    have hit1 := hst1.1
    refine wpAny_letOwnedTupleGo_enum (s := { s with heap := h1, toks := tk + 1 }) ho fun h2 he2 sb => ?_
    have hT2 := (sb.2 _ (Nat.ne_of_gt le)).trans hT
    have mem2 : ∀ {b : Addr}, b ∈ [e, it] → b < s.heap.objs.size := fun {b} hb => by
      rcases List.mem_cons.mp hb with z | z
      · rw [z]; exact le
      · rw [List.mem_singleton.mp z]; exact li
    refine ⟨.ref s.heap.objs.size, upd H s.heap.objs.size (.tup [.int (lo + (i : Nat)), y]), ?_, rfl, ⟨_, y, rfl, fr, rfl, fun zs hy => by rw [I.list_inj hy hq]; exact hx⟩, ⟨⟨u, ?_⟩, hit1.at fun o q => (sb.2 it (Ne.symm hne)).trans q, hne⟩, fun b hb => ?_⟩
    · refine I.turnedNew (ch := [e, it]) (fun b ob hb q => ?_) hf (Nat.le_refl _) ⟨by show 2 ≤ sizeLine; decide, [.int (lo + (i : Nat)) tk, u], .cons ⟨_, rfl⟩ (.cons ru .nil), ⟨_, hT2, rfl, _, rfl⟩⟩
      have be : b ≠ e := fun z => hb (by simp [z])
      have bi : b ≠ it := fun z => hb (by simp [z])
      exact (sb.2 b be).trans (hk b ob be bi q)
    · have e1 : lo + (((i + 1 : Nat)) : Int) = lo + (i : Int) + 1 := by omega
      rw [e1]
      exact he2
    · rw [upd_ne (Nat.ne_of_lt (mem2 hb))]
      exact (hf b hb).1
  done := by
    intro X hP hw hK hc i pins s σ H E I hf st hg
    subst hP hw hK
    obtain ⟨⟨was, he⟩, hit, hne⟩ := st
    obtain ⟨ys, hq, hx⟩ := hg
    obtain ⟨its, rv, lp, hz⟩ := I.list hq
    obtain ⟨f0, f1, f2, f3, f4, f5⟩ := hf it (by simp)
    have hl := rv.length
    have D : Draws X.prog X.w X.A.in1 it [it, a] i (fun _ _ => False) (fun j h => j = i ∧ h.IsListIter it a i ∧ h.IsList a its.toArray) := {
      live := fun j h st => by
        obtain ⟨_, ⟨o, ho, _⟩, _⟩ := st
        exact ⟨o, ho⟩
      frame := fun j h h' st k => ⟨st.1, st.2.1.at fun o q => k it (by simp) o q, st.2.2.at fun o q => k a (by simp) o q⟩
      item := fun j s Q E hj st _ => by
        have := st.1
        omega
      done := fun s Q E st hE => wpAny_nextOf_list_end (I.ok.hd hc) st.2.1 st.2.2 (by simp; omega) hE }
    exact wpAny_pyNext_enum_endD D he ⟨rfl, hit, lp.isList⟩ fun h1 eb => ⟨rfl, I.turned (t' := s.toks) (fun b o hb q => eb b o hb q) f0 f1 f3 f4 f5⟩
  self := fun A i s Q E st h => st.1.elim fun _ he => wpAny_pyIter_enum he h
def iEnumS (K : PySem.W.Frag) (ta : TA) : TI := fun σ H R => ta σ H fun vs H1 => ∃ a xs lo, vs = [.ref a, .int lo] ∧ SqL K H1 a xs ∧ -(2 ^ 62) ≤ lo ∧ lo < 2 ^ 62 ∧ R (ItE K a lo) H1
theorem pi_enumS {X : Cx} {e1 e2 : Expr} {ta : TA} {p pos tpos : Pos} {elts : List Expr} {kk : Nat} (hg : Gl X "enumerate") (hm : X.mg "enumerate" = none) (ha : PA X [e1, e2] ta)
    (he : starEach (e1 :: [e2]) X.env = (false, eval e1 X.env) :: starEach [e2] X.env := by rfl) (hpl : (backTo pos (starEach [e2] X.env)).any (·.1) = false := by rfl) :
    PI X (.Tuple elts kk tpos) (.Call (.Name "enumerate" p) [e1, e2] [] pos) (iEnumS X.K ta) := by
  refine ⟨fun pins s σ H R I h => ?_⟩
  refine Call_ (ld_blt I hg hm boot_enumerate (PyProof.Rows.callWith_type1 (thn (ha.run pos pins s σ H _ I h) fun us s1 hh => ?_) he hpl))
  obtain ⟨vs, H1, I1, r1, a, xs, lo, ex, hq, hl0, hl1, q⟩ := hh
  subst ex
  obtain ⟨u1, u2, rfl, ra, rb⟩ := vals2 r1
  obtain rfl : u1 = Value.ref a := ra
  obtain ⟨t, rfl⟩ := rb
  obtain ⟨its, rv, lp, hz⟩ := I1.list hq
  refine enum_begins (begins_list a its.toArray) lp.isList (by omega) (by omega) fun h1 he hit hsz hk => wpAny_pyIter_enum he ?_
  have I2 : Inv X pins σ H1 { s1 with heap := h1 } := I1.kept (t' := s1.toks) hk
  refine ⟨s1.heap.objs.size + 1, [s1.heap.objs.size + 1, s1.heap.objs.size], _, _, H1, rfl, I2, turn_enumS a (s1.heap.objs.size + 1) s1.heap.objs.size lo, ⟨⟨.none, by simpa using he⟩, ⟨_, hit, rfl, rfl⟩, Nat.succ_ne_self _⟩, fun b hb => ?_, q⟩
  have hle : s1.heap.objs.size ≤ b := by
    rcases List.mem_cons.mp hb with z | z
    · rw [z]; exact Nat.le_add_right _ _
    · rw [List.mem_singleton.mp z]; exact Nat.le_refl _
  exact I1.fpOk hle (I1.hok.fresh hle)
/-! ### list(text), text * int -/
abbrev sg (z : Str) : List Nat := z.cps.toList
def signsV (z : Str) : List V := (sg z).map fun c => V.str ⟨#[c]⟩
theorem signs_vals : ∀ (l : List Nat) (us : List Value), us.length = l.length → (∀ (j : Nat) (v : Value), us[j]? = some v → ∃ (c : Nat) (u : Tok), l[j]? = some c ∧ v = Value.str ⟨#[c]⟩ u) → Vals (l.map fun c => V.str ⟨#[c]⟩) us
  | [], [], _, _ => .nil
  | c :: l, u :: us, hl, h => by
    obtain ⟨c', t, e1, e2⟩ := h 0 u rfl
    have e1' : c = c' := by simpa using e1
    subst e1'
    exact .cons ⟨t, e2⟩ (signs_vals l us (by simpa using hl) fun j v e => by simpa using h (j + 1) v (by simpa using e))
  | [], _ :: _, hl, _ => by simp at hl
  | _ :: _, [], hl, _ => by simp at hl
theorem call_list_txt {X : Cx} (hc : X.calm = true) : CallR X (.type "list") (fun xs H Q => ∃ z, xs = [.str z] ∧ z.length ≤ sizeLine ∧ ∀ l, H l = none → Q (.ref l) (upd H l (.lst (signsV z)))) := by
  intro pins s σ H xs us Q I r h
  obtain ⟨z, rfl, hz, q⟩ := h
  obtain ⟨u, rfl, rx⟩ := vals1 r
  obtain ⟨t, rfl⟩ := rx
  refine call_list_str (I.ok.hd hc) z t (fun h' tk acc c' hk hS hacc => ?_) (hn := hz)
  have hv : Vals (signsV z) acc.toList := signs_vals _ _ (by simpa [sg] using hacc.1) fun j v e => by
    obtain ⟨c, u, e1, e2⟩ := hacc.2 j v (by simpa using e)
    exact ⟨c, u, by simpa [sg] using e1, e2⟩
  have hlen : (signsV z).length ≤ sizeLine := by simpa [signsV, sg, Str.length] using hz
  exact ⟨.ref s.heap.objs.size, _, I.laid (t' := tk) hk (Nat.le_refl _) (show ObjOk X.prog X.w _ h' _ (.lst (signsV z)) from ⟨hlen, acc.toList, c', hv, hS⟩), rfl, q _ (I.hok.fresh (Nat.le_refl _))⟩
theorem mulOk6 {z : Str} {i : Int} (hz : z.length = 1) (h0 : 0 ≤ i) (h1 : i ≤ 6) : PySem.MulOk z i := by
  have : i = 0 ∨ i = 1 ∨ i = 2 ∨ i = 3 ∨ i = 4 ∨ i = 5 ∨ i = 6 := by omega
  unfold PySem.MulOk
  rw [hz]
  rcases this with rfl | rfl | rfl | rfl | rfl | rfl | rfl <;> decide
theorem op_mul_txt {X : Cx} : OpR X (binaryOp .Mult) (fun x y H Q => ∃ (z : Str) (i : Int), x = .str z ∧ y = .int i ∧ z.length = 1 ∧ 0 ≤ i ∧ i ≤ 6 ∧ Q (.str (Txt.mul z i)) H) := by
  intro pins s σ H x y v u Q I rx ry h
  obtain ⟨z, i, rfl, rfl, hz, h0, h1, q⟩ := h
  obtain ⟨t, rfl⟩ := rx
  obtain ⟨t', rfl⟩ := ry
  exact PySem.SB.mul (mulOk6 hz h0 h1) fun t2 k => ⟨.str (Txt.mul z i), H, I.tok k, ⟨t2, rfl⟩, q⟩
/-! ### a comprehension over a text -/
theorem lc_txt {z : Str} {f : Nat → V} {g : TG} {te : TE} {vs : List Nat} {σ : L2.St} {H : Hp} {D : Addr} {Qd : Hp → Prop} (hD : H D = none) (hz : z.length ≤ 100000)
    (helt : ∀ (c : Nat) (H' : Hp) (R : V → Hp → Prop), c ∈ sg z → Same H H' → R (f c) H' → g (.str ⟨#[c]⟩) (wipe σ vs) H' fun σ2 H2 => wipe σ2 vs = wipe σ vs ∧ te σ2 H2 R)
    (hq : ∀ H', Same H H' → H' D = some (.lst ((sg z).map f)) → Qd H') :
    ∃ W : Nat → Nat → Hp → Prop, (∃ m, W 0 m (upd H D (.lst []))) ∧ ∀ i m H, W i m H →
      ((Its z).stop i H ∧ Qd H) ∨ ((Its z).go i H ∧ ∃ Nx : Hp → Prop, (∀ H', Nx H' → ∃ m', m' < m ∧ W (i + 1) m' H') ∧ ∀ x H', (Its z).yld i H x H' → g x (wipe σ vs) H' fun σ2 H2 => wipe σ2 vs = wipe σ vs ∧ tYes σ2 H2 fun b H3 =>
        if b = true then te σ2 H3 fun y H4 => ∃ acc, H4 D = some (.lst acc) ∧ acc.length < sizeLine ∧ Nx (upd H4 D (.lst (acc ++ [y]))) else Nx H3) := by
  have hsz : z.cps.size = (sg z).length := by simp [sg]
  refine lc_it (walk_str (z := z)) (fun i H' => Same H H' ∧ H' D = some (.lst (((sg z).take i).map f))) ⟨same_new hD _, upd_same⟩ (fun _ _ _ _ => True.intro) ?_ (fun H' h => hq H' h.1 (by rw [hsz] at h; rw [h.2, List.take_length]))
  rintro i x H1 H2 hi ⟨g1, g2⟩ ⟨rfl, c, hc, rfl⟩
  have hc' : (sg z)[i]? = some c := by simpa [sg] using hc
  refine helt c H2 _ (List.mem_of_getElem? hc') g1 ⟨_, g2, ?_, fun b o q => ?_, ?_⟩
  · have : (((sg z).take i).map f).length ≤ z.length := by simp [sg, Str.length]; omega
    exact Nat.lt_of_le_of_lt (Nat.le_trans this hz) (by decide)
  · rw [upd_ne (ne_of_none q hD)]
    exact g1 b o q
  · rw [upd_same, List.take_add_one, hc']
    simp
end Fp
namespace Fp
open PySem PySem.Spec PyProof.Rows L2
/-! ### methods with their promises -/
section
variable {X : Cx} {k i : Nat} {x m : Str} {p pos apos : Pos} {e o : Expr} {es : List Expr} {t : TA} {ta : TE} {C : Addr} {ps : List Str} {sp : Sp}
structure Md (P : Program) (w : World) (K : PySem.W.Frag) (mg : Str → Option Value) (base : Heap) (CX : CXT) (C : Addr) (m : Str) (k : Nat) (ps : List Str) (sp : Sp) : Prop where
  ex : ∃ (f : Addr) (fd : FuncData), Meth K C m f ∧ Binds K fd ps [] ∧ FnOk P w K mg base CX k f fd ps sp
theorem pe_md {pl : Sem Bool} (he : PE X o ta) (c : Cls X.K C) (M : Md X.prog X.w X.K X.mg X.base CX0 C m k ps sp) (hr : Room k X.A) (ha : PA X (e :: es) t)
    (hst : starEach (e :: es) X.env = (false, eval e X.env) :: starEach es X.env := by rfl) (hpl : (backTo pos (starEach es X.env)).any (·.1) = false := by rfl)
    (ht : eval (.Call (.Attribute o m apos) (e :: es) [] pos) X.env = (do
      let ov ← eval o X.env
      standAt apos.atName
      let (f, first) ← holding [ov] (getMethod ov m pl)
      callWith pos f first (backTo pos (starEach (e :: es) X.env)) (backToKw pos (keywordEach [] X.env))) := by rfl) :
    PE X (.Call (.Attribute o m apos) (e :: es) [] pos) (tMeth C m sp [] E0 ta t) := by
  obtain ⟨f, fd, h1, h2, h3⟩ := M.ex
  exact pe_meth he c h1 h3 hr h2 .nil pass0 ha hst hpl ht
theorem pe_md0 {pl : Sem Bool} (he : PE X o ta) (c : Cls X.K C) (M : Md X.prog X.w X.K X.mg X.base CX0 C m k ps sp) (hr : Room k X.A)
    (ht : eval (.Call (.Attribute o m apos) [] [] pos) X.env = (do
      let ov ← eval o X.env
      standAt apos.atName
      let (f, first) ← holding [ov] (getMethod ov m pl)
      callWith pos f first (backTo pos (starEach [] X.env)) (backToKw pos (keywordEach [] X.env))) := by rfl) :
    PE X (.Call (.Attribute o m apos) [] [] pos) (tMeth C m sp [] E0 ta tNil) := by
  obtain ⟨f, fd, h1, h2, h3⟩ := M.ex
  exact pe_meth0 he c h1 h3 hr h2 .nil pass0 ht
end
/-- a statement that is never reached -/
theorem ps_no {X : Cx} {st : Stmt} : PS X st (fun _ _ _ => False) := ⟨fun _ _ _ _ _ _ h => h.elim⟩
/-! ### a class of the module, made with its promise -/
structure MkC (P : Program) (w : World) (K : PySem.W.Frag) (mg : Str → Option Value) (base : Heap) (x : Str) (C : Addr) (k : Nat) (ps : List Str) (sp : Sp) : Prop where
  at_ : mg x = some (.ref C)
  ex : ∃ (f : Addr) (fd : FuncData), Mk K C f ∧ Binds K fd ps [] ∧ FnOk P w K mg base CX0 k f fd ps sp
section
variable {X : Cx} {x : Str} {k : Nat} {ps : List Str} {sp : Sp} {C : Addr} {e : Expr} {es : List Expr} {t : TA} {p pos : Pos}
theorem pe_mk0 (M : MkC X.prog X.w X.K X.mg X.base x C k ps sp) (hr : Room (k + 1) X.A) (hg : Gl X x) (hdb : (x == ("__debug__" : Str)) = false := by decide) : PE X (.Call (.Name x p) [] [] pos) (tMake C sp [] E0 tNil) := by
  obtain ⟨f, fd, h1, h2, h3⟩ := M.ex
  exact pe_make0 h1 h3 hr hg M.at_ h2 .nil pass0 hdb
theorem pe_mk (M : MkC X.prog X.w X.K X.mg X.base x C k ps sp) (hr : Room (k + 1) X.A) (hg : Gl X x) (ha : PA X (e :: es) t) (hdb : (x == ("__debug__" : Str)) = false := by decide)
    (he : starEach (e :: es) X.env = (false, eval e X.env) :: starEach es X.env := by rfl) (hpl : (backTo pos (starEach es X.env)).any (·.1) = false := by rfl) : PE X (.Call (.Name x p) (e :: es) [] pos) (tMake C sp [] E0 t) := by
  obtain ⟨f, fd, h1, h2, h3⟩ := M.ex
  exact pe_make h1 h3 hr hg M.at_ h2 .nil pass0 ha hdb he hpl
end
/-! ### x == y, x != y by an own __eq__ (no own __ne__) -/
section
open PySem.W
variable {prog : Program} {w : World} {A : Around} {E : Value → Shared → Prop} {s : Shared} {K : Frag} {x C L f : Addr} {h₀ : Heap} {m : Str → Option Value} {ox : Obj} {od : Option Obj} {b tb : Value}
theorem tryNe_K {Q : Option Value → Shared → Prop} (hu : A.units + 1 < cLine) (X : K.In s.heap) (I : InstAt s.heap x ox C od) (hne : findIn K (.ref C) "__ne__" = some (some (.builtin "object.__ne__"))) (top : mroIn K C (.type "object") = some true)
    (hs : findIn K (.ref C) "__eq__" = some (some (.ref f))) (hf : isFn K (.ref f) = true)
    (h : wpAny (model prog w) A.in1 (call (.ref f) [.ref x, b]) (fun v s' => ∃ k, v = .bool k ∧ Q (some (.bool (!k))) s') E s) : wpAny (model prog w) A (tryCompare (.ref x) "__ne__" b) Q E s := by
  have inner : ∀ (A' : Around) (hu' : A'.units < cLine) (E' : Value → Shared → Prop) (Q' : Fin → Shared → Prop), wpAny (model prog w) A' (call (.ref f) [.ref x, b]) (fun v s' => ∃ k, v = .bool k ∧ Q' (.done (.ret (.bool (!k)))) s') E' s →
      wpAny (model prog w) A' (Builtin.«object.__ne__» ⟨[.ref x, b], []⟩) Q' E' s := by
    intro A' hu' E' Q' h'
    unfold Builtin.«object.__ne__»
    repeat (first
      | with_reducible refine wpAny_cRoomFor hu' ?_
      | (refine wpAny_bind (m := callSpecialIfBound? (.ref x) (Str.ofString "__eq__") [b])
          (ifBound_K X I hs hf (wpAny_mono h' (fun r s' hr => by
            obtain ⟨k, rfl, hq⟩ := hr
            repeat (first | exact hq | exact wpAny_pure hq | exact wpAny_truthy_bool hq | (refine wpAny_bind (m := truthy (.bool _)) (wpAny_truthy_bool ?_)) | wp_step)) fun _ _ e => e)))
      | wp_step)
  have hi : Looks (model prog w) s.heap (isInstance (.ref x) (.type "object")) true := I.type.andThen (looks_mroIn X top)
  have S := F.slot_object_ne
  have done : ∀ (Q' : Value → Shared → Prop), wpAny (model prog w) A.in1 (call (.ref f) [.ref x, b]) (fun v s' => ∃ k, v = .bool k ∧ Q' (.bool (!k)) s') E s → wpAny (model prog w) A (call (.builtin "object.__ne__") [.ref x, b]) Q' E s := by
    intro Q' h'
    refine wpAny_call (codeAny_call_builtin S.plain PySem.F.cmpEntry_ne (check_slot PySem.F.cmpKind_ne PySem.F.cmpSplit_ne hi (PySem.F.cmpArgs_ne _ _) (inner A.in1 hu _ _ (wpAny_mono h' (fun v s' hv => ?_) fun _ _ e => e))))
    obtain ⟨k, rfl, hq⟩ := hv
    exact ⟨k, rfl, hq⟩
  have one : wpAny (model prog w) A (callSpecialIfBound? (.ref x) "__ne__" [b]) (fun r s' => ∃ k, r = some (.bool k) ∧ Q (some (.bool k)) s') E s := by
    simp only [callSpecialIfBound?, bindSpecialIfBound?]
    refine wpAny_holding (wpAny_bind (wpAny_bind (wpAny_bind (I.type.here ((looks_findIn X hne).here ?_)))))
    refine wpAny_bind (wpAny_askSetting (wpAny_ite ?_))
    have fin : wpAny (model prog w) A (call (.builtin "object.__ne__") ([.ref x] ++ [b]) >>= fun v => pure (some v)) (fun r s' => ∃ k, r = some (.bool k) ∧ Q (some (.bool k)) s') E s :=
      wpAny_bind (done _ (wpAny_mono h (fun v s' hv => by
        obtain ⟨k, rfl, hq⟩ := hv
        exact ⟨k, rfl, wpAny_pure ⟨_, rfl, hq⟩⟩) fun _ _ e => e))
    rw [S.bind]
    split
    · exact wpAny_bind (wpAny_pure (wpAny_pure fin))
    · exact wpAny_tryCatch (wpAny_bind (wpAny_pure (wpAny_pure fin)))
  unfold tryCompare
  refine wpAny_bind (wpAny_mono one (fun r s' z => ?_) fun _ _ e => e)
  obtain ⟨k, rfl, hq⟩ := z
  exact wpAny_pure hq
theorem ne_K {Q : Value → Shared → Prop} (hu : A.units + 1 < cLine) (F : Fr h₀ L s.heap m) (X₀ : K.In h₀) (I : InstAt s.heap x ox C od) (hb : Looks (model prog w) s.heap (typeOf b) tb) (hn : notFirst K C tb = true)
    (hne : findIn K (.ref C) "__ne__" = some (some (.builtin "object.__ne__"))) (top : mroIn K C (.type "object") = some true) (hs : findIn K (.ref C) "__eq__" = some (some (.ref f))) (hf : isFn K (.ref f) = true)
    (h : wpAny (model prog w) A.in1 (call (.ref f) [.ref x, b]) (fun v s' => ∃ k, v = .bool k ∧ Q (.bool (!k)) s') E s) : wpAny (model prog w) A (richCompare .NotEq (.ref x) b) Q E s := by
  have X := X₀.keeps F.keep
  have one : wpAny (model prog w) A (tryCompare (.ref x) "__ne__" b) (fun r s' => ∃ v, r = some v ∧ Q v s') E s :=
    tryNe_K hu X I hne top hs hf (wpAny_mono h (fun v s' hv => by
      obtain ⟨k, rfl, hq⟩ := hv
      exact ⟨k, rfl, _, rfl, hq⟩) fun _ _ e => e)
  unfold richCompare
  simp only [oneThing_ref]
  refine wpAny_holding (wpAny_bind (wpAny_cRoomFor (Nat.lt_of_succ_lt hu) ?_))
  refine wpAny_bind (I.type.here (wpAny_bind (hb.here ?_)))
  split
  · rename_i q
    have e : subIn K tb (.ref C) = some false := by
      rcases Bool.or_eq_true_iff.mp hn with e | e
      · rw [beq_iff_eq.mp e] at q; simp at q
      · exact beq_iff_eq.mp e
    refine wpAny_bind ((looks_subIn X e).here ?_)
    simp only [Bool.false_eq_true, if_false]
    refine wpAny_bind (wpAny_mono one (fun r s' z => ?_) fun _ _ e => e)
    obtain ⟨v, rfl, hq⟩ := z
    exact wpAny_pure hq
  · refine wpAny_bind (wpAny_pure ?_)
    simp only [Bool.false_eq_true, if_false]
    refine wpAny_bind (wpAny_mono one (fun r s' z => ?_) fun _ _ e => e)
    obtain ⟨v, rfl, hq⟩ := z
    exact wpAny_pure hq
end
/-- what a class with an own == must have -/
structure EqC (P : Program) (w : World) (K : PySem.W.Frag) (mg : Str → Option Value) (base : Heap) (C : Addr) (n : Nat) (ps : List Str) (sp : Sp) : Prop where
  ex : ∃ (f : Addr) (fd : FuncData), PySem.W.findIn K (.ref C) "__eq__" = some (some (.ref f)) ∧ PySem.W.isFn K (.ref f) = true ∧ Binds K fd ps [] ∧ FnOk P w K mg base CX0 n f fd ps sp
  ne : PySem.W.findIn K (.ref C) "__ne__" = some (some (.builtin "object.__ne__"))
  top : PySem.W.mroIn K C (.type "object") = some true
def rEqO (K : PySem.W.Frag) (C : Addr) (sp : Sp) (neg : Bool) : R2 := fun x y H Q => ∃ (a dx : Addr) (fs : List (Str × V)) (t : Value), x = .ref a ∧ H a = some (.ins C dx fs) ∧ TyX K H y t ∧ PySem.W.notFirst K C t = true ∧
  sp [x, y] H (fun v H' => ∃ b, v = .bl b ∧ Q (.bl (if neg then !b else b)) H') E0
section
variable {X : Cx} {C : Addr} {n : Nat} {ps : List Str} {sp : Sp}
theorem op_eqO (M : EqC X.prog X.w X.K X.mg X.base C n ps sp) (hr : Room n X.A) : OpR X (compareOp .Eq) (rEqO X.K C sp false) := by
  intro pins s σ H x y v u Q I rx ry h
  obtain ⟨a, dx, fs, t, rfl, ha, ty, hn, q⟩ := h
  cases rx
  obtain ⟨f, fd, hs, hf, hb, F⟩ := M.ex
  obtain ⟨mA, J, _⟩ := ins_get I.hok ha
  obtain ⟨od, J, _⟩ := J.look
  obtain ⟨m, hF⟩ := I.fr
  obtain ⟨Pk, Z, pk, _⟩ := kit_of I ry ty
  show wpAny (model X.prog X.w) X.A (richCompare .Eq (.ref a) u) (EP X pins σ Q) X.xe s
  refine PySem.W.cmp_K (op := .Eq) (tb := t) hr.units0 hF I.ok.mod.kin J (Z.ty _ _ I.kIn pk) hn hs hf ?_
  refine wpAny_mono (run_fn (us := [.ref a, u]) (vs := [.ref a, y]) F hr hb .nil pass0 I (.cons rfl (.cons ry .nil)) (show sp ([V.ref a, y] ++ []) H _ E0 from q)) (fun r s' z => ?_) fun _ _ e => e
  obtain ⟨v, H', I', rv, b, rfl, q'⟩ := z
  cases rv
  exact ⟨.bl b, H', I', rfl, q'⟩
theorem op_neO (M : EqC X.prog X.w X.K X.mg X.base C n ps sp) (hr : Room (n + 1) X.A) : OpR X (compareOp .NotEq) (rEqO X.K C sp true) := by
  intro pins s σ H x y v u Q I rx ry h
  obtain ⟨a, dx, fs, t, rfl, ha, ty, hn, q⟩ := h
  cases rx
  obtain ⟨f, fd, hs, hf, hb, F⟩ := M.ex
  obtain ⟨mA, J, _⟩ := ins_get I.hok ha
  obtain ⟨od, J, _⟩ := J.look
  obtain ⟨m, hF⟩ := I.fr
  obtain ⟨Pk, Z, pk, _⟩ := kit_of I ry ty
  show wpAny (model X.prog X.w) X.A (richCompare .NotEq (.ref a) u) (EP X pins σ Q) X.xe s
  refine ne_K (tb := t) (hu_of hr) hF I.ok.mod.kin J (Z.ty _ _ I.kIn pk) hn M.ne M.top hs hf ?_
  have e0 : Env0 X.prog X.w X.K X.mg X.base X.A.in1 X.stack s H := I.env0.in1
  have r2 : Vals ([V.ref a, y] ++ []) ([Value.ref a, u] ++ []) := (Vals.append (.cons rfl (.cons ry .nil)) .nil)
  have hsp : sp ([V.ref a, y] ++ []) H (fun v H' => ∃ b, v = .bl b ∧ Q (.bl (!b)) H') E0 := q
  have hl : ([Value.ref a, u] ++ []).length = ps.length := by rw [← r2.length]; exact F.len _ _ _ _ hsp
  refine wpAny_call (codeAny_mono (F.run X.A.in1 X.stack s H ⟨[.ref a, u], []⟩ _ _ _ E0 hr.in1 e0 (hb s [.ref a, u] I.kIn hl) r2 hsp) fun r s' hq => ?_)
  cases r with
  | error e => exact pass0 pins σ H s e s' I hq
  | ok fl =>
    cases fl with
    | ret u =>
      obtain ⟨v, H', I', rv, b, rfl, q'⟩ := I.after hq
      cases rv
      exact ⟨b, rfl, .bl (!b), H', I', rfl, q'⟩
    | next => exact False.elim hq
    | brk => exact False.elim hq
    | cont => exact False.elim hq
end
end Fp
/-! Defs that may show data: no repr under way -/
namespace L2
open PySem PySem.Spec PyProof.Rows
structure FnOkG (P : Program) (w : World) (K : PySem.W.Frag) (mg : Str → Option Value) (base : Heap) (CX : CXT) (k : Nat) (f : Addr) (fd : FuncData) (ps : List Str) (sp : Sp) : Prop where
  len : ∀ vs H Q E, sp vs H Q E → vs.length = ps.length
  run : ∀ (A : Around) (outer : List Env) (s : Shared) (H : Hp) (args : Args) (us : List Value) (vs : List V) (Q : VK) (E : XK), Room k A → A.guards = some [] → Env0 P w K mg base A outer s H → BindsTo s fd args (ps.zip us) → Vals vs us → sp vs H Q E →
    codeAny (model P w) A (.call (.ref f) args) (CR CX outer P w H s Q E) s
theorem fn_ofG {CX : CXT} {P : Program} {w : World} {K : PySem.W.Frag} {mg : Str → Option Value} {base : Heap} {k : Nat} {f : Addr} {name qual : Str} {params : Arguments} {body : List Stmt} {scope : Scope} {dV kV doc pm cdv ct oc : Value} {an od : Option Addr}
    {osl : Array (Option Value)} {N ps : List Str} {sp : Sp} (lk : K.lookup f = some ⟨oc, od, .func (PySem.W.fnOf name qual params body scope dV kV doc pm an cdv ct), osl⟩) (hcd : PySem.W.codeIn K cdv qual = true) (S : FnScope N ps scope)
    (len : ∀ vs H Q E, sp vs H Q E → vs.length = ps.length)
    (hbody : ∀ (A : Around) (outer : List Env) (s : Shared) (H : Hp) (vs : List V) (Q : VK) (E : XK), Room k (A.deeper (envOfC qual scope s.heap.objs.size f cdv)) → (A.deeper (envOfC qual scope s.heap.objs.size f cdv)).guards = some [] → sp vs H Q E →
      ∃ t, PSs (cxOf CX P w K mg base N qual scope f cdv A outer s H E) body t ∧ t { nx := fun _ H' => Q .non H', rt := Q } (start N vs) H) :
    FnOkG P w K mg base CX (k + 1) f (PySem.W.fnOf name qual params body scope dV kV doc pm an cdv ct) ps sp := by
  refine ⟨len, fun A outer s H args us vs Q E hr hgu e0 hb r hsp => ?_⟩
  have hl := len _ _ _ _ hsp
  have KX : K.In s.heap := e0.mod.kin.keeps fun b o e => (e0.bs b o e).1
  have lim : s.heap.NoLimit := e0.mod.nolimit.keeps fun b o e => (e0.bs b o e).1
  have hkind : ∀ y ∈ ps.zip us, scope.names.lookup y.1 = some .local ∨ (scope.names.lookup y.1 = some .cell ∧ ((cellsFrom (s.heap.objs.size + 1) scope.names []).lookup y.1).isSome = true) := fun ⟨n, v⟩ hy => by
    rcases S.par n (List.of_mem_zip hy).1 with q | q
    · exact .inl q
    · exact .inr ⟨q, PySem.W.cellsFrom_some _ _ _ (.inl q)⟩
  refine codeAny_call_function hr.depth (KX _ _ lk) rfl S.co S.gen rfl (PySem.W.codeRec_of KX hcd) (hb _ _ _ _ ?_)
  refine wpAny_newFunctionEnv_cells S.kind hkind fun env he s1 x => ?_
  subst he
  refine ⟨lim.keeps x.toInCall.keep, codeAny_func ?_⟩
  obtain ⟨t, ht, hq⟩ := hbody A outer s H vs Q E (hr.deeper _) hgu hsp
  have I : Inv (cxOf CX P w K mg base N qual scope f cdv A outer s H E) [] (start N vs) H s1 := inv_start S hr.hd e0 hl r x
  refine wpAny_mono (ht.run [] s1 (start N vs) H _ I hq) (fun fl s' hs => ?_) fun e s' hs => hs
  have fin : ∀ {σ' : St} {H' : Hp} {v : V} {u : Value}, Inv (cxOf CX P w K mg base N qual scope f cdv A outer s H E) [] σ' H' s' → RelV v u → Q v H' → CE outer P w H s Q u s' :=
    fun {σ' H' v u} J rv q => ⟨v, H', J.os, J.bare, J.base, J.hok, rv, q⟩
  cases fl with
  | ret u =>
    obtain ⟨v, σ', H', J, rv, q⟩ := hs
    exact fin J rv q
  | next =>
    obtain ⟨σ', H', J, q⟩ := hs
    exact fin (v := V.non) (u := Value.none) J rfl q
  | brk =>
    obtain ⟨_, _, _, q⟩ := hs
    exact False.elim q
  | cont =>
    obtain ⟨_, _, _, q⟩ := hs
    exact False.elim q
theorem law_callG {P : Program} {w : World} {K : PySem.W.Frag} {mg mb : Str → Option Value} {CX : CXT} {k : Nat} {fa a : Addr} {fd : FuncData} {x : Str} {sp : Sp} {s₁ : Shared} {vs : List Value} {ns : List Int}
    (KX : K.In s₁.heap) (hns : s₁.heap.Ns mainGlobals mg) (hb : s₁.heap.Ns builtinsNs mb) (hbb : ∀ x : Str, x ≠ "__name__" → mb x = bootBuiltins x) (hlim : s₁.heap.NoLimit) (hg : s₁.gens = #[])
    (ha : s₁.heap.get? a = some { cls := .type "list", data := .seq vs.toArray }) (hi : IntsAre vs ns) (hl : ns.length ≤ sizeLine) (hr : Room k callerA)
    (F : ∀ base : Heap, K.In base → base.Ns mainGlobals mg → FnOkG P w K mg base CX k fa fd [x] sp) (hbind : ∀ (s : Shared) (u : Value), BindsTo s fd ⟨[u], []⟩ [(x, u)])
    (hsp : ∀ H : Hp, Only H → SqL K H a (ns.map V.int) → sp [.ref a] H (fun v _ => v = .bl true) fun _ _ _ => False)
    (hCX : ∀ H e s', CX [] H s₁ (fun _ _ _ => False) e s' → False) :
    codeAny (model P w) callerA (.call (.ref fa) ⟨[.ref a], []⟩) (fun r s' => r = .ok (.ret (.bool true)) ∧ OldK s₁.heap s'.heap ∧ s'.os = s₁.os ∧ AllBare s'.gens) s₁ := by
  have rv := vals_ints hi
  have lenV := hi.length
  -- from an abstract heap in which nothing but the script may be tracked
  have core : ∀ H : Hp, Only H → SqL K H a (ns.map V.int) → HOk P w H s₁.heap → (∀ b, H b ≠ none → b = a) → (H a ≠ none → K.lookup a = none) →
      codeAny (model P w) callerA (.call (.ref fa) ⟨[.ref a], []⟩) (fun r s' => r = .ok (.ret (.bool true)) ∧ OldK s₁.heap s'.heap ∧ s'.os = s₁.os ∧ AllBare s'.gens) s₁ := by
    intro H hO hS hok hA hK
    have base_of : ∀ {b : Addr} {o : Obj}, s₁.heap.get? b = some o → H b = none → (hidT s₁.heap H).get? b = some o := fun e n => hidT_get e n
    have noA : ∀ {b : Addr} {o : Obj} {es : Array DictEntry} {ep : Nat}, s₁.heap.get? b = some o → o.data = .dict es ep → H b = none := fun {b o es ep} e d => by
      cases q : H b with
      | none => rfl
      | some u =>
        have e' : b = a := hA b (by rw [q]; simp)
        subst e'
        rw [ha] at e; cases e
        have d' : Data.seq vs.toArray _ = Data.dict es ep := d
        cases d'
    have nsK : ∀ {b : Addr} {m : Str → Option Value}, s₁.heap.Ns b m → (hidT s₁.heap H).Ns b m := fun {b m} ⟨o, es, ep, e, d, r⟩ => ⟨o, es, ep, base_of e (noA e d), d, r⟩
    have hKb : K.In (hidT s₁.heap H) := fun b o e => base_of (KX b o e) (by
      cases q : H b with
      | none => rfl
      | some u =>
        have e' : b = a := hA b (by rw [q]; simp)
        subst e'
        rw [hK (by rw [q]; simp)] at e; cases e)
    have hM : Mod K mg (hidT s₁.heap H) := ⟨hKb, nsK hns, ⟨mb, nsK hb, hbb⟩, let ⟨mc, h1, h2⟩ := hlim; ⟨mc, nsK h1, h2⟩⟩
    have e0 : Env0 P w K mg (hidT s₁.heap H) callerA [] s₁ H := ⟨rfl, hM, fun b o e => of_hidT e, Nat.le_of_eq (hidT_size _ _), trivial, fun b hb => absurd (show b ∈ ([] : List Addr) from hb) (by simp), hok, .of_eq hg⟩
    refine codeAny_mono ((F _ hKb (nsK hns)).run callerA [] s₁ H ⟨[.ref a], []⟩ [.ref a] [.ref a] _ _ hr rfl e0 (hbind s₁ (.ref a)) (.cons rfl .nil) (hsp H hO hS)) fun r s' h => ?_
    cases r with
    | error e => exact (hCX H e s' h).elim
    | ok fl =>
      cases fl with
      | next => exact False.elim h
      | brk => exact False.elim h
      | cont => exact False.elim h
      | ret u =>
        obtain ⟨v, H', os, bare, un, hok', r', q⟩ := h
        have q' : v = .bl true := q
        subst q'
        obtain rfl : u = Value.bool true := r'
        refine ⟨rfl, OldK.of_keep fun b o e => ?_, os, bare⟩
        cases q : H b with
        | none => exact un.keep b o e q (by intro z; exact absurd (show b ∈ ([] : List Addr) from z) (by simp)) (by simp)
        | some u =>
          rcases hO b with z | ⟨ob, xs, z⟩
          · rw [q] at z; cases z
          · have z2 := un.frzs b ob _ z
            obtain ⟨e1, _⟩ := hok b _ z
            obtain ⟨e2, _⟩ := hok' b _ z2
            rw [e] at e1; cases e1
            exact e2
  cases hk : K.lookup a with
  | some o =>
    -- the script is one of the module's own objects
    have e := KX a o hk
    rw [ha] at e
    cases e
    refine core (fun _ => none) (fun _ => .inl rfl) (.inr ⟨_, vs.toArray, _, hk, rfl, rfl, rfl, by rw [List.size_toArray, lenV]; exact hl, by simpa using rv⟩) (fun b u z => by have z' : (none : Option HO) = some u := z; cases z') (fun b z => absurd rfl z) fun z => absurd rfl z
  | none =>
    refine core (fun b => if b = a then some (.frz { cls := .type "list", data := .seq vs.toArray } (.lst (ns.map V.int))) else none) (fun b => ?_) (.inl (.inr ⟨{ cls := .type "list", data := .seq vs.toArray }, if_pos rfl⟩)) (fun b u z => ?_) (fun b z => ?_) fun _ => hk
    · by_cases hb : b = a
      · exact .inr ⟨_, _, if_pos hb⟩
      · exact .inl (if_neg hb)
    · by_cases hb : b = a
      · have z' := (if_pos hb).symm.trans z
        cases z'
        subst hb
        exact ⟨ha, by rw [List.length_map]; exact hl, vs, _, rv, ha⟩
      · have z' := (if_neg hb).symm.trans z
        cases z'
    · by_cases hb : b = a
      · exact hb
      · exact absurd (if_neg hb) z
theorem walk_ofG {l : PySem.W.OpenLaw} {n k : Nat} {q : Program} {loose : List Str} {XP : (Str → Option Value) → Heap → Prop} {YP : World → Heap → Prop} {d : DefRec} {K : Params → PySem.W.Frag} {CX : World → CXT} {sp : World → Sp} {x : Str}
    (hn : l.most = some n) (hn2 : n ≤ sizeLine) (hdf : d.params.defaults = []) (hr : Room k callerA)
    (hY : ∀ (w : World) (h : Heap), YP w h → (K w.params).In h)
    (F : ∀ (w : World) (mg : Str → Option Value) (fa : Addr) (h : Heap), (K w.params).In h → h.Ns mainGlobals mg → mg d.name = some (.ref fa) →
      ∃ fd : FuncData, (∀ (s : Shared) (u : Value), BindsTo s fd ⟨[u], []⟩ [(x, u)]) ∧
        ∀ base : Heap, (K w.params).In base → base.Ns mainGlobals mg → FnOkG l.prog w (K w.params) mg base (CX w) k fa fd [x] (sp w))
    (hsp : ∀ (w : World) (H : Hp) (a : Addr) (ns : List Int), ns.length ≤ n → Only H → SqL (K w.params) H a (ns.map V.int) → sp w [.ref a] H (fun v _ => v = .bl true) fun _ _ _ => False)
    (hCX : ∀ (w : World) (H : Hp) (s : Shared) (e : Value) (s' : Shared), CX w [] H s (fun _ _ _ => False) e s' → False) :
    PySem.W.WalkO q loose XP YP l.row.toRowW d [] (fun f vs => PySem.call f vs) := by
  refine Att.attach_call hn hdf fun w s₀ s₁ mg mb fa o pm cd doc a vs ns G Y ho hd hcd hmg hobj hints hlen hg => ?_
  have KX := hY w _ Y
  obtain ⟨fd, hb, hF⟩ := F w mg fa _ KX G.T.g hmg
  exact law_callG KX G.T.g G.T.b G.T.builtins G.T.nolimit hg hobj hints (Nat.le_trans hlen hn2) hr hF hb (fun H hO hS => hsp w H a ns hlen hO hS) fun H e s' => hCX w H s₁ e s'
theorem FnOk.toG {P : Program} {w : World} {K : PySem.W.Frag} {mg : Str → Option Value} {base : Heap} {CX : CXT} {k : Nat} {f : Addr} {fd : FuncData} {ps : List Str} {sp : Sp} (F : FnOk P w K mg base CX k f fd ps sp) : FnOkG P w K mg base CX k f fd ps sp :=
  ⟨F.len, fun A outer s H args us vs Q E hr _ => F.run A outer s H args us vs Q E hr⟩
end L2
namespace Fp
open PySem PySem.Spec PyProof.Rows L2
section
variable {P : Program} {w : World} {K : PySem.W.Frag} {mg : Str → Option Value} {base : Heap}
theorem fun_okG {x qual : Str} {st : Stmt} {f : Addr} {fd : FuncData} {N ps : List Str} {k : Nat} {sp : Sp} (F : Fun K x qual st f fd) (S : FnScope N ps (defScope st)) (len : ∀ vs H Q E, sp vs H Q E → vs.length = ps.length)
    (hbody : ∀ (cdv : Value) (A : Around) (outer : List Env) (s : Shared) (H : Hp) (vs : List V) (Q : VK) (E : XK), Room k (A.deeper (envOfC qual (defScope st) s.heap.objs.size f cdv)) → (A.deeper (envOfC qual (defScope st) s.heap.objs.size f cdv)).guards = some [] → sp vs H Q E →
      ∃ t, PSs (cxOf CX0 P w K mg base N qual (defScope st) f cdv A outer s H E).nox (defBody st) t ∧ t { nx := fun _ H' => Q .non H', rt := Q } (start N vs) H) : FnOkG P w K mg base CX0 (k + 1) f fd ps sp := by
  obtain ⟨oc, od, kV, doc, pm, an, cdv, ct, osl, rfl, lk, hcd⟩ := F.ex
  refine fn_ofG lk hcd S len fun A outer s H vs Q E hr hg hsp => ?_
  obtain ⟨t, h, q⟩ := hbody cdv A outer s H vs Q E hr hg hsp
  exact ⟨t, h.nox, q⟩
structure FdG (P : Program) (w : World) (K : PySem.W.Frag) (mg : Str → Option Value) (base : Heap) (CX : CXT) (x : Str) (k : Nat) (ps : List Str) (sp : Sp) : Prop where
  ex : ∃ (f : Addr) (fd : FuncData), mg x = some (.ref f) ∧ PySem.W.keepIn K (.ref f) = true ∧ Binds K fd ps [] ∧ FnOkG P w K mg base CX k f fd ps sp
end
section
variable {X : Cx} {x : Str} {k : Nat} {ps : List Str} {sp : Sp} {e : Expr} {es : List Expr} {t : TA} {p pos : Pos}
theorem pe_fdG (G : FdG X.prog X.w X.K X.mg X.base CX0 x k ps sp) (hr : Room k X.A) (hgu : X.A.guards = some []) (hg : Gl X x) (ha : PA X (e :: es) t) (hdb : (x == ("__debug__" : Str)) = false := by decide)
    (he : starEach (e :: es) X.env = (false, eval e X.env) :: starEach es X.env := by rfl) (hpl : (backTo pos (starEach es X.env)).any (·.1) = false := by rfl) :
    PE X (.Call (.Name x p) (e :: es) [] pos) (tCall sp [] E0 t) := by
  obtain ⟨f, fd, hm, hk, hb, F⟩ := G.ex
  refine ⟨fun pins s σ H Q I h => ?_⟩
  refine wpAny_Call_Name_kw (ld_glob I hg hm ?_ hdb)
  refine PySem.W.callWith_K (h₀ := X.base) I.ok.mod.kin hk (thn (ha.run pos pins s σ H _ I h) fun us s1 ⟨vs, H1, I1, r, q⟩ => ⟨I1.kIn, ?_⟩) he hpl
  have r2 : Vals (vs ++ []) (us ++ []) := r.append .nil
  have hl : (us ++ []).length = ps.length := by rw [← r2.length]; exact F.len _ _ _ _ q
  refine wpAny_call (codeAny_mono (F.run X.A X.stack s1 H1 ⟨us, []⟩ (us ++ []) (vs ++ []) Q E0 hr hgu I1.env0 (hb s1 us I1.kIn hl) r2 q) fun r s' hq => ?_)
  cases r with
  | error e => exact pass0 pins σ H1 s1 e s' I1 hq
  | ok fl =>
    cases fl with
    | ret u => exact I1.after hq
    | next => exact False.elim hq
    | brk => exact False.elim hq
    | cont => exact False.elim hq
/-- repr(x), x of data -/
theorem call_reprG (hgu : X.A.guards = some []) (hu : X.A.units + 64 < cLine) : CallR X (.builtin "repr") (fun xs H Q => ∃ (p : Addr) (d : PyData), xs = [.ref p] ∧ Dp X.K H (.ref p) d ∧ d.showable = true ∧ d.hasDict = false ∧ d.depth ≤ 60 ∧ d.shown.length ≤ sizeLine ∧ Q (.str d.shown) H) := by
  intro pins s σ H xs us Q I r h
  obtain ⟨p, d, rfl, hd, h1, h2, h3, h4, q⟩ := h
  obtain ⟨u, rfl, rx⟩ := vals1 r
  obtain ⟨as, rd⟩ := Dp.reads I d _ u hd rx
  cases rx
  exact repr_of_reads' rd h1 (fun z => by rw [h2] at z; cases z) hgu (by omega) (fun _ _ z => z) (fun h' u tk k => ⟨.str d.shown, H, I.kept (t' := tk) k, ⟨_, rfl⟩, q⟩) h4
end
end Fp
namespace Fp
open PySem PySem.Spec PyProof.Rows L2
/-! ### for i, x in enumerate(tuple, start) -/
def ItF (K : PySem.W.Frag) (a : Addr) (lo : Int) : It :=
  ⟨fun i H => ∃ (ys : List V) (y : V), SqT K H a ys ∧ ys[i]? = some y,
   fun i H v H' => ∃ T y, v = .ref T ∧ H T = none ∧ H' = upd H T (.tup [.int (lo + (i : Nat)), y]) ∧ ∀ ys, SqT K H a ys → ys[i]? = some y,
   fun i H => ∃ ys : List V, SqT K H a ys ∧ ys.length ≤ i⟩
theorem turn_enumF {P : Program} {w : World} {K : PySem.W.Frag} {elts : List Expr} {kk : Nat} {tpos : Pos} (a e it : Addr) (lo : Int) :
    Turn P w K (.Tuple elts kk tpos) (ItF K a lo) [e, it] e (fun i h => (∃ was, IsEnum h e it (lo + ((i : Nat) : Int)) was) ∧ h.IsTupleIter it a i ∧ e ≠ it) where
  mem := List.mem_cons_self
  obj := fun i h st b hb => by
    obtain ⟨⟨was, he⟩, ⟨o, ho, hc, hd⟩, _⟩ := st
    rcases List.mem_cons.mp hb with z | z
    · subst z
      exact ⟨_, he, fun v q => nomatch q⟩
    · have z' := List.mem_singleton.mp z
      subst z'
      exact ⟨o, ho, fun v q => by rw [hd] at q; cases q⟩
  keep := fun i h h' st k => ⟨st.1.imp fun was he => k e (by simp) _ he, st.2.1.at fun o q => k it (by simp) o q, st.2.2⟩
  item := by
    intro X hP hw hK hc i pins s σ H E I hf st hg
    subst hP hw hK
    obtain ⟨⟨was, he⟩, hit, hne⟩ := st
    obtain ⟨ys, y, hq, hx⟩ := hg
    obtain ⟨its, rv, lp, hz⟩ := I.tuple hq
    obtain ⟨u, hu, ru⟩ := rv.get hx
    have le : e < s.heap.objs.size := Heap.lt_size he
    have li : it < s.heap.objs.size := by
      obtain ⟨_, q, _⟩ := hit
      exact Heap.lt_size q
    have fr := I.hok.fresh (Nat.le_refl s.heap.objs.size)
    have hL := lp
    have nel : e ≠ a := fun z => by
      obtain ⟨o, ho, hc', _⟩ := hL
      rw [← z, (show s.heap.get? e = some _ from he)] at ho
      cases ho
      injection hc' with z'
      exact absurd z' (by decide)
    have nil' : a ≠ it := fun z => by
      obtain ⟨o, ho, hc', _⟩ := hL
      obtain ⟨o2, ho2, hc2, _⟩ := hit
      rw [z, ho2] at ho
      cases ho
      rw [hc2] at hc'
      injection hc' with z'
      exact absurd z' (by decide)
    have hiu : its.toArray[i]? = some u := by simpa using hu
    have hlt : i < its.toArray.size := by
      by_cases z : i < its.toArray.size
      · exact z
      · rw [Array.getElem?_eq_none (by omega)] at hiu
        cases hiu
    refine wpAny_pyNext_enum_itemC (Draws.tuple (A := X.A.in1) (I.ok.hd hc) it a nil' its.toArray) he ⟨hit, hL⟩ hlt hne (by simp [hne, nel]) fun x h1 tk hx1 ho hst1 hT hsz hk => ⟨_, rfl, ?_⟩
    rw [hiu] at hx1
    cases hx1
    have hit1 := hst1.1
    refine wpAny_letOwnedTupleGo_enum (s := { s with heap := h1, toks := tk + 1 }) ho fun h2 he2 sb => ?_
    have hT2 := (sb.2 _ (Nat.ne_of_gt le)).trans hT
    have mem2 : ∀ {b : Addr}, b ∈ [e, it] → b < s.heap.objs.size := fun {b} hb => by
      rcases List.mem_cons.mp hb with z | z
      · rw [z]; exact le
      · rw [List.mem_singleton.mp z]; exact li
    refine ⟨.ref s.heap.objs.size, upd H s.heap.objs.size (.tup [.int (lo + (i : Nat)), y]), ?_, rfl, ⟨_, y, rfl, fr, rfl, fun zs hy => by rw [I.tuple_inj hy hq]; exact hx⟩, ⟨⟨u, ?_⟩, hit1.at fun o q => (sb.2 it (Ne.symm hne)).trans q, hne⟩, fun b hb => ?_⟩
    · refine I.turnedNew (ch := [e, it]) (fun b ob hb q => ?_) hf (Nat.le_refl _) ⟨by show 2 ≤ sizeLine; decide, [.int (lo + (i : Nat)) tk, u], .cons ⟨_, rfl⟩ (.cons ru .nil), ⟨_, hT2, rfl, _, rfl⟩⟩
      have be : b ≠ e := fun z => hb (by simp [z])
      have bi : b ≠ it := fun z => hb (by simp [z])
      exact (sb.2 b be).trans (hk b ob be bi q)
    · have e1 : lo + (((i + 1 : Nat)) : Int) = lo + (i : Int) + 1 := by omega
      rw [e1]
      exact he2
    · rw [upd_ne (Nat.ne_of_lt (mem2 hb))]
      exact (hf b hb).1
  done := by
    intro X hP hw hK hc i pins s σ H E I hf st hg
    subst hP hw hK
    obtain ⟨⟨was, he⟩, hit, hne⟩ := st
    obtain ⟨ys, hq, hx⟩ := hg
    obtain ⟨its, rv, lp, hz⟩ := I.tuple hq
    obtain ⟨f0, f1, f2, f3, f4, f5⟩ := hf it (by simp)
    have hl := rv.length
    have D : Draws X.prog X.w X.A.in1 it [it, a] i (fun _ _ => False) (fun j h => j = i ∧ h.IsTupleIter it a i ∧ h.IsTuple a its.toArray) := {
      live := fun j h st => by
        obtain ⟨_, ⟨o, ho, _⟩, _⟩ := st
        exact ⟨o, ho⟩
      frame := fun j h h' st k => ⟨st.1, st.2.1.at fun o q => k it (by simp) o q, st.2.2.at fun o q => k a (by simp) o q⟩
      item := fun j s Q E hj st _ => by
        have := st.1
        omega
      done := fun s Q E st hE => wpAny_nextOf_tuple_end (I.ok.hd hc) st.2.1 st.2.2 (by simp; omega) hE }
    exact wpAny_pyNext_enum_endD D he ⟨rfl, hit, lp⟩ fun h1 eb => ⟨rfl, I.turned (t' := s.toks) (fun b o hb q => eb b o hb q) f0 f1 f3 f4 f5⟩
  self := fun A i s Q E st h => st.1.elim fun _ he => wpAny_pyIter_enum he h
def iEnumF (K : PySem.W.Frag) (ta : TA) : TI := fun σ H R => ta σ H fun vs H1 => ∃ a xs lo, vs = [.ref a, .int lo] ∧ SqT K H1 a xs ∧ -(2 ^ 62) ≤ lo ∧ lo < 2 ^ 62 ∧ R (ItF K a lo) H1
theorem pi_enumF {X : Cx} {e1 e2 : Expr} {ta : TA} {p pos tpos : Pos} {elts : List Expr} {kk : Nat} (hg : Gl X "enumerate") (hm : X.mg "enumerate" = none) (ha : PA X [e1, e2] ta)
    (he : starEach (e1 :: [e2]) X.env = (false, eval e1 X.env) :: starEach [e2] X.env := by rfl) (hpl : (backTo pos (starEach [e2] X.env)).any (·.1) = false := by rfl) :
    PI X (.Tuple elts kk tpos) (.Call (.Name "enumerate" p) [e1, e2] [] pos) (iEnumF X.K ta) := by
  refine ⟨fun pins s σ H R I h => ?_⟩
  refine Call_ (ld_blt I hg hm boot_enumerate (PyProof.Rows.callWith_type1 (thn (ha.run pos pins s σ H _ I h) fun us s1 hh => ?_) he hpl))
  obtain ⟨vs, H1, I1, r1, a, xs, lo, ex, hq, hl0, hl1, q⟩ := hh
  subst ex
  obtain ⟨u1, u2, rfl, ra, rb⟩ := vals2 r1
  obtain rfl : u1 = Value.ref a := ra
  obtain ⟨t, rfl⟩ := rb
  obtain ⟨its, rv, lp, hz⟩ := I1.tuple hq
  refine enum_begins (begins_tuple a its.toArray) lp (by omega) (by omega) fun h1 he hit hsz hk => wpAny_pyIter_enum he ?_
  have I2 : Inv X pins σ H1 { s1 with heap := h1 } := I1.kept (t' := s1.toks) hk
  refine ⟨s1.heap.objs.size + 1, [s1.heap.objs.size + 1, s1.heap.objs.size], _, _, H1, rfl, I2, turn_enumF a (s1.heap.objs.size + 1) s1.heap.objs.size lo, ⟨⟨.none, by simpa using he⟩, ⟨_, hit, rfl, rfl⟩, Nat.succ_ne_self _⟩, fun b hb => ?_, q⟩
  have hle : s1.heap.objs.size ≤ b := by
    rcases List.mem_cons.mp hb with z | z
    · rw [z]; exact Nat.le_add_right _ _
    · rw [List.mem_singleton.mp z]; exact Nat.le_refl _
  exact I1.fpOk hle (I1.hok.fresh hle)

set_option maxHeartbeats 1000000 in
theorem meets_enumerate_newB1 {v : Value} {o : Obj} {H : Heap → Prop} (B : Begins v o H) :
    Meets (Builtin.«enumerate.__new__» ⟨[.type "enumerate", v], []⟩) (fun _ R s => H s.heap ∧
      R (.ok (.ret (.ref (s.heap.push o).objs.size))) { s with heap := (s.heap.push o).push { cls := .type "enumerate", data := .fields #[.none, .bool false, .ref s.heap.objs.size, rawInt 0, .none, .none] } }) :=
  .of_wp fun prog w A R s h => by
    obtain ⟨hp, g, d, tk, os⟩ := s; obtain ⟨h1, h⟩ := h
    have hsub := sub_enumerate
    have q1 : ∀ {A' : Around} {E : Value → Shared → Prop} {Q : Value → Shared → Prop}, Q (.ref hp.objs.size) ⟨hp.push o, g, d, tk, os⟩ → wpAny (model prog w) A' (pyIter v) Q E ⟨hp, g, d, tk, os⟩ :=
      fun q => B.iter prog w _ _ ⟨hp, g, d, tk, os⟩ _ h1 q
    wp_walk using q1
    refine wpAny_stack_any fun st => wpAny_pure ?_
    split
    · rename_i c _ _ _ _ _
      cases (c == Value.type "enumerate")
      · wp_walk using q1
        exact ⟨_, rfl, h⟩
      · wp_walk using q1
        exact ⟨_, rfl, h⟩
    · wp_walk using q1
      exact ⟨_, rfl, h⟩
section
variable {prog : Program} {w : World} {A : Around} {E : Value → Shared → Prop} {s : Shared}
theorem enum_begins1 {v : Value} {o : Obj} {H : Heap → Prop} {Q : Value → Shared → Prop} (B : Begins v o H) (h1 : H s.heap)
    (h : ∀ h', IsEnum h' (s.heap.objs.size + 1) s.heap.objs.size 0 .none → h'.get? s.heap.objs.size = some o → h'.objs.size = s.heap.objs.size + 2 →
      (∀ b o, s.heap.get? b = some o → h'.get? b = some o) → Q (.ref (s.heap.objs.size + 1)) { s with heap := h' }) :
    wpAny (model prog w) A (call (.type "enumerate") [v]) Q E s := by
  refine callType_new F.called_enumerate (by decide) (F.typeCall_enumerate_1 _) (F.newCall_enumerate_1 _) (fun obj => F.args_object_init_2 obj _) F.entry_enumerate_new
    (meets_enumerate_newB1 B) ⟨h1, ?_⟩
  have hz : (s.heap.push o).objs.size = s.heap.objs.size + 1 := Heap.size_push ..
  show _ ∧ _
  rw [hz]
  have he : IsEnum ((s.heap.push o).push { cls := .type "enumerate", data := .fields #[.none, .bool false, .ref s.heap.objs.size, rawInt 0, .none, .none] }) (s.heap.objs.size + 1) s.heap.objs.size 0 .none := by
    have := Heap.get?_push_size (s.heap.push o) (o := { cls := .type "enumerate", data := .fields #[.none, .bool false, .ref s.heap.objs.size, rawInt 0, .none, .none] }) rfl
    rw [hz] at this; exact this
  refine ⟨⟨_, he, rfl⟩, h _ he (Heap.get?_push_of_some _ (Heap.get?_push_size _ B.free)) (by rw [Heap.size_push, hz]) fun b o x => Heap.get?_push_of_some _ (Heap.get?_push_of_some _ x)⟩
end
def iEnumT (K : PySem.W.Frag) (ta : TA) : TI := fun σ H R => ta σ H fun vs H1 => ∃ a xs, vs = [.ref a] ∧ SqT K H1 a xs ∧ R (ItF K a 0) H1
theorem pi_enumT {X : Cx} {e1 : Expr} {ta : TA} {p pos tpos : Pos} {elts : List Expr} {kk : Nat} (hg : Gl X "enumerate") (hm : X.mg "enumerate" = none) (ha : PA X [e1] ta)
    (hs : starEach [e1] X.env = [(false, eval e1 X.env)] := by rfl) :
    PI X (.Tuple elts kk tpos) (.Call (.Name "enumerate" p) [e1] [] pos) (iEnumT X.K ta) := by
  refine ⟨fun pins s σ H R I h => ?_⟩
  refine Call_ (ld_blt I hg hm boot_enumerate (PyProof.Rows.callWith_type1 (thn (ha.run pos pins s σ H _ I h) fun us s1 hh => ?_) hs rfl))
  obtain ⟨vs, H1, I1, r1, a, xs, ex, hq, q⟩ := hh
  subst ex
  obtain ⟨u1, rfl, ra⟩ := vals1 r1
  obtain rfl : u1 = Value.ref a := ra
  obtain ⟨its, rv, lp, hz⟩ := I1.tuple hq
  refine enum_begins1 (begins_tuple a its.toArray) lp fun h1 he hit hsz hk => wpAny_pyIter_enum he ?_
  have I2 : Inv X pins σ H1 { s1 with heap := h1 } := I1.kept (t' := s1.toks) hk
  refine ⟨s1.heap.objs.size + 1, [s1.heap.objs.size + 1, s1.heap.objs.size], _, _, H1, rfl, I2, turn_enumF a (s1.heap.objs.size + 1) s1.heap.objs.size 0, ⟨⟨.none, by simpa using he⟩, ⟨_, hit, rfl, rfl⟩, Nat.succ_ne_self _⟩, fun b hb => ?_, q⟩
  have hle : s1.heap.objs.size ≤ b := by
    rcases List.mem_cons.mp hb with z | z
    · rw [z]; exact Nat.le_add_right _ _
    · rw [List.mem_singleton.mp z]; exact Nat.le_refl _
  exact I1.fpOk hle (I1.hok.fresh hle)
theorem walk_enumT {K : PySem.W.Frag} {a : Addr} {xs : List V} {lo : Int} : Walk (ItF K a lo) xs.length (fun H => SqT K H a xs) (fun i H v H' => ∃ T y, v = .ref T ∧ H T = none ∧ H' = upd H T (.tup [.int (lo + (i : Nat)), y]) ∧ xs[i]? = some y) where
  goes := fun i H hi h => ⟨xs, xs[i], h, List.getElem?_eq_getElem hi⟩
  stops := fun H h => ⟨xs, h, Nat.le_refl _⟩
  yields := fun i H v H' hi h y => by
    obtain ⟨T, y, e1, e2, e3, e4⟩ := y
    exact ⟨T, y, e1, e2, e3, e4 _ h⟩
end Fp
/-! Rules: tuple * 1, tuple.index of flat items, repr of any data, not equal -/
namespace L2
open PySem PySem.Spec PyProof.Rows
theorem tuple_mul1 (l : Addr) (items : Array Value) (n : Nat) (dd : Option Addr) (sl : Array (Option Value)) (u : Tok) :
    Meets (Builtin.«tuple.__mul__» ⟨[.ref l, .int 1 u], []⟩) (fun _ R s => s.heap.get? l = some { cls := .type "tuple", dict := dd, data := .seq items n, slots := sl } ∧
      R (.ok (.ret (Value.ref l))) s) :=
  .of_wp fun prog w A R s h => by
    obtain ⟨hp, g, d, tk, os⟩ := s
    obtain ⟨hl, h⟩ := h
    have f1 := AutoSeq1.idx_int
    have c0 : ¬ ((decide ((1 : Int) < -(2 ^ 63)) || decide ((1 : Int) ≥ 2 ^ 63)) = true) := by decide
    have c1 : (items.isEmpty || (1 : Int) == 1) = true := by simp
    wp_walk using wpAny_loadPart' hl
    repeat (first
      | (refine wpAny_ite_false (decide_eq_false (by decide)) ?_; wp_walk using wpAny_loadPart' hl)
      | (refine wpAny_ite_true (decide_eq_true c1) ?_; wp_walk using wpAny_loadPart' hl))
    all_goals first | exact ⟨_, rfl, h⟩ | exact h
def rRepU (K : PySem.W.Frag) : R2 := fun x y H Q => ∃ l k xs, x = .ref l ∧ y = .int k ∧ SqT K H l xs ∧ xs ≠ [] ∧ 1 ≤ k ∧ k ≤ 1000 ∧ xs.length ≤ 1000 ∧ (k = 1 → Q (.ref l) H) ∧ (2 ≤ k → ∀ p, H p = none → Q (.ref p) (upd H p (.tup (List.replicate k.toNat xs).flatten)))
section
variable {X : Cx}
theorem op_repU : OpR X (binaryOp .Mult) (rRepU X.K) := by
  intro pins s σ H x y v u Q I rx ry h
  obtain ⟨l, k, xs, rfl, rfl, hT, hne, h1, h2, hz, q1, q2⟩ := h
  by_cases hk : k = 1
  · subst hk
    cases rx
    obtain ⟨t, rfl⟩ := ry
    obtain ⟨its, r, ⟨⟨cls, dd, data, sl⟩, ho, hc, n, hd⟩, hs⟩ := I.tuple hT
    simp only at hc hd
    subst hc hd
    refine wpAny_binaryOp_repeat_ref (T := "tuple") (U := "int") (by decide) ⟨_, ho, rfl⟩ (fun s' => typeIs_int s' 1 t) noFill_tuple_mul F.fills_int_mul F.slot_int_rmul repeat_tuple F.slot_int_index.lookup
      (call_meets F.slot_int_rmul (typeIs_int s 1 t) F.entry_int_rmul (F.args_int_rmul_2 _ _) (int_rmul_tuple 1 t l its.toArray n dd sl)
        ⟨ho, rfl, ⟨_, ho, rfl⟩, call_meets F.slot_tuple_mul ⟨_, ho, rfl⟩ F.entry_tuple_mul (F.args_tuple_mul_2 _ _) (tuple_mul1 l its.toArray n dd sl t) ⟨ho, ?_⟩⟩)
    exact ⟨.ref l, H, I, rfl, q1 rfl⟩
  · exact op_repT pins s σ H _ _ v u Q I rx ry ⟨l, k, xs, rfl, rfl, hT, hne, by omega, h2, hz, q2 (by omega)⟩
/-- t.index(x), x and all of t flat: the first place -/
theorem mt_tindex : MtR X "tuple.index" (fun x xs H Q => ∃ (p : Addr) (ys : List V) (y : V) (j : Nat) (z : V), x = .ref p ∧ xs = [y] ∧ SqT X.K H p ys ∧ flatV y = true ∧ ys.all flatV = true ∧ ys[j]? = some z ∧ eqV z y = true ∧
    (∀ (m : Nat) (z' : V), m < j → ys[m]? = some z' → eqV z' y = false) ∧ Q (.int (j : Nat)) H) := by
  intro pins s σ H x xs v us Q I rx rs h
  obtain ⟨p, ys, y, j, z, rfl, rfl, hq, fy, fys, hz, hzj, hno, q⟩ := h
  cases rx
  obtain ⟨uy, rfl, ry⟩ := vals1 rs
  obtain ⟨its, rv, pl, hlen⟩ := I.tuple hq
  obtain ⟨⟨cls, dd, dt, sl⟩, ho, hc, n, hd⟩ := pl
  simp only at hc hd
  subst hc
  subst hd
  obtain ⟨u, hu, ru⟩ := rv.get hz
  obtain ⟨hjl, hje⟩ := List.getElem?_eq_some_iff.mp hu
  have hvl := rv.length
  have hj : j < its.toArray.size := by simpa using hjl
  refine call_meets PySem.F.slot_tuple_index ⟨_, ho, rfl⟩ PySem.F.entry_tuple_index (PySem.F.args_tuple_index_2 _ _) (TI.tuple_indexAt p its.toArray n dd sl uy (eqU y) j hj ?_ ?_)
    ⟨ho, fun u' hu' => mem_eqAt ry fy rv fys u' (by simpa using hu'), ⟨.int (j : Nat), H, I.tok _, ⟨_, rfl⟩, q⟩⟩
  · have e1 : its.toArray[j] = u := by simpa using hje
    rw [e1, eqU_of ru (flat_at fys hz)]
    exact hzj
  · intro m hm hmj
    have hml : m < its.length := by simpa using hm
    have hmy : m < ys.length := by omega
    have hy' : ys[m]? = some ys[m] := List.getElem?_eq_getElem hmy
    obtain ⟨u2, hu2, ru2⟩ := rv.get hy'
    obtain ⟨_, hme⟩ := List.getElem?_eq_some_iff.mp hu2
    have e1 : its.toArray[m] = u2 := by simpa using hme
    rw [e1, eqU_of ru2 (flat_at fys hy')]
    exact hno m _ hmj hy'
/-! ### tuples of which it is known that they have no dict -/
def TF (H : Hp) (a : Addr) (xs : List V) : Prop := ∃ o, H a = some (.frz o (.tup xs)) ∧ o.dict = none
theorem TF.sq {K : PySem.W.Frag} {H : Hp} {a : Addr} {xs : List V} (h : TF H a xs) : SqT K H a xs := by
  obtain ⟨o, h, _⟩ := h
  exact .inl (.inr ⟨o, h⟩)
def tTupF (t : TA) : TE := fun σ H Q => t σ H fun xs H1 => xs.length ≤ sizeLine ∧ ∀ p o, H1 p = none → o.dict = none → Q (.ref p) (upd H1 p (.frz o (.tup xs)))
theorem pe_tupF {es : List Expr} {x1} {t : TA} {pos : Pos} (h : PA X es t) : PE X (.Tuple es x1 pos) (tTupF t) := by
  refine ⟨fun pins s σ H Q I hq => ?_⟩
  refine wpAny_Tuple_spliced (thn (h.run pos pins s σ H _ I hq) fun us s1 ⟨xs, H1, I1, r, z, q⟩ => ⟨by rw [← r.length]; exact z, ?_⟩)
  have hf : H1 s1.heap.objs.size = none := I1.hok.fresh (Nat.le_refl _)
  refine ⟨.ref s1.heap.objs.size, upd H1 s1.heap.objs.size (.frz { cls := .type "tuple", data := .seq us.toArray } (.tup xs)), I1.laid (t' := s1.toks) (fun b u e => Heap.get?_push_of_some _ e) (Nat.le_refl _) ?_, rfl, q _ _ hf rfl⟩
  exact ⟨Heap.get?_push_size _ rfl, z, us, r, ⟨_, Heap.get?_push_size _ rfl, rfl, _, rfl⟩⟩
def rCatF (K : PySem.W.Frag) : R2 := fun x y H Q => ∃ a b xs ys, x = .ref a ∧ y = .ref b ∧ SqT K H a xs ∧ SqT K H b ys ∧ xs.length + ys.length ≤ sizeLine ∧
  (xs = [] → Q (.ref b) H) ∧ (xs ≠ [] → ys = [] → Q (.ref a) H) ∧ (xs ≠ [] → ys ≠ [] → ∀ p o, H p = none → o.dict = none → Q (.ref p) (upd H p (.frz o (.tup (xs ++ ys)))))
theorem op_catF : OpR X (binaryOp .Add) (rCatF X.K) := by
  intro pins s σ H x y v u Q I rx ry h
  obtain ⟨a, b, xs, ys, rfl, rfl, ha, hb, hz, q0, q1, q2⟩ := h
  cases rx
  cases ry
  obtain ⟨its, r1, p1, _⟩ := I.tuple ha
  obtain ⟨its2, r2, p2, _⟩ := I.tuple hb
  by_cases hx : xs = []
  · subst hx
    cases r1
    exact cat_tup0 p1 p2 ⟨.ref b, H, I, rfl, q0 rfl⟩
  · refine HT.cat_tup p1 p2 (fun z => hx (r1.nil_iff.mp z)) (fun z => ⟨.ref a, H, I, rfl, q1 hx (r2.nil_iff.mp z)⟩) (fun z => ?_) (by rw [← r1.length, ← r2.length]; exact hz)
    refine ⟨.ref s.heap.objs.size, _, I.laid (t' := s.toks) (o := .frz { cls := .type "tuple", data := .seq (its ++ its2).toArray } (.tup (xs ++ ys))) (fun b ob q => Heap.get?_push_of_some _ q) (Nat.le_refl _) ?_, rfl, q2 hx (fun w => z (r2.nil_iff.mpr w)) _ _ (I.hok.fresh (Nat.le_refl _)) rfl⟩
    exact ⟨Heap.get?_push_size _ rfl, by rw [List.length_append]; exact hz, _, r1.append r2, IsTup.new _ _⟩
def rRepF (K : PySem.W.Frag) : R2 := fun x y H Q => ∃ l k xs, x = .ref l ∧ y = .int k ∧ SqT K H l xs ∧ xs ≠ [] ∧ 1 ≤ k ∧ k ≤ 1000 ∧ xs.length ≤ 1000 ∧ (k = 1 → Q (.ref l) H) ∧ (2 ≤ k → ∀ p o, H p = none → o.dict = none → Q (.ref p) (upd H p (.frz o (.tup (List.replicate k.toNat xs).flatten))))
theorem op_repF : OpR X (binaryOp .Mult) (rRepF X.K) := by
  intro pins s σ H x y v u Q I rx ry h
  obtain ⟨l, k, xs, rfl, rfl, hT, hne, h1, h2, hz, q1, q2⟩ := h
  by_cases hk : k = 1
  · subst hk
    exact op_repU pins s σ H _ _ v u Q I rx ry ⟨l, 1, xs, rfl, rfl, hT, hne, h1, h2, hz, q1, fun z => absurd z (by decide)⟩
  · cases rx
    obtain ⟨t, rfl⟩ := ry
    obtain ⟨its, r, ⟨⟨cls, dd, data, sl⟩, ho, hc, n, hd⟩, hs⟩ := I.tuple hT
    simp only at hc hd
    subst hc hd
    have hle : its.length = xs.length := r.length.symm
    have hn : its ≠ [] := fun e => hne (by
      rw [e] at hle
      exact List.eq_nil_of_length_eq_zero hle.symm)
    have hi : its.toArray.isEmpty = false := by
      cases its with
      | nil => exact absurd rfl hn
      | cons a b => rfl
    have hsz0 : its.toArray.size = xs.length := by rw [List.size_toArray, hle]
    have hm : ((its.toArray.size : Nat) : Int) * k ≤ 1000000 := by
      rw [hsz0]
      have a1 : ((xs.length : Nat) : Int) * k ≤ 1000 * k := Int.mul_le_mul_of_nonneg_right (by omega) (by omega)
      omega
    have flen : (List.replicate k.toNat its).flatten.length ≤ sizeLine := by
      rw [PyProof.Rows.lm_len_rep_flat, hle, sizeLine_eq]
      have a1 : k.toNat * xs.length ≤ 1000 * 1000 := Nat.mul_le_mul (by omega) hz
      omega
    have c0 : (decide (k < -(2 ^ 63)) || decide (k ≥ 2 ^ 63)) = false := by
      rw [decide_eq_false (by omega), decide_eq_false (by omega)] <;> rfl
    have c1 : (its.toArray.isEmpty || k == 1) = false := by
      rw [hi, Bool.false_or]
      exact beq_eq_false_iff_ne.mpr (by omega)
    have c2 : (decide (k ≤ 0) || its.toArray.isEmpty) = false := by
      rw [hi, Bool.or_false]
      exact decide_eq_false (by omega)
    have c4 : Builtin.Tuple.tupleTooMany (((its.toArray.size : Nat) : Int) * k) = false := by
      unfold Builtin.Tuple.tupleTooMany
      rw [sizeLine_eq]
      exact decide_eq_false (by omega)
    refine wpAny_binaryOp_repeat_ref (T := "tuple") (U := "int") (by decide) ⟨_, ho, rfl⟩ (fun s' => typeIs_int s' k t) noFill_tuple_mul F.fills_int_mul F.slot_int_rmul repeat_tuple F.slot_int_index.lookup
      (call_meets F.slot_int_rmul (typeIs_int s k t) F.entry_int_rmul (F.args_int_rmul_2 _ _) (int_rmul_tuple k t l its.toArray n dd sl)
        ⟨ho, rfl, ⟨_, ho, rfl⟩, call_meets F.slot_tuple_mul ⟨_, ho, rfl⟩ F.entry_tuple_mul (F.args_tuple_mul_2 _ _) (tuple_mulW l its.toArray n dd sl k t c0 c1 c2 (by omega) c4 (by rw [size_rep, List.size_toArray]; exact flen)) ⟨ho, ?_⟩⟩)
    rw [size_rep]
    refine ⟨.ref s.heap.objs.size, _, I.laid (t' := s.toks) (o := .frz { cls := .type "tuple", data := .seq (List.replicate k.toNat its).flatten.toArray } (.tup (List.replicate k.toNat xs).flatten)) (fun b ob q => Heap.get?_push_of_some _ q) (Nat.le_refl _) ?_, rfl, q2 (by omega) _ _ (I.hok.fresh (Nat.le_refl _)) rfl⟩
    exact ⟨Heap.get?_push_size _ rfl, by rw [PyProof.Rows.lm_len_rep_flat, sizeLine_eq]; have a1 : k.toNat * xs.length ≤ 1000 * 1000 := Nat.mul_le_mul (by omega) hz; omega, _, r.rep k.toNat, IsTup.new _ _⟩
/-- t.index(x) -/
def tTIdx (K : PySem.W.Frag) (to te : TE) : TE := fun σ H Q => to σ H fun x H1 => (∃ p ys, x = .ref p ∧ TF H1 p ys) ∧ te σ H1 fun y H2 => ∃ (p : Addr) (ys : List V) (j : Nat) (z : V), x = .ref p ∧ SqT K H2 p ys ∧ flatV y = true ∧ ys.all flatV = true ∧ ys[j]? = some z ∧ eqV z y = true ∧
    (∀ (m : Nat) (z' : V), m < j → ys[m]? = some z' → eqV z' y = false) ∧ Q (.int (j : Nat)) H2
theorem pe_tindex {o e : Expr} {to te : TE} {apos cpos : Pos} (ho : PE X o to) (he : PE X e te)
    (hbase : attributeBase o "index" X.env (eval o X.env) = eval o X.env := by rfl)
    (hfew : ((backTo cpos (starEach [e] X.env)).all (fun x => !x.1) && (backToKw cpos (keywordEach [] X.env)).all (fun x => x.1.isSome)
      && decide ([e].length + ([] : List Keyword).length + (if ([] : List Keyword).isEmpty then 0 else 1) < 30)) = true := by rfl)
    (hline : (apos.endLine == cpos.line) = true := by rfl) (hs : starEach [e] X.env = (false, eval e X.env) :: starEach [] X.env := by rfl) (hplain : (backTo cpos (starEach [] X.env)).any (·.1) = false := by rfl) :
    PE X (.Call (.Attribute o "index" apos) [e] [] cpos) (tTIdx X.K to te) := by
  refine ⟨fun pins s σ H Q I h => ?_⟩
  refine wpAny_Call_method_late hbase hfew hline rfl (thn (ho.run pins s σ H _ I h) fun v s1 ⟨x, H1, I1, r1, ⟨p, ys, ex, ⟨ob, hob, hdd⟩⟩, q1⟩ => ?_)
  subst ex
  cases r1
  have e1 := (I1.hok p _ hob).1
  obtain ⟨its, rv, pl, hz⟩ := I1.tuple (.inl (.inr ⟨ob, hob⟩))
  refine ⟨"tuple", "tuple.index", PySem.F.plainAttrs_tuple, PySem.F.slot_tuple_index, PySem.F.type_tuple_index, pl.typeIs, fun a ea => by cases ea; exact ⟨ob, e1, hdd⟩, ?_⟩
  have hA := (pa_cons he pa_nil hs).run cpos pins s1 σ H1 (fun vs H2 => match vs with
    | [y] => ∃ (p' : Addr) (ys : List V) (j : Nat) (z : V), V.ref p = .ref p' ∧ SqT X.K H2 p' ys ∧ flatV y = true ∧ ys.all flatV = true ∧ ys[j]? = some z ∧ eqV z y = true ∧
      (∀ (m : Nat) (z' : V), m < j → ys[m]? = some z' → eqV z' y = false) ∧ Q (.int (j : Nat)) H2
    | _ => False) I1 q1
  rw [hs] at hA ⊢
  refine Calls.callWith_builtin (by show (false || (backTo cpos (starEach [] X.env)).any (·.1)) = false; rw [hplain] <;> rfl) (Calls.evalArgs_plain ?_)
  refine thn hA fun us s2 ⟨vs, H2, I2, r2, hh⟩ => ?_
  match vs, r2, hh with
  | [y], r2, ⟨p', ys', j, z, ep, a1, a2, a3, a4, a5, a6, q⟩ =>
    cases ep
    exact mt_tindex pins s2 σ H2 (.ref p) [y] (.ref p) us Q I2 rfl r2 ⟨p, ys', y, j, z, rfl, rfl, a1, a2, a3, a4, a5, a6, q⟩
end
end L2
/-! Small data: what can be shown and compared; values that are brought -/
namespace Fp
open PySem PySem.Spec PyProof.Rows L2
theorem ite_no {c : Bool} {A B : Prop} (hc : c = false) (h : B) : if c = true then A else B := by
  rw [hc]; exact iteF h
theorem ite_yes {c : Bool} {A B : Prop} (hc : c = true) (h : A) : if c = true then A else B := by
  rw [hc]; exact iteT h
theorem get_lt {α : Type} {l : List α} {i : Nat} {x : α} (h : l[i]? = some x) : i < l.length := (List.getElem?_eq_some_iff.mp h).1
theorem u66 {k : Nat} {A : Around} (r : Room k A) : A.units + 66 < cLine := by have := r.un; omega
theorem szl {n : Nat} (h : n ≤ 10000000) : n ≤ sizeLine := by rw [sizeLine_eq]; omega
theorem szt {n : Nat} (h : n < 10000000) : n < sizeLine := by rw [sizeLine_eq]; omega
/-- data that can be shown and compared: at most so deep, at most so much -/
structure Sm (k n : Nat) (d : PyData) : Prop where
  sh : d.showable = true
  lay : d.canLay0 = true
  lv : d.leavesShort 13 = true
  blk : d.bulk ≤ n
  dep : d.depth ≤ k
theorem Sm.mono {k n k' n' : Nat} {d : PyData} (h : Sm k n d) (hk : k ≤ k') (hn : n ≤ n') : Sm k' n' d := ⟨h.sh, h.lay, h.lv, Nat.le_trans h.blk hn, Nat.le_trans h.dep hk⟩
structure Sms (k n : Nat) (ds : List PyData) : Prop where
  sh : PyData.showableAll ds = true
  lay : PyData.canLayAll0 ds = true
  lv : PyData.leavesShortAll 13 ds = true
  blk : PyData.bulkAll ds ≤ n
  dep : PyData.depthAll ds ≤ k
theorem Sms.nil {k n : Nat} : Sms k n [] := ⟨by simp [PyData.showableAll], by simp [PyData.canLayAll0], by simp [PyData.leavesShortAll], by simp [PyData.bulkAll], by simp [PyData.depthAll]⟩
theorem Sms.cons {k a b : Nat} {d : PyData} {ds : List PyData} (h : Sm k a d) (t : Sms k b ds) : Sms k (a + 1 + b) (d :: ds) :=
  ⟨by simp [PyData.showableAll, h.sh, t.sh], by simp [PyData.canLayAll0, h.lay, t.lay], by simp [PyData.leavesShortAll, h.lv, t.lv], by have := h.blk; have := t.blk; simp only [PyData.bulkAll]; omega, by have := h.dep; have := t.dep; simp only [PyData.depthAll]; omega⟩
theorem Sms.mono {k n k' n' : Nat} {d : List PyData} (h : Sms k n d) (hk : k ≤ k') (hn : n ≤ n') : Sms k' n' d := ⟨h.sh, h.lay, h.lv, Nat.le_trans h.blk hn, Nat.le_trans h.dep hk⟩
theorem Sms.all {k n : Nat} : ∀ {ds : List PyData}, (∀ d ∈ ds, Sm k n d) → Sms k ((n + 1) * ds.length) ds
  | [], _ => Sms.nil
  | d :: ds, h => (Sms.cons (h d (by simp)) (Sms.all fun e he => h e (List.mem_cons_of_mem _ he))).mono (Nat.le_refl _) (by
    rw [List.length_cons, Nat.mul_succ]; omega)
theorem Sms.tup {k n : Nat} {ds : List PyData} (h : Sms k n ds) : Sm (k + 1) n (.tuple ds) :=
  ⟨by simpa [PyData.showable] using h.sh, by simpa [PyData.canLay0] using h.lay, by simpa [PyData.leavesShort] using h.lv, by have := h.blk; simpa only [PyData.bulk] using this, by have := h.dep; simp only [PyData.depth]; omega⟩
theorem Sms.lst {k n : Nat} {ds : List PyData} (h : Sms k n ds) : Sm (k + 1) n (.list ds) :=
  ⟨by simpa [PyData.showable] using h.sh, by simpa [PyData.canLay0] using h.lay, by simpa [PyData.leavesShort] using h.lv, by have := h.blk; simpa only [PyData.bulk] using this, by have := h.dep; simp only [PyData.depth]; omega⟩
theorem Sm.non : Sm 1 0 .none := ⟨by simp [PyData.showable], by simp [PyData.canLay0], by simp [PyData.leavesShort], by simp [PyData.bulk], by simp [PyData.depth]⟩
theorem Sm.str {z : Str} {n : Nat} (hz : z.cps.size ≤ n) (hc : (z.cps.toList.all fun c => decide (c < 16 ^ 8)) = true) (ho : PyData.strOk z = true) : Sm 1 n (.str z) :=
  ⟨by simp [PyData.showable], by simp [PyData.canLay0, ho], by simpa only [PyData.leavesShort] using hc, by simpa only [PyData.bulk] using hz, by simp [PyData.depth]⟩
theorem log2_lt {i : Int} (h0 : -99999 ≤ i) (h1 : i ≤ 99999) : i.natAbs.log2 < 1920 := by
  by_cases h : i.natAbs = 0
  · rw [h]; decide
  · have : i.natAbs.log2 < 17 := (Nat.log2_lt h).mpr (show i.natAbs < 2 ^ 17 by omega)
    omega
theorem Sm.int {i : Int} (h0 : -9999 ≤ i) (h1 : i ≤ 9999) : Sm 1 0 (.int i) := by
  refine ⟨?_, by simp [PyData.canLay0], ?_, by simp [PyData.bulk], by simp [PyData.depth]⟩
  · simp only [PyData.showable, decide_eq_true_eq]
    exact log2_lt (by omega) (by omega)
  · simp only [PyData.leavesShort, decide_eq_true_eq]
    exact PyData.shown_int_le (by omega)
theorem Sm.fits {k n : Nat} {d : PyData} (h : Sm k n d) (hn : n ≤ 1000000) : d.shown.length ≤ sizeLine := PyData.shown_fits_bulk (B := 13) (by decide) (by decide) h.lv (Nat.le_trans h.blk (Nat.le_trans hn (by decide)))
theorem Sm.shaped {k n : Nat} {d : PyData} (h : Sm k n d) (hk : k ≤ 64) : SeqAt.shaped d = true := by
  unfold SeqAt.shaped
  rw [h.lay, Bool.true_and]
  exact decide_eq_true (Nat.le_trans h.dep hk)
/-! ### repr of any data -/
section
variable {X : Cx}
theorem wpAny_repr {prog : Program} {w : World} {A : Around} {E : Value → Shared → Prop} {s : Shared} {Q : Value → Shared → Prop} {v : Value} {d : PyData} {as : List Addr} (r : Reads s.heap v d as) (hs : d.showable = true) (hd : d.hasDict = false) (hz : d.shown.length ≤ sizeLine)
    (hg : A.guards = some []) (hu : A.units + (d.depth + 1) < cLine) (hQ : ∀ h' u tk, (∀ b o, s.heap.get? b = some o → h'.get? b = some o) → Q (.str d.shown u) { s with heap := h', toks := tk }) : wpAny (model prog w) A (call (.builtin "repr") [v]) Q E s := by
  cases r with
  | none => exact PySem.P.repr_of_none (hQ _ _ _ fun _ _ e => e)
  | bool b => exact PySem.P.repr_of_bool (hQ _ _ _ fun _ _ e => e)
  | int i t => exact PySem.P.repr_of_int (by simpa only [PyData.showable, decide_eq_true_eq] using hs) (by simpa only [PyData.shown] using hQ _ _ _ fun _ _ e => e)
  | str x t => exact PySem.P.repr_of_str (by simpa only [PyData.shown] using hQ _ _ _ fun _ _ e => e) (by simpa only [PyData.shown] using hz)
  | list a b c e => exact repr_of_reads' (.list a b c e) hs (fun z => by rw [hd] at z; cases z) hg hu (fun _ _ z => z) hQ hz
  | tuple a b c e => exact repr_of_reads' (.tuple a b c e) hs (fun z => by rw [hd] at z; cases z) hg hu (fun _ _ z => z) hQ hz
  | dict a b c e f => simp [PyData.hasDict] at hd
/-- repr(x), x any data -/
theorem call_reprA (hgu : X.A.guards = some []) (hu : X.A.units + 66 < cLine) : CallR X (.builtin "repr") (fun xs H Q => ∃ (x : V) (d : PyData) (k n : Nat), xs = [x] ∧ Dp X.K H x d ∧ Sm k n d ∧ k ≤ 64 ∧ n ≤ 1000000 ∧ Q (.str d.shown) H) := by
  intro pins s σ H xs us Q I r h
  obtain ⟨x, d, k, n, rfl, hd, sm, hk, hn, q⟩ := h
  obtain ⟨u, rfl, rx⟩ := vals1 r
  obtain ⟨as, rd⟩ := Dp.reads I d _ u hd rx
  have hdp := sm.dep
  exact wpAny_repr rd sm.sh (PyData.hasDict_of_canLay _ sm.lay) (sm.fits hn) hgu (by omega) (fun h' u tk k => ⟨.str d.shown, H, I.kept (t' := tk) k, ⟨_, rfl⟩, q⟩)
end
/-! ### values that are brought: None, integers, tuples of at most three such, at most so deep -/
inductive VOk : Nat → PyData → Prop where
  | non {n} : VOk n .none
  | int {n i} : -9999 ≤ i → i ≤ 9999 → VOk n (.int i)
  | tup {n ds} : (∀ d ∈ ds, VOk n d) → ds.length ≤ 3 → VOk (n + 1) (.tuple ds)
mutual
inductive VAt (H : Hp) : V → PyData → Prop where
  | non : VAt H .non .none
  | int (i : Int) : VAt H (.int i) (.int i)
  | tup {a : Addr} {xs : List V} {ds : List PyData} : H a = some (.tup xs) → VsAt H xs ds → VAt H (.ref a) (.tuple ds)
inductive VsAt (H : Hp) : List V → List PyData → Prop where
  | nil : VsAt H [] []
  | cons {v vs d ds} : VAt H v d → VsAt H vs ds → VsAt H (v :: vs) (d :: ds)
end
/-- tuples stay -/
def IsT : Option HO → Prop
  | some (.tup _) => True
  | some (.frz _ (.tup _)) => True
  | _ => False
def TK (H H' : Hp) : Prop := ∀ a, IsT (H a) → H' a = H a
theorem TK.refl (H : Hp) : TK H H := fun _ _ => rfl
theorem TK.trans {H H1 H2 : Hp} (a : TK H H1) (b : TK H1 H2) : TK H H2 := fun x h => (b x (by rw [a x h]; exact h)).trans (a x h)
theorem TK.of {H H' : Hp} (g : Same H H') : TK H H' := fun a h => by
  cases e : H a with
  | none => rw [e] at h; exact h.elim
  | some o => exact g a _ e
theorem TK.but {S : List Addr} {H H' : Hp} (g : But S H H') (h : ∀ a ∈ S, ¬ IsT (H a)) : TK H H' := fun a n => by
  cases e : H a with
  | none => rw [e] at n; exact n.elim
  | some o => exact g a _ (fun m => h a m n) e
theorem TK.put {H : Hp} {p : Addr} {o u : HO} (h : H p = some o) (n : ¬ IsT (some o)) : TK H (upd H p u) := fun a e => by
  rw [upd_ne (fun z => n (by rw [← h, ← z]; exact e))]
theorem TK.t {H H' : Hp} (g : TK H H') {a : Addr} {xs : List V} (h : H a = some (.tup xs)) : H' a = some (.tup xs) := by
  rw [g a (by rw [h]; trivial), h]
theorem TK.f {H H' : Hp} (g : TK H H') {a : Addr} {xs : List V} (h : TF H a xs) : TF H' a xs := by
  obtain ⟨o, h, d⟩ := h
  exact ⟨o, by rw [g a (by rw [h]; trivial), h], d⟩
mutual
theorem VAt.mono {H H' : Hp} (g : TK H H') : ∀ {v : V} {d : PyData}, VAt H v d → VAt H' v d
  | _, _, .non => .non
  | _, _, .int i => .int i
  | _, _, .tup a b => .tup (g.t a) (VsAt.mono g b)
theorem VsAt.mono {H H' : Hp} (g : TK H H') : ∀ {v : List V} {d : List PyData}, VsAt H v d → VsAt H' v d
  | _, _, .nil => .nil
  | _, _, .cons a b => .cons (VAt.mono g a) (VsAt.mono g b)
end
mutual
theorem VAt.dp {K : PySem.W.Frag} {H : Hp} : ∀ {v : V} {d : PyData}, VAt H v d → Dp K H v d
  | _, _, .non => .non
  | _, _, .int i => .int i
  | _, _, .tup a b => .tup (.of a) (VsAt.dp b)
theorem VsAt.dp {K : PySem.W.Frag} {H : Hp} : ∀ {v : List V} {d : List PyData}, VsAt H v d → DpAll K H v d
  | _, _, .nil => .nil
  | _, _, .cons a b => .cons (VAt.dp a) (VsAt.dp b)
end
theorem VOk.up {n : Nat} {d : PyData} (h : VOk n d) : VOk (n + 1) d := by
  induction h with
  | non => exact .non
  | int a b => exact .int a b
  | tup a b ih => exact .tup (fun d hd => ih d hd) b
def vb : Nat → Nat
  | 0 => 0
  | n + 1 => (vb n + 1) * 3
theorem VOk.sm : ∀ {n : Nat} {d : PyData}, VOk n d → Sm (n + 1) (vb n) d := by
  intro n d h
  induction h with
  | non => exact Sm.non.mono (by omega) (by omega)
  | int a b => exact (Sm.int a b).mono (by omega) (by omega)
  | tup a b ih => exact (Sms.all ih).tup.mono (Nat.le_refl _) (Nat.mul_le_mul_left _ b)
theorem VsAt.snoc {H : Hp} {v : V} {d : PyData} (h : VAt H v d) : ∀ {vs : List V} {ds : List PyData}, VsAt H vs ds → VsAt H (vs ++ [v]) (ds ++ [d])
  | _, _, .nil => .cons h .nil
  | _, _, .cons a b => .cons a (VsAt.snoc h b)
theorem VsAt.len {H : Hp} : ∀ {vs : List V} {ds : List PyData}, VsAt H vs ds → vs.length = ds.length
  | _, _, .nil => rfl
  | _, _, .cons _ b => congrArg (· + 1) b.len
theorem VsAt.get {H : Hp} : ∀ {xs : List V} {b : List PyData} {i : Nat} {x : V}, VsAt H xs b → xs[i]? = some x → ∃ it, b[i]? = some it ∧ VAt H x it
  | _, _, 0, _, .cons h _, e => by cases e; exact ⟨_, rfl, h⟩
  | _, _, i + 1, x, .cons _ r, e => VsAt.get (i := i) r e
  | _, _, _, _, .nil, e => by cases e
end Fp
/-! A door, as a plain thing -/
namespace Fp
open PySem PySem.Spec PyProof.Rows L2
abbrev Lv := Option Int
def lvV : Lv → V
  | none => .non
  | some i => .int i
structure Deed where
  stp : Bool
  p : Nat
  x : V
structure DS where
  came : List (Option V)
  lev : List Lv
  heard : List (Option V)
  seen : List (Option (List Lv))
  deeds : List Deed
inductive Told where
  | level (i : Int) | look (l : List Lv) | wait | word (v : V)
theorem getD_set {α : Type} (l : List (Option α)) (p q : Nat) (x : Option α) : (l.set p x).getD q none = if p = q ∧ p < l.length then x else l.getD q none := by
  simp only [List.getD_eq_getElem?_getD, List.getElem?_set]
  by_cases h : p = q
  · subst h
    by_cases h2 : p < l.length
    · simp [h2]
    · have e : l[p]? = none := List.getElem?_eq_none (by omega)
      simp [h2, e]
  · simp [h]
theorem getD_none_of {α : Type} {l : List (Option α)} {q : Nat} {x : α} (h : l.getD q none = some x) : q < l.length ∧ l[q]? = some (some x) := by
  rw [List.getD_eq_getElem?_getD] at h
  cases e : l[q]? with
  | none => rw [e] at h; cases h
  | some y =>
    rw [e] at h
    have h' : y = some x := h
    exact ⟨(List.getElem?_eq_some_iff.mp e).1, by rw [h']⟩
theorem getD_of {α : Type} {l : List (Option α)} {q : Nat} {y : Option α} (h : l[q]? = some y) : l.getD q none = y := by
  rw [List.getD_eq_getElem?_getD, h]; rfl
theorem mem_getD {α : Type} {l : List (Option α)} {x : α} : some x ∈ l ↔ ∃ q, l.getD q none = some x := by
  constructor
  · intro h
    obtain ⟨q, hq⟩ := List.getElem?_of_mem h
    exact ⟨q, getD_of hq⟩
  · rintro ⟨q, hq⟩
    exact List.mem_of_getElem? (getD_none_of hq).2
namespace DS
def new (n : Nat) : DS := ⟨List.replicate n none, List.replicate n none, List.replicate n none, List.replicate n none, []⟩
def cm (s : DS) (p : Nat) : Option V := s.came.getD p none
def lv (s : DS) (p : Nat) : Lv := s.lev.getD p none
def sn (s : DS) (p : Nat) : Option (List Lv) := s.seen.getD p none
def stgOf (a : Lv) (b : Option (List Lv)) : Nat := match a with
  | none => 0
  | some i => if i = 1 then (if b.isSome then 2 else 1) else 3
def stg (s : DS) (p : Nat) : Nat := stgOf (s.lv p) (s.sn p)
def kindOf : Nat → Str
  | 1 => "look" | 3 => "ask" | _ => "level"
def next (s : DS) (p : Nat) : Option Str := if (s.cm p).isSome then some (kindOf (s.stg p)) else none
def isTwo (a : Lv) : Bool := decide (a = some 2)
def two (s : DS) : Nat := s.lev.findIdx isTwo
def saw (s : DS) (p : Nat) : Bool := decide (some 2 ∈ (s.sn p).getD [])
def wr (s : DS) (p : Nat) : Int := if s.saw p then 0 else 2
def come (s : DS) (p : Nat) (v : V) : DS := { s with came := s.came.set p (some v), deeds := s.deeds ++ [⟨false, p, v⟩] }
def told (s : DS) (p : Nat) : Told := match s.stg p with
  | 0 => .level 1
  | 1 => .look s.lev
  | 2 => .level (s.wr p)
  | _ => if some 1 ∈ s.lev then .wait else .word ((s.cm s.two).getD .non)
def step (s : DS) (p : Nat) : DS := match s.stg p with
  | 0 => { s with deeds := s.deeds ++ [⟨true, p, .str "level"⟩], lev := s.lev.set p (some 1) }
  | 1 => { s with deeds := s.deeds ++ [⟨true, p, .str "look"⟩], seen := s.seen.set p (some s.lev) }
  | 2 => { s with deeds := s.deeds ++ [⟨true, p, .str "level"⟩], lev := s.lev.set p (some (s.wr p)) }
  | _ => if some 1 ∈ s.lev then { s with deeds := s.deeds ++ [⟨true, p, .str "ask"⟩] } else { s with deeds := s.deeds ++ [⟨true, p, .str "ask"⟩], heard := s.heard.set p (s.cm s.two) }
structure WF (s : DS) : Prop where
  n1 : 1 ≤ s.lev.length
  n5 : s.lev.length ≤ 5
  lc : s.came.length = s.lev.length
  lh : s.heard.length = s.lev.length
  ls : s.seen.length = s.lev.length
  vals : ∀ p x, s.lv p = some x → x = 0 ∨ x = 1 ∨ x = 2
  cmv : ∀ p, s.lv p ≠ none → s.cm p ≠ none
  snv : ∀ p, s.sn p ≠ none → s.lv p ≠ none
  lok : ∀ p x, s.lv p = some x → x ≠ 1 → s.sn p ≠ none
  z2 : ∀ p, s.lv p = some 0 → ∃ q, s.lv q = some 2
  s2 : ∀ p l, s.sn p = some l → some 2 ∈ l → ∃ q, s.lv q = some 2
theorem rep_none {α : Type} (n p : Nat) : (List.replicate n (none : Option α)).getD p none = none := by
  rw [List.getD_eq_getElem?_getD, List.getElem?_replicate]; split <;> rfl
theorem lv_new (n p : Nat) : (new n).lv p = none := rep_none n p
theorem sn_new (n p : Nat) : (new n).sn p = none := rep_none n p
theorem cm_new (n p : Nat) : (new n).cm p = none := rep_none n p
theorem WF.new {n : Nat} (h1 : 1 ≤ n) (h5 : n ≤ 5) : (new n).WF := by
  refine ⟨by simpa [DS.new] using h1, by simpa [DS.new] using h5, by simp [DS.new], by simp [DS.new], by simp [DS.new], ?_, ?_, ?_, ?_, ?_, ?_⟩ <;> intro p <;> simp only [lv_new, sn_new, cm_new] <;> simp
section
variable {s : DS} {p : Nat} {v : V}
theorem lv_come (q : Nat) : (s.come p v).lv q = s.lv q := rfl
theorem sn_come (q : Nat) : (s.come p v).sn q = s.sn q := rfl
theorem cm_come (q : Nat) : (s.come p v).cm q = if p = q ∧ p < s.came.length then some v else s.cm q := getD_set _ _ _ _
theorem WF.come (h : s.WF) : (s.come p v).WF := by
  refine ⟨h.n1, h.n5, by simp [DS.come, h.lc], h.lh, h.ls, h.vals, fun q hq => ?_, h.snv, h.lok, h.z2, h.s2⟩
  rw [cm_come]
  split
  · simp
  · exact h.cmv q hq
theorem stg_lt (s : DS) (p : Nat) : s.stg p ≤ 3 := by
  unfold stg stgOf
  split
  · omega
  · split
    · split <;> omega
    · omega
theorem stg0 : s.stg p = 0 ↔ s.lv p = none := by
  unfold stg stgOf
  cases s.lv p with
  | none => simp
  | some i => simp only; split <;> (try split) <;> simp
theorem stg1 : s.stg p = 1 ↔ s.lv p = some 1 ∧ s.sn p = none := by
  unfold stg stgOf
  cases s.lv p with
  | none => simp
  | some i =>
    simp only
    cases s.sn p <;> by_cases hi : i = 1 <;> simp [hi]
theorem stg2 : s.stg p = 2 ↔ s.lv p = some 1 ∧ s.sn p ≠ none := by
  unfold stg stgOf
  cases s.lv p with
  | none => simp
  | some i =>
    simp only
    cases s.sn p <;> by_cases hi : i = 1 <;> simp [hi]
theorem stg3 : s.stg p = 3 ↔ ∃ x, s.lv p = some x ∧ x ≠ 1 := by
  unfold stg stgOf
  cases s.lv p with
  | none => simp
  | some i =>
    simp only
    cases s.sn p <;> by_cases hi : i = 1 <;> simp [hi]
/-- the step by its stage -/
theorem step0 (h : s.stg p = 0) : s.step p = { s with deeds := s.deeds ++ [⟨true, p, .str "level"⟩], lev := s.lev.set p (some 1) } := by simp only [step, h]
theorem step1 (h : s.stg p = 1) : s.step p = { s with deeds := s.deeds ++ [⟨true, p, .str "look"⟩], seen := s.seen.set p (some s.lev) } := by simp only [step, h]
theorem step2 (h : s.stg p = 2) : s.step p = { s with deeds := s.deeds ++ [⟨true, p, .str "level"⟩], lev := s.lev.set p (some (s.wr p)) } := by simp only [step, h]
theorem step3 (h : s.stg p = 3) : s.step p = if some 1 ∈ s.lev then { s with deeds := s.deeds ++ [⟨true, p, .str "ask"⟩] } else { s with deeds := s.deeds ++ [⟨true, p, .str "ask"⟩], heard := s.heard.set p (s.cm s.two) } := by simp only [step, h]
theorem told0 (h : s.stg p = 0) : s.told p = .level 1 := by simp only [told, h]
theorem told1 (h : s.stg p = 1) : s.told p = .look s.lev := by simp only [told, h]
theorem told2 (h : s.stg p = 2) : s.told p = .level (s.wr p) := by simp only [told, h]
theorem told3 (h : s.stg p = 3) : s.told p = if some 1 ∈ s.lev then .wait else .word ((s.cm s.two).getD .non) := by simp only [told, h]
theorem cm_step (q : Nat) : (s.step p).cm q = s.cm q := by
  unfold step
  split <;> (try split) <;> rfl
theorem came_step : (s.step p).came = s.came := by
  unfold step
  split <;> (try split) <;> rfl
theorem len_step : (s.step p).lev.length = s.lev.length := by
  unfold step
  split <;> (try split) <;> simp
theorem two_lev (h : ∃ q, s.lv q = some 2) : s.two < s.lev.length ∧ s.lv s.two = some 2 ∧ ∀ m, m < s.two → s.lv m ≠ some 2 := by
  obtain ⟨q, hq⟩ := h
  obtain ⟨hl, he⟩ := getD_none_of hq
  have hm : ∃ x ∈ s.lev, isTwo x = true := ⟨some 2, List.mem_of_getElem? he, by simp [isTwo]⟩
  have h1 : s.two < s.lev.length := List.findIdx_lt_length_of_exists hm
  refine ⟨h1, ?_, fun m hlt => ?_⟩
  · have e : isTwo s.lev[s.two] = true := List.findIdx_getElem (p := isTwo) (xs := s.lev) (w := h1)
    have e' : s.lev[s.two] = some 2 := by simpa [isTwo] using e
    exact getD_of (by rw [List.getElem?_eq_getElem h1, e'])
  · intro z
    have hml : m < s.lev.length := by omega
    have e : isTwo s.lev[m] = false := by simpa using List.not_of_lt_findIdx (p := isTwo) (xs := s.lev) hlt
    have z' : s.lev[m] = some 2 := by
      obtain ⟨_, z2⟩ := getD_none_of z
      rw [List.getElem?_eq_getElem hml] at z2
      exact Option.some.inj z2
    rw [z'] at e
    simp [isTwo] at e
theorem findIdx_ext {α : Type} {f g : α → Bool} : ∀ {l m : List α}, l.length = m.length → (∀ (i : Nat) x y, l[i]? = some x → m[i]? = some y → f x = g y) → l.findIdx f = m.findIdx g
  | [], [], _, _ => rfl
  | [], _ :: _, h, _ => by simp at h
  | _ :: _, [], h, _ => by simp at h
  | a :: l, b :: m, h, hp => by
    have e := hp 0 a b rfl rfl
    rw [List.findIdx_cons, List.findIdx_cons, e, findIdx_ext (l := l) (m := m) (by simpa using h) fun i x y hx hy => hp (i + 1) x y (by simpa using hx) (by simpa using hy)]
theorem two_same {s t : DS} (hl : t.lev.length = s.lev.length) (h : ∀ q, t.lv q = some 2 ↔ s.lv q = some 2) : t.two = s.two := by
  refine findIdx_ext hl fun i x y hx hy => ?_
  have h1 := h i
  rw [show t.lv i = x from getD_of hx, show s.lv i = y from getD_of hy] at h1
  unfold isTwo
  exact decide_eq_decide.mpr h1
theorem lv_step0 (h : s.stg p = 0) (hp : p < s.lev.length) (q : Nat) : (s.step p).lv q = if p = q then some 1 else s.lv q := by
  rw [step0 h]
  show (s.lev.set p (some 1)).getD q none = _
  rw [getD_set]
  by_cases e : p = q <;> simp [e, hp, lv] <;> omega
theorem lv_step1 (h : s.stg p = 1) (q : Nat) : (s.step p).lv q = s.lv q := by rw [step1 h]; rfl
theorem lv_step2 (h : s.stg p = 2) (hp : p < s.lev.length) (q : Nat) : (s.step p).lv q = if p = q then some (s.wr p) else s.lv q := by
  rw [step2 h]
  show (s.lev.set p (some (s.wr p))).getD q none = _
  rw [getD_set]
  by_cases e : p = q
  · subst e; simp [hp]
  · simp [e, lv]
theorem lv_step3 (h : s.stg p = 3) (q : Nat) : (s.step p).lv q = s.lv q := by rw [step3 h]; split <;> rfl
theorem sn_step1 (h : s.stg p = 1) (hp : p < s.seen.length) (q : Nat) : (s.step p).sn q = if p = q then some s.lev else s.sn q := by
  rw [step1 h]
  show (s.seen.set p (some s.lev)).getD q none = _
  rw [getD_set]
  by_cases e : p = q
  · subst e; simp [hp]
  · simp [e, sn]
theorem sn_stepN (h : s.stg p ≠ 1) (q : Nat) : (s.step p).sn q = s.sn q := by
  unfold step
  split <;> (try split) <;> first | rfl | (rename_i e; exact absurd e h)
theorem wr02 (s : DS) (p : Nat) : s.wr p = 0 ∧ s.saw p = true ∨ s.wr p = 2 ∧ s.saw p = false := by
  unfold wr
  cases s.saw p <;> simp
theorem saw_iff : s.saw p = true ↔ ∃ l, s.sn p = some l ∧ some 2 ∈ l := by
  unfold saw
  rw [decide_eq_true_iff]
  cases s.sn p with
  | none => simp
  | some l => simp
theorem lt_of_cm (h : s.WF) (hc : s.cm p ≠ none) : p < s.lev.length := by
  cases e : s.cm p with
  | none => exact absurd e hc
  | some v => rw [← h.lc]; exact (getD_none_of e).1
theorem has2_step (h : s.WF) (hc : s.cm p ≠ none) (h2 : ∃ q, s.lv q = some 2) : ∃ q, (s.step p).lv q = some 2 := by
  obtain ⟨q, hq⟩ := h2
  refine ⟨q, ?_⟩
  have hp := lt_of_cm h hc
  have := stg_lt s p
  rcases (show s.stg p = 0 ∨ s.stg p = 1 ∨ s.stg p = 2 ∨ s.stg p = 3 by omega) with e | e | e | e
  · rw [lv_step0 e hp, if_neg]; exact hq
    intro z; subst z; rw [stg0.mp e] at hq; cases hq
  · rw [lv_step1 e]; exact hq
  · rw [lv_step2 e hp, if_neg]; exact hq
    intro z; subst z; rw [(stg2.mp e).1] at hq; cases hq
  · rw [lv_step3 e]; exact hq
theorem WF.step (h : s.WF) (hc : s.cm p ≠ none) : (s.step p).WF := by
  have hp := lt_of_cm h hc
  have hps : p < s.seen.length := by rw [h.ls]; exact hp
  have h4 := stg_lt s p
  have hlen := len_step (s := s) (p := p)
  have k2 := has2_step h hc
  have lens : (s.step p).came.length = (s.step p).lev.length ∧ (s.step p).heard.length = (s.step p).lev.length ∧ (s.step p).seen.length = (s.step p).lev.length := by
    rw [hlen, came_step]
    refine ⟨h.lc, ?_, ?_⟩
    · unfold DS.step; split <;> (try split) <;> simp [h.lh]
    · unfold DS.step; split <;> (try split) <;> simp [h.ls]
  rcases (show s.stg p = 0 ∨ s.stg p = 1 ∨ s.stg p = 2 ∨ s.stg p = 3 by omega) with e | e | e | e
  · have L := lv_step0 e hp
    have S : ∀ q, (s.step p).sn q = s.sn q := sn_stepN (by omega)
    refine ⟨by rw [hlen]; exact h.n1, by rw [hlen]; exact h.n5, lens.1, lens.2.1, lens.2.2, fun q x hq => ?_, fun q hq => ?_, fun q hq => ?_, fun q x hq hx => ?_, fun q hq => ?_, fun q l hq hl => ?_⟩
    · rw [L] at hq; split at hq
      · cases hq; omega
      · exact h.vals q x hq
    · rw [cm_step]; rw [L] at hq; split at hq
      · rename_i z; subst z; exact hc
      · exact h.cmv q hq
    · rw [S] at hq; rw [L]; split
      · simp
      · exact h.snv q hq
    · rw [S]; rw [L] at hq; split at hq
      · cases hq; exact absurd rfl hx
      · exact h.lok q x hq hx
    · rw [L] at hq; split at hq
      · cases hq
      · exact k2 (h.z2 q hq)
    · rw [S] at hq; exact k2 (h.s2 q l hq hl)
  · have L := lv_step1 e
    have S := sn_step1 e hps
    obtain ⟨e1, e2⟩ := stg1.mp e
    refine ⟨by rw [hlen]; exact h.n1, by rw [hlen]; exact h.n5, lens.1, lens.2.1, lens.2.2, fun q x hq => h.vals q x (by rw [← L]; exact hq), fun q hq => ?_, fun q hq => ?_, fun q x hq hx => ?_, fun q hq => ?_, fun q l hq hl => ?_⟩
    · rw [cm_step]; exact h.cmv q (by rw [← L]; exact hq)
    · rw [L]; rw [S] at hq; split at hq
      · rename_i z; subst z; rw [e1]; simp
      · exact h.snv q hq
    · rw [S]; split
      · simp
      · exact h.lok q x (by rw [← L]; exact hq) hx
    · exact k2 (h.z2 q (by rw [← L]; exact hq))
    · rw [S] at hq; split at hq
      · cases hq; exact k2 (mem_getD.mp hl)
      · exact k2 (h.s2 q l hq hl)
  · have L := lv_step2 e hp
    have S : ∀ q, (s.step p).sn q = s.sn q := sn_stepN (by omega)
    obtain ⟨e1, e2⟩ := stg2.mp e
    have w2 := wr02 s p
    refine ⟨by rw [hlen]; exact h.n1, by rw [hlen]; exact h.n5, lens.1, lens.2.1, lens.2.2, fun q x hq => ?_, fun q hq => ?_, fun q hq => ?_, fun q x hq hx => ?_, fun q hq => ?_, fun q l hq hl => ?_⟩
    · rw [L] at hq; split at hq
      · cases hq; omega
      · exact h.vals q x hq
    · rw [cm_step]; rw [L] at hq; split at hq
      · rename_i z; subst z; exact hc
      · exact h.cmv q hq
    · rw [S] at hq; rw [L]; split
      · simp
      · exact h.snv q hq
    · rw [S]; rw [L] at hq; split at hq
      · rename_i z; subst z; exact e2
      · exact h.lok q x hq hx
    · rw [L] at hq; split at hq
      · rename_i z; subst z
        rcases w2 with ⟨_, w⟩ | ⟨w, _⟩
        · obtain ⟨l, hl, hl2⟩ := saw_iff.mp w
          exact k2 (h.s2 _ l hl hl2)
        · rw [w] at hq; cases hq
      · exact k2 (h.z2 q hq)
    · rw [S] at hq; exact k2 (h.s2 q l hq hl)
  · have L := lv_step3 e
    have S : ∀ q, (s.step p).sn q = s.sn q := sn_stepN (by omega)
    exact ⟨by rw [hlen]; exact h.n1, by rw [hlen]; exact h.n5, lens.1, lens.2.1, lens.2.2, fun q x hq => h.vals q x (by rw [← L]; exact hq), fun q hq => by rw [cm_step]; exact h.cmv q (by rw [← L]; exact hq), fun q hq => by rw [L]; exact h.snv q (by rw [← S]; exact hq),
      fun q x hq hx => by rw [S]; exact h.lok q x (by rw [← L]; exact hq) hx, fun q hq => k2 (h.z2 q (by rw [← L]; exact hq)), fun q l hq hl => k2 (h.s2 q l (by rw [← S]; exact hq) hl)⟩
/-- who asks while nobody stands at 1 finds somebody at 2, who came -/
theorem ask_two (h : s.WF) (e : s.stg p = 3) : ∃ q, s.lv q = some 2 := by
  obtain ⟨x, hx, h1⟩ := stg3.mp e
  rcases h.vals p x hx with rfl | rfl | rfl
  · exact h.z2 p hx
  · exact absurd rfl h1
  · exact ⟨p, hx⟩
theorem two_came (h : s.WF) (e : ∃ q, s.lv q = some 2) : ∃ v, s.cm s.two = some v := by
  obtain ⟨_, h2, _⟩ := two_lev e
  cases c : s.cm s.two with
  | none => exact absurd c (h.cmv _ (by rw [h2]; simp))
  | some v => exact ⟨v, rfl⟩
/-! ### going on -/
theorem stg_step (h : s.WF) (hc : s.cm p ≠ none) (q : Nat) : (s.step p).stg q = if p = q then min 3 (s.stg p + 1) else s.stg q := by
  have hp := lt_of_cm h hc
  have hps : p < s.seen.length := by rw [h.ls]; exact hp
  have h4 := stg_lt s p
  rcases (show s.stg p = 0 ∨ s.stg p = 1 ∨ s.stg p = 2 ∨ s.stg p = 3 by omega) with e | e | e | e
  · by_cases z : p = q
    · subst z
      have hsn : s.sn p = none := by
        cases c : s.sn p with
        | none => rfl
        | some l => exact absurd (stg0.mp e) (h.snv p (by rw [c]; simp))
      rw [if_pos rfl, e]
      exact stg1.mpr ⟨by rw [lv_step0 e hp, if_pos rfl], by rw [sn_stepN (by omega)]; exact hsn⟩
    · rw [if_neg z]; unfold stg; rw [lv_step0 e hp, if_neg z, sn_stepN (by omega)]
  · by_cases z : p = q
    · subst z
      rw [if_pos rfl, e]
      exact stg2.mpr ⟨by rw [lv_step1 e]; exact (stg1.mp e).1, by rw [sn_step1 e hps, if_pos rfl]; simp⟩
    · rw [if_neg z]; unfold stg; rw [lv_step1 e, sn_step1 e hps, if_neg z]
  · by_cases z : p = q
    · subst z
      rw [if_pos rfl, e]
      refine stg3.mpr ⟨s.wr p, by rw [lv_step2 e hp, if_pos rfl], ?_⟩
      rcases wr02 s p with ⟨w, _⟩ | ⟨w, _⟩ <;> rw [w] <;> decide
    · rw [if_neg z]; unfold stg; rw [lv_step2 e hp, if_neg z, sn_stepN (by omega)]
  · have : (s.step p).stg q = s.stg q := by unfold stg; rw [lv_step3 e, sn_stepN (by omega)]
    rw [this]
    by_cases z : p = q
    · subst z; rw [if_pos rfl, e]; rfl
    · rw [if_neg z]
theorem stg_come (q : Nat) : (s.come p v).stg q = s.stg q := rfl
theorem no_one (h : ∀ q, s.stg q = 0 ∨ s.stg q = 3) : some 1 ∉ s.lev := fun m => by
  obtain ⟨q, hq⟩ := mem_getD.mp m
  have hq : s.lv q = some 1 := hq
  rcases h q with e | e
  · rw [stg0.mp e] at hq; cases hq
  · obtain ⟨x, hx, hx1⟩ := stg3.mp e
    rw [hq] at hx
    cases hx
    exact hx1 rfl
end
end DS
end Fp
/-! A door in the heap; promises of the program's defs -/
namespace Fp
open PySem PySem.Spec PyProof.Rows L2
def dfl (n : Int) (a b c e f : Addr) : List (Str × V) := [("many", .int n), ("came", .ref a), ("levels", .ref b), ("heard", .ref c), ("seen", .ref e), ("deeds", .ref f)]
structure DC (K : PySem.W.Frag) (C : Addr) : Prop where
  cl : Cls K C
  nM : NoAttr K C "many"
  nC : NoAttr K C "came"
  nL : NoAttr K C "levels"
  nH : NoAttr K C "heard"
  nS : NoAttr K C "seen"
  nD : NoAttr K C "deeds"
section
variable {n n' : Int} {a b c e f a' b' c' e' f' : Addr}
theorem d_many : (dfl n a b c e f).lookup ("many" : Str) = some (.int n) := by kernel_rfl
theorem d_came : (dfl n a b c e f).lookup ("came" : Str) = some (.ref a) := by kernel_rfl
theorem d_lev : (dfl n a b c e f).lookup ("levels" : Str) = some (.ref b) := by kernel_rfl
theorem d_heard : (dfl n a b c e f).lookup ("heard" : Str) = some (.ref c) := by kernel_rfl
theorem d_seen : (dfl n a b c e f).lookup ("seen" : Str) = some (.ref e) := by kernel_rfl
theorem d_deeds : (dfl n a b c e f).lookup ("deeds" : Str) = some (.ref f) := by kernel_rfl
theorem dp_came : putF "came" (.ref a') (dfl n a b c e f) = dfl n a' b c e f := by kernel_rfl
theorem dp_lev : putF "levels" (.ref b') (dfl n a b c e f) = dfl n a b' c e f := by kernel_rfl
theorem dp_heard : putF "heard" (.ref c') (dfl n a b c e f) = dfl n a b c' e f := by kernel_rfl
theorem dp_seen : putF "seen" (.ref e') (dfl n a b c e f) = dfl n a b c e' f := by kernel_rfl
theorem dp_deeds : putF "deeds" (.ref f') (dfl n a b c e f) = dfl n a b c e f' := by kernel_rfl
theorem d_all : putF "deeds" (.ref f) (putF "seen" (.ref e) (putF "heard" (.ref c) (putF "levels" (.ref b) (putF "came" (.ref a) (putF "many" (.int n) []))))) = dfl n a b c e f := by kernel_rfl
theorem no_check : (dfl n a b c e f).lookup ("check_player" : Str) = none := by kernel_rfl
theorem no_next : (dfl n a b c e f).lookup ("next" : Str) = none := by kernel_rfl
theorem no_shows : (dfl n a b c e f).lookup ("shows_level" : Str) = none := by kernel_rfl
theorem no_asks : (dfl n a b c e f).lookup ("asks" : Str) = none := by kernel_rfl
theorem no_step : (dfl n a b c e f).lookup ("step" : Str) = none := by kernel_rfl
theorem no_come : (dfl n a b c e f).lookup ("come" : Str) = none := by kernel_rfl
theorem no_copy : (dfl n a b c e f).lookup ("copy" : Str) = none := by kernel_rfl
end
/-- (VALUE,), or None -/
def One (H : Hp) (x : V) : Option V → Prop
  | none => x = .non
  | some v => ∃ p, x = .ref p ∧ H p = some (.tup [v])
def SeenAt (H : Hp) (x : V) : Option (List Lv) → Prop
  | none => x = .non
  | some l => ∃ p, x = .ref p ∧ TF H p (l.map lvV)
def DeedAt (H : Hp) (x : V) (d : Deed) : Prop := ∃ p, x = .ref p ∧ H p = some (.tup [.str (if d.stp then "step" else "come"), .int (d.p : Nat), d.x])
theorem One.mono {H H' : Hp} (g : TK H H') {x : V} {o : Option V} (h : One H x o) : One H' x o := by
  cases o with
  | none => exact h
  | some v => obtain ⟨p, e, q⟩ := h; exact ⟨p, e, g.t q⟩
theorem SeenAt.mono {H H' : Hp} (g : TK H H') {x : V} {o : Option (List Lv)} (h : SeenAt H x o) : SeenAt H' x o := by
  cases o with
  | none => exact h
  | some v => obtain ⟨p, e, q⟩ := h; exact ⟨p, e, g.f q⟩
theorem DeedAt.mono {H H' : Hp} (g : TK H H') {x : V} {o : Deed} (h : DeedAt H x o) : DeedAt H' x o := by
  obtain ⟨p, e, q⟩ := h; exact ⟨p, e, g.t q⟩
theorem pr_imp {α β : Type} {F G : α → β → Prop} (f : ∀ a b, F a b → G a b) : ∀ {l : List α} {m : List β}, Paired F l m → Paired G l m
  | _, _, .nil => .nil
  | _, _, .cons a b => .cons (f _ _ a) (pr_imp f b)
theorem pr_len {α β : Type} {F : α → β → Prop} : ∀ {l : List α} {m : List β}, Paired F l m → l.length = m.length
  | _, _, .nil => rfl
  | _, _, .cons _ b => congrArg (· + 1) (pr_len b)
theorem pr_at {α β : Type} {F : α → β → Prop} : ∀ {l : List α} {m : List β} {i : Nat} {y : β}, Paired F l m → m[i]? = some y → ∃ x, l[i]? = some x ∧ F x y
  | _, _, 0, _, .cons h _, e => by cases e; exact ⟨_, rfl, h⟩
  | _, _, i + 1, x, .cons _ r, e => pr_at (i := i) r e
  | _, _, _, _, .nil, e => by cases e
theorem pr_set {α β : Type} {F : α → β → Prop} {x : α} {y : β} (h : F x y) : ∀ {l : List α} {m : List β} (i : Nat), Paired F l m → Paired F (l.set i x) (m.set i y)
  | _, _, _, .nil => .nil
  | _, _, 0, .cons _ r => .cons h r
  | _, _, i + 1, .cons a r => .cons a (pr_set h i r)
theorem pr_snoc {α β : Type} {F : α → β → Prop} {a : α} {b : β} (h : F a b) : ∀ {l : List α} {m : List β}, Paired F l m → Paired F (l ++ [a]) (m ++ [b])
  | _, _, .nil => .cons h .nil
  | _, _, .cons k r => .cons k (pr_snoc h r)
theorem pr_rep {α β : Type} {F : α → β → Prop} {x : α} {y : β} (h : F x y) : ∀ n : Nat, Paired F (List.replicate n x) (List.replicate n y)
  | 0 => .nil
  | n + 1 => .cons h (pr_rep h n)
/-- values that may be brought -/
def Good (H : Hp) (v : V) : Prop := ∃ d, VAt H v d ∧ VOk 3 d
theorem Good.mono {H H' : Hp} (g : TK H H') {v : V} (h : Good H v) : Good H' v := by obtain ⟨d, a, b⟩ := h; exact ⟨d, a.mono g, b⟩
structure DoorIn (C : Addr) (H : Hp) (d : Addr) (s : DS) (dx a b c e f : Addr) (cv hv sv dv : List V) : Prop where
  obj : H d = some (.ins C dx (dfl (s.lev.length : Nat) a b c e f))
  own : H dx = some (.own d)
  came : TF H a cv
  cameP : Paired (One H) cv s.came
  lev : TF H b (s.lev.map lvV)
  heard : TF H c hv
  heardP : Paired (One H) hv s.heard
  seen : TF H e sv
  seenP : Paired (SeenAt H) sv s.seen
  deeds : H f = some (.tup dv)
  deedsP : Paired (DeedAt H) dv s.deeds
  good : ∀ p v, s.cm p = some v → Good H v
  wf : s.WF
def DoorAt (C : Addr) (H : Hp) (d : Addr) (s : DS) : Prop := ∃ dx a b c e f cv hv sv dv, DoorIn C H d s dx a b c e f cv hv sv dv
theorem DoorIn.mono {C : Addr} {H H' : Hp} {d : Addr} {s : DS} {dx a b c e f : Addr} {cv hv sv dv : List V} (h : DoorIn C H d s dx a b c e f cv hv sv dv) (g : TK H H') (g1 : ∀ o, H d = some o → H' d = some o) (g2 : H' dx = H dx) : DoorIn C H' d s dx a b c e f cv hv sv dv :=
  ⟨g1 _ h.obj, by rw [g2]; exact h.own, g.f h.came, pr_imp (fun _ _ => One.mono g) h.cameP, g.f h.lev, g.f h.heard, pr_imp (fun _ _ => One.mono g) h.heardP, g.f h.seen, pr_imp (fun _ _ => SeenAt.mono g) h.seenP, g.t h.deeds, pr_imp (fun _ _ => DeedAt.mono g) h.deedsP, fun p v hv => (h.good p v hv).mono g, h.wf⟩
theorem DoorAt.same {C : Addr} {H H' : Hp} {d : Addr} {s : DS} (h : DoorAt C H d s) (g : Same H H') : DoorAt C H' d s := by
  obtain ⟨dx, a, b, c, e, f, cv, hv, sv, dv, h⟩ := h
  exact ⟨dx, a, b, c, e, f, cv, hv, sv, dv, h.mono (.of g) (fun o q => g _ _ q) (by rw [g _ _ h.own]; exact h.own.symm)⟩
/-- what is not an instance, an own dict or a tuple may change -/
theorem DoorAt.but {C : Addr} {H H' : Hp} {d : Addr} {s : DS} {S : List Addr} (h : DoorAt C H d s) (g : But S H H') (n : ∀ x ∈ S, (∃ xs, H x = some (.lst xs)) ∨ ∃ kvs, H x = some (.dK kvs)) : DoorAt C H' d s := by
  obtain ⟨dx, a, b, c, e, f, cv, hv, sv, dv, h⟩ := h
  have nd : d ∉ S := fun m => by
    rcases n d m with ⟨xs, z⟩ | ⟨xs, z⟩ <;> rw [h.obj] at z <;> cases z
  have nx : dx ∉ S := fun m => by
    rcases n dx m with ⟨xs, z⟩ | ⟨xs, z⟩ <;> rw [h.own] at z <;> cases z
  refine ⟨dx, a, b, c, e, f, cv, hv, sv, dv, h.mono (TK.but g fun x m z => ?_) (fun o q => g _ _ nd q) (by rw [g _ _ nx h.own]; exact h.own.symm)⟩
  rcases n x m with ⟨ys, z'⟩ | ⟨ys, z'⟩ <;> rw [z'] at z <;> exact z
theorem DoorAt.wf {C : Addr} {H : Hp} {d : Addr} {s : DS} (h : DoorAt C H d s) : s.WF := by
  obtain ⟨dx, a, b, c, e, f, cv, hv, sv, dv, h⟩ := h
  exact h.wf
theorem getD_at {α : Type} {l : List (Option α)} {p : Nat} (h : p < l.length) : l[p]? = some (l.getD p none) := by
  rw [List.getElem?_eq_getElem h]; exact congrArg some (getD_of (List.getElem?_eq_getElem h)).symm
theorem DS.WF.acm {s : DS} (W : s.WF) {p : Nat} (h : p < s.lev.length) : s.came[p]? = some (s.cm p) := getD_at (by rw [W.lc]; exact h)
theorem DS.WF.asn {s : DS} (W : s.WF) {p : Nat} (h : p < s.lev.length) : s.seen[p]? = some (s.sn p) := getD_at (by rw [W.ls]; exact h)
theorem alv {s : DS} {p : Nat} (h : p < s.lev.length) : s.lev[p]? = some (s.lv p) := getD_at h
theorem alvV {s : DS} {p : Nat} (h : p < s.lev.length) : (s.lev.map lvV)[p]? = some (lvV (s.lv p)) := by rw [List.getElem?_map, alv h]; rfl
theorem One.is {H : Hp} {x : V} {o : Option V} (h : One H x o) : decide (x = .non) = o.isNone := by
  cases o with
  | none => rw [show x = .non from h]; rfl
  | some v => obtain ⟨p, e, _⟩ := h; rw [e]; rfl
theorem SeenAt.is {H : Hp} {x : V} {o : Option (List Lv)} (h : SeenAt H x o) : decide (x = .non) = o.isNone := by
  cases o with
  | none => rw [show x = .non from h]; rfl
  | some v => obtain ⟨p, e, _⟩ := h; rw [e]; rfl
theorem lv_flat : ∀ l : List Lv, (l.map lvV).all flatV = true
  | [] => rfl
  | none :: l => by rw [List.map_cons, List.all_cons, lv_flat l]; rfl
  | some i :: l => by rw [List.map_cons, List.all_cons, lv_flat l]; rfl
theorem eqV_lv (i : Int) (a : Lv) : eqV (lvV a) (.int i) = decide (a = some i) := by
  cases a with
  | none => rfl
  | some j =>
    show (j == i) = _
    rw [Bool.eq_iff_iff]; simp
theorem inV_lv (i : Int) (l : List Lv) : inV (.int i) (l.map lvV) = decide (some i ∈ l) := by
  unfold inV
  rw [List.any_map, Bool.eq_iff_iff, List.any_eq_true, decide_eq_true_iff]
  constructor
  · rintro ⟨x, hx, e⟩
    have e' : eqV (lvV x) (.int i) = true := e
    rw [eqV_lv, decide_eq_true_iff] at e'
    exact e' ▸ hx
  · intro h
    exact ⟨some i, h, by show eqV (lvV (some i)) (.int i) = true; rw [eqV_lv]; simp⟩
def DS.log (s : DS) (p : Nat) : DS := { s with deeds := s.deeds ++ [⟨true, p, .str (DS.kindOf (s.stg p))⟩] }
theorem DS.log_step (s : DS) (p : Nat) : { (s.log p).step p with deeds := (s.log p).deeds } = s.step p := by
  have h4 := DS.stg_lt s p
  have e0 : (s.log p).stg p = s.stg p := rfl
  rcases (show s.stg p = 0 ∨ s.stg p = 1 ∨ s.stg p = 2 ∨ s.stg p = 3 by omega) with e | e | e | e
  · rw [DS.step0 e, DS.step0 (e0.trans e)]; unfold DS.log; rw [e]; rfl
  · rw [DS.step1 e, DS.step1 (e0.trans e)]; unfold DS.log; rw [e]; rfl
  · rw [DS.step2 e, DS.step2 (e0.trans e)]; unfold DS.log; rw [e]; rfl
  · rw [DS.step3 e, DS.step3 (e0.trans e)]; unfold DS.log; rw [e]; split <;> rfl
theorem DS.WF.log {s : DS} {p : Nat} (W : s.WF) : (s.log p).WF := ⟨W.n1, W.n5, W.lc, W.lh, W.ls, W.vals, W.cmv, W.snv, W.lok, W.z2, W.s2⟩
/-- a tuple, of either kind -/
def TT (H : Hp) (a : Addr) (xs : List V) : Prop := H a = some (.tup xs) ∨ TF H a xs
theorem TT.sq {K : PySem.W.Frag} {H : Hp} {a : Addr} {xs : List V} (h : TT H a xs) : SqT K H a xs := h.elim (fun h => .of h) fun h => h.sq
theorem TK.tt {H H' : Hp} (g : TK H H') {a : Addr} {xs : List V} (h : TT H a xs) : TT H' a xs := h.imp (fun h => g.t h) fun h => g.f h
/-- what a step tells -/
def ToldAt (H : Hp) (t : Addr) : Told → Prop
  | .level i => H t = some (.tup [.str "level", .int i])
  | .look l => ∃ q, H t = some (.tup [.str "look", .ref q]) ∧ TT H q (l.map lvV)
  | .wait => H t = some (.tup [.str "wait"])
  | .word v => H t = some (.tup [.str "word", v])
theorem ToldAt.mono {H H' : Hp} (g : TK H H') {t : Addr} {x : Told} (h : ToldAt H t x) : ToldAt H' t x := by
  cases x with
  | level i => exact g.t h
  | look l => obtain ⟨q, a, b⟩ := h; exact ⟨q, g.t a, g.tt b⟩
  | wait => exact g.t h
  | word v => exact g.t h
/-! ### the law's own door -/
def odict (l1 l2 l3 l4 l5 : Addr) (k : Int) : List (Key × V) := [(.inr "came", .ref l1), (.inr "levels", .ref l2), (.inr "stages", .ref l3), (.inr "won", .ref l4), (.inr "heard", .ref l5), (.inr "steps", .int k)]
section
variable {l1 l2 l3 l4 l5 : Addr} {k k' : Int}
theorem o_came : valV (odict l1 l2 l3 l4 l5 k) (.inr "came") = some (.ref l1) := by kernel_rfl
theorem o_lev : valV (odict l1 l2 l3 l4 l5 k) (.inr "levels") = some (.ref l2) := by kernel_rfl
theorem o_stg : valV (odict l1 l2 l3 l4 l5 k) (.inr "stages") = some (.ref l3) := by kernel_rfl
theorem o_won : valV (odict l1 l2 l3 l4 l5 k) (.inr "won") = some (.ref l4) := by kernel_rfl
theorem o_heard : valV (odict l1 l2 l3 l4 l5 k) (.inr "heard") = some (.ref l5) := by kernel_rfl
theorem o_steps : valV (odict l1 l2 l3 l4 l5 k) (.inr "steps") = some (.int k) := by kernel_rfl
theorem op_steps : putK (odict l1 l2 l3 l4 l5 k) (.inr "steps") (.int k') = odict l1 l2 l3 l4 l5 k' := by kernel_rfl
theorem o_merge : mergeK [] (odict l1 l2 l3 l4 l5 k) = odict l1 l2 l3 l4 l5 k := by kernel_rfl
theorem og_came {H : Hp} {o : Addr} (h : H o = some (.dK (odict l1 l2 l3 l4 l5 k))) : DGet H o (.str "came") (some (.ref l1)) := by
  have := DGet.k (k := .inr "came") h; rw [o_came] at this; exact this
theorem og_lev {H : Hp} {o : Addr} (h : H o = some (.dK (odict l1 l2 l3 l4 l5 k))) : DGet H o (.str "levels") (some (.ref l2)) := by
  have := DGet.k (k := .inr "levels") h; rw [o_lev] at this; exact this
theorem og_stg {H : Hp} {o : Addr} (h : H o = some (.dK (odict l1 l2 l3 l4 l5 k))) : DGet H o (.str "stages") (some (.ref l3)) := by
  have := DGet.k (k := .inr "stages") h; rw [o_stg] at this; exact this
theorem og_won {H : Hp} {o : Addr} (h : H o = some (.dK (odict l1 l2 l3 l4 l5 k))) : DGet H o (.str "won") (some (.ref l4)) := by
  have := DGet.k (k := .inr "won") h; rw [o_won] at this; exact this
theorem og_heard {H : Hp} {o : Addr} (h : H o = some (.dK (odict l1 l2 l3 l4 l5 k))) : DGet H o (.str "heard") (some (.ref l5)) := by
  have := DGet.k (k := .inr "heard") h; rw [o_heard] at this; exact this
theorem og_steps {H : Hp} {o : Addr} (h : H o = some (.dK (odict l1 l2 l3 l4 l5 k))) : DGet H o (.str "steps") (some (.int k)) := by
  have := DGet.k (k := .inr "steps") h; rw [o_steps] at this; exact this
theorem oput_steps {H : Hp} {o : Addr} (h : H o = some (.dK (odict l1 l2 l3 l4 l5 k))) : DPut H o (.str "steps") (.int k') (upd H o (.dK (odict l1 l2 l3 l4 l5 k'))) := by
  have := DPut.k (k := .inr "steps") (v := .int k') h (szt (by show 6 < _; decide)); rw [op_steps] at this; exact this
end
theorem ixn {n j : Nat} (h : j < n) : ixN n (j : Int) = some j := by
  unfold ixN
  rw [if_pos (by omega), if_pos (by omega)] <;> simp
def DS.won (s : DS) (p : Nat) : Bool := match s.sn p with
  | none => false
  | some l => !decide (some 2 ∈ l)
structure OwnIn (H : Hp) (o l1 l2 l3 l4 l5 : Addr) (s : DS) (cv hv : List V) (k : Int) : Prop where
  dict : H o = some (.dK (odict l1 l2 l3 l4 l5 k))
  came : H l1 = some (.lst cv)
  cameP : Paired (One H) cv s.came
  lev : H l2 = some (.lst (s.lev.map lvV))
  stg : H l3 = some (.lst ((List.range s.lev.length).map fun p => V.int (s.stg p : Nat)))
  won : H l4 = some (.lst ((List.range s.lev.length).map fun p => V.bl (s.won p)))
  heard : H l5 = some (.lst hv)
  heardP : Paired (One H) hv s.heard
  nd : [o, l1, l2, l3, l4, l5].Nodup
def OwnAt (H : Hp) (o : Addr) (L : List Addr) (s : DS) (k : Int) : Prop := ∃ l1 l2 l3 l4 l5 cv hv, L = [o, l1, l2, l3, l4, l5] ∧ OwnIn H o l1 l2 l3 l4 l5 s cv hv k
theorem OwnAt.but {H H' : Hp} {o : Addr} {L S : List Addr} {s : DS} {k : Int} (h : OwnAt H o L s k) (g : But S H H') (n : ∀ x ∈ S, x ∉ L) (tk : TK H H') : OwnAt H' o L s k := by
  obtain ⟨l1, l2, l3, l4, l5, cv, hv, rfl, h⟩ := h
  have w : ∀ x ∈ [o, l1, l2, l3, l4, l5], x ∉ S := fun x hx m => n x m hx
  exact ⟨l1, l2, l3, l4, l5, cv, hv, rfl, g _ _ (w o (by simp)) h.dict, g _ _ (w l1 (by simp)) h.came, pr_imp (fun _ _ => One.mono tk) h.cameP, g _ _ (w l2 (by simp)) h.lev, g _ _ (w l3 (by simp)) h.stg, g _ _ (w l4 (by simp)) h.won, g _ _ (w l5 (by simp)) h.heard, pr_imp (fun _ _ => One.mono tk) h.heardP, h.nd⟩
theorem OwnAt.same {H H' : Hp} {o : Addr} {L : List Addr} {s : DS} {k : Int} (h : OwnAt H o L s k) (g : Same H H') : OwnAt H' o L s k := h.but (S := []) (.of g) (fun _ m => by cases m) (.of g)
/-- what stands at its places -/
theorem OwnAt.kind {H : Hp} {o : Addr} {L : List Addr} {s : DS} {k : Int} (h : OwnAt H o L s k) : ∀ x ∈ L, (∃ xs, H x = some (.lst xs)) ∨ ∃ kvs, H x = some (.dK kvs) := by
  obtain ⟨l1, l2, l3, l4, l5, cv, hv, rfl, h⟩ := h
  intro x hx
  simp only [List.mem_cons, List.not_mem_nil, or_false] at hx
  rcases hx with rfl | rfl | rfl | rfl | rfl | rfl
  · exact .inr ⟨_, h.dict⟩
  · exact .inl ⟨_, h.came⟩
  · exact .inl ⟨_, h.lev⟩
  · exact .inl ⟨_, h.stg⟩
  · exact .inl ⟨_, h.won⟩
  · exact .inl ⟨_, h.heard⟩
theorem none0 {P : Program} {w : World} {K : PySem.W.Frag} {mg : Str → Option Value} {base : Heap} {f : Addr} {fd : FuncData} {sp : Sp} {ps : List Str} (h : ∀ vs H Q E, ¬ sp vs H Q E) : FnOk P w K mg base CX0 0 f fd ps sp :=
  ⟨fun vs H Q E q => absurd q (h vs H Q E), fun A outer s H args us vs Q E _ _ _ _ q => absurd q (h vs H Q E)⟩
/-! ### promises -/
def vc : Nat → Nat
  | 0 => 2
  | n + 1 => 2 + 3 * vc n
def spVal (n : Nat) : Sp := fun vs H Q _ => ∃ (p : Addr) (deep m : Nat), vs = [.ref p, .int deep] ∧ deep < n ∧ deep ≤ 2 ∧ m + vc deep ≤ 900000 ∧ PotAt H p m ∧ ∀ v d H', But [p] H H' → VAt H' v d → VOk deep d → PotAt H' p (m + vc deep) → Q v H'
def spODoor : Sp := fun vs H Q _ => ∃ n : Nat, vs = [.int n] ∧ n ≤ 5 ∧ ∀ o L H', Same H H' → (∀ x ∈ L, H x = none) → OwnAt H' o L (DS.new n) 0 → Q (.ref o) H'
def spOCome : Sp := fun vs H Q _ => ∃ (o : Addr) (L : List Addr) (p : Nat) (v : V) (s : DS) (k : Int), vs = [.ref o, .int p, v] ∧ OwnAt H o L s k ∧ p < s.lev.length ∧ s.WF ∧ ∀ H', But L H H' → OwnAt H' o L (s.come p v) k → Q .non H'
def spOStep : Sp := fun vs H Q _ => ∃ (o : Addr) (L : List Addr) (p : Nat) (s : DS) (k : Int), vs = [.ref o, .int p] ∧ OwnAt H o L s k ∧ s.cm p ≠ none ∧ s.WF ∧ ∀ t H', But L H H' → ToldAt H' t (s.told p) → OwnAt H' o L (s.step p) (k + 1) → Q (.ref t) H'
/-- a drawn deed: a coming (None as long as the player is here), or a step -/
def spDeed : Sp := fun vs H Q _ => ∃ (pt o : Addr) (L : List Addr) (s : DS) (k : Int) (m : Nat), vs = [.ref pt, .ref o] ∧ OwnAt H o L s k ∧ s.WF ∧ pt ∉ L ∧ PotAt H pt m ∧ m < 800000 ∧
  ∀ (t : Addr) (p : Nat) (H' : Hp), But [pt] H H' → PotAt H' pt (m + 100) → p < s.lev.length →
    ((s.cm p = none ∧ ∃ q v, H' t = some (.tup [.int (p : Nat), .ref q]) ∧ H' q = some (.tup [v]) ∧ ∃ d, VAt H' v d ∧ VOk 2 d) ∨ (s.cm p ≠ none ∧ H' t = some (.tup [.int (p : Nat), .non]))) → Q (.ref t) H'
def spIsWhole : Sp := fun vs H Q _ => ∃ i : Int, vs = [.int i] ∧ Q (.bl true) H
def spBelow : Sp := fun vs H Q _ => ∃ i n : Int, vs = [.int i, .int n] ∧ Q (.bl (decide (0 ≤ i ∧ i < n))) H
def spExch (K : PySem.W.Frag) : Sp := fun vs H Q _ => ∃ (a : Addr) (xs : List V) (p : Nat) (v : V), vs = [.ref a, .int p, v] ∧ SqT K H a xs ∧ p < xs.length ∧ xs.length ≤ 1000 ∧ ∀ q H', Same H H' → TF H' q (xs.set p v) → Q (.ref q) H'
def spSmW (n : Nat) : Sp := fun vs H Q _ => ∃ (v : V) (d : PyData) (m : Nat) (deep : Int), vs = [v, .int deep] ∧ VAt H v d ∧ VOk m d ∧ m < n ∧ (m : Int) ≤ deep ∧ ∀ H', Same H H' → Q (.bl true) H'
def spSmall : Sp := fun vs H Q _ => ∃ v : V, vs = [v] ∧ Good H v ∧ ∀ H', Same H H' → Q (.bl true) H'
def spDInit (C : Addr) : Sp := fun vs H Q _ => ∃ (d dx : Addr) (n : Nat), vs = [.ref d, .int n] ∧ 1 ≤ n ∧ n ≤ 5 ∧ H d = some (.ins C dx []) ∧ H dx = some (.own d) ∧
  ∀ H', But [d] H H' → DoorAt C H' d (DS.new n) → Q .non H'
def spCheck (C : Addr) : Sp := fun vs H Q _ => ∃ (d : Addr) (p : Nat) (s : DS), vs = [.ref d, .int p] ∧ DoorAt C H d s ∧ p < s.lev.length ∧ Q .non H
def optS : Option Str → V
  | none => .non
  | some z => .str z
def spNext (C : Addr) : Sp := fun vs H Q _ => ∃ (d : Addr) (p : Nat) (s : DS), vs = [.ref d, .int p] ∧ DoorAt C H d s ∧ p < s.lev.length ∧ ∀ H', Same H H' → Q (optS (s.next p)) H'
def spShows (C : Addr) : Sp := fun vs H Q _ => ∃ (d : Addr) (p : Nat) (s : DS), vs = [.ref d, .int p] ∧ DoorAt C H d s ∧ p < s.lev.length ∧ (s.stg p = 0 ∨ s.stg p = 2) ∧ s.cm p ≠ none ∧
  ∀ t H', But [d] H H' → ToldAt H' t (s.told p) → DoorAt C H' d { s.step p with deeds := s.deeds } → Q (.ref t) H'
def spAsks (C : Addr) : Sp := fun vs H Q _ => ∃ (d : Addr) (p : Nat) (s : DS), vs = [.ref d, .int p] ∧ DoorAt C H d s ∧ p < s.lev.length ∧ s.stg p = 3 ∧ s.cm p ≠ none ∧
  ∀ t H', But [d] H H' → ToldAt H' t (s.told p) → DoorAt C H' d { s.step p with deeds := s.deeds } → Q (.ref t) H'
def spStep (C : Addr) : Sp := fun vs H Q _ => ∃ (d : Addr) (p : Nat) (s : DS), vs = [.ref d, .int p] ∧ DoorAt C H d s ∧ s.cm p ≠ none ∧ s.deeds.length < 100000 ∧
  ∀ t H', But [d] H H' → ToldAt H' t (s.told p) → DoorAt C H' d (s.step p) → Q (.ref t) H'
def spCome (C : Addr) : Sp := fun vs H Q _ => ∃ (d : Addr) (p : Nat) (v : V) (s : DS), vs = [.ref d, .int p, v] ∧ DoorAt C H d s ∧ p < s.lev.length ∧ s.cm p = none ∧ Good H v ∧ s.deeds.length < 100000 ∧
  ∀ H', But [d] H H' → DoorAt C H' d (s.come p v) → Q .non H'
def DS.held (s : DS) : List Nat := (List.range s.lev.length).filter fun p => decide (s.lv p = some 1)
def spHeld (C : Addr) : Sp := fun vs H Q _ => ∃ (d : Addr) (s : DS), vs = [.ref d] ∧ DoorAt C H d s ∧ ∀ t H', Same H H' → H' t = some (.tup (s.held.map fun (p : Nat) => V.int (p : Int))) → Q (.ref t) H'
end Fp
namespace Fp
open PySem PySem.Spec PyProof.Rows L2
theorem u65 {k : Nat} {A : Around} (r : Room k A) : A.units + 65 < cLine := by have := r.un; omega
/-! ### rules that may stand within a comprehension -/
theorem op_eqDK {X : Cx} {K : PySem.W.Frag} (hu : X.A.units + 64 < cLine) (e : X.K = K := by rfl) : OpR X (compareOp .Eq) (rEqD K) := by subst e; exact op_eqD hu
theorem op_neDK {X : Cx} {K : PySem.W.Frag} (hu : X.A.units + 64 < cLine) (e : X.K = K := by rfl) : OpR X (compareOp .NotEq) (rNeD K) := by subst e; exact op_neD hu
theorem ix_tupK {X : Cx} {K : PySem.W.Frag} (e : X.K = K := by rfl) : IxR X (rIxT K) := by subst e; exact ix_tup
theorem ix_listK {X : Cx} {K : PySem.W.Frag} (e : X.K = K := by rfl) : IxR X (rIxL K) := by subst e; exact ix_list
def rRepr (K : PySem.W.Frag) : List V → Hp → VK → Prop := fun xs H Q => ∃ (x : V) (d : PyData) (k n : Nat), xs = [x] ∧ Dp K H x d ∧ Sm k n d ∧ k ≤ 64 ∧ n ≤ 1000000 ∧ Q (.str d.shown) H
theorem call_reprK {X : Cx} {K : PySem.W.Frag} (hgu : X.A.guards = some []) (hu : X.A.units + 66 < cLine) (e : X.K = K := by rfl) : CallR X (.builtin "repr") (rRepr K) := by subst e; exact call_reprA hgu hu
theorem pe_fldK {X : Cx} {K : PySem.W.Frag} {o : Expr} {f : Str} {pos : Pos} {to : TE} (h : PE X (.Attribute o f pos) (tFld X.K to f)) (e : X.K = K := by rfl) : PE X (.Attribute o f pos) (tFld K to f) := by subst e; exact h
/-! ### what is told, as data -/
def TOk (H : Hp) : Told → Prop
  | .level i => 0 ≤ i ∧ i ≤ 2
  | .look l => l.length ≤ 5 ∧ ∀ x, some x ∈ l → 0 ≤ x ∧ x ≤ 2
  | .wait => True
  | .word v => Good H v
theorem TOk.mono {H H' : Hp} (g : TK H H') {x : Told} (h : TOk H x) : TOk H' x := by
  cases x with
  | level i => exact h
  | look l => exact h
  | wait => exact h
  | word v => exact Good.mono g h
theorem DS.WF.small {s : DS} (W : s.WF) : s.lev.length ≤ 5 ∧ ∀ x, some x ∈ s.lev → 0 ≤ x ∧ x ≤ 2 := ⟨W.n5, fun x h => by
  obtain ⟨q, hq⟩ := mem_getD.mp h
  rcases W.vals q x hq with rfl | rfl | rfl <;> decide⟩
theorem DoorAt.tok {C : Addr} {H : Hp} {d : Addr} {s : DS} {p : Nat} (h : DoorAt C H d s) : TOk H (s.told p) := by
  obtain ⟨dx, a, b, c, e, f, cv, hv, sv, dv, D⟩ := h
  have W := D.wf
  have h4 := DS.stg_lt s p
  rcases (show s.stg p = 0 ∨ s.stg p = 1 ∨ s.stg p = 2 ∨ s.stg p = 3 by omega) with z | z | z | z
  · rw [DS.told0 z]; exact ⟨by decide, by decide⟩
  · rw [DS.told1 z]; exact W.small
  · rw [DS.told2 z]; rcases DS.wr02 s p with ⟨e, _⟩ | ⟨e, _⟩ <;> rw [e] <;> exact ⟨by decide, by decide⟩
  · rw [DS.told3 z]; split
    · trivial
    · obtain ⟨v, hv⟩ := DS.two_came W (DS.ask_two W z)
      rw [hv]
      exact D.good _ _ hv
def lvD : Lv → PyData
  | none => .none
  | some i => .int i
theorem lv_dp {K : PySem.W.Frag} {H : Hp} : ∀ l : List Lv, DpAll K H (l.map lvV) (l.map lvD)
  | [] => .nil
  | none :: l => .cons .non (lv_dp l)
  | some i :: l => .cons (.int i) (lv_dp l)
theorem lv_sms {l : List Lv} (h : ∀ x, some x ∈ l → 0 ≤ x ∧ x ≤ 2) (hl : l.length ≤ 5) : Sms 1 5 (l.map lvD) := by
  refine (Sms.all (k := 1) (n := 0) fun d hd => ?_).mono (Nat.le_refl _) (by rw [List.length_map]; omega)
  obtain ⟨x, hx, rfl⟩ := List.mem_map.mp hd
  cases x with
  | none => exact Sm.non
  | some i => have := h i hx; exact Sm.int (by omega) (by omega)
theorem Good.dp {K : PySem.W.Frag} {H : Hp} {v : V} (h : Good H v) : ∃ d, Dp K H v d ∧ Sm 4 39 d := by
  obtain ⟨d, a, b⟩ := h
  exact ⟨d, a.dp, b.sm⟩
theorem sm_word (z : Str) (h : (decide (z.cps.size ≤ 10) && z.cps.toList.all (fun c => decide (c < 16 ^ 8)) && PyData.strOk z) = true) : Sm 1 10 (.str z) := by
  rw [Bool.and_eq_true, Bool.and_eq_true] at h
  exact Sm.str (of_decide_eq_true h.1.1) h.1.2 h.2
/-- what is told, as one data, wherever it stands -/
theorem told_data {H : Hp} {x : Told} (o : TOk H x) : ∃ d, Sm 6 100 d ∧ ∀ (K : PySem.W.Frag) (H' : Hp) (t : Addr), TK H H' → ToldAt H' t x → Dp K H' (.ref t) d := by
  cases x with
  | level i =>
    refine ⟨.tuple [.str "level", .int i], ?_, fun K H' t _ h => .tup (.of h) (.cons (.str _) (.cons (.int _) .nil))⟩
    exact (Sms.tup (.cons (sm_word _ (by decide +kernel)) (.cons ((Sm.int (i := i) (by have := o.1; omega) (by have := o.2; omega)).mono (Nat.le_refl 1) (Nat.le_refl 0)) (Sms.nil (n := 0))))).mono (by decide) (by decide)
  | look l =>
    refine ⟨.tuple [.str "look", .tuple (l.map lvD)], ?_, fun K H' t _ h => by obtain ⟨q, a, b⟩ := h; exact .tup (.of a) (.cons (.str _) (.cons (.tup b.sq (lv_dp l)) .nil))⟩
    exact (Sms.tup (.cons ((sm_word "look" (by decide +kernel)).mono (by decide : 1 ≤ 2) (Nat.le_refl 10)) (.cons (lv_sms o.2 o.1).tup (Sms.nil (n := 0))))).mono (by decide) (by decide)
  | wait =>
    refine ⟨.tuple [.str "wait"], ?_, fun K H' t _ h => .tup (.of h) (.cons (.str _) .nil)⟩
    exact (Sms.tup (.cons (sm_word "wait" (by decide +kernel)) (Sms.nil (n := 0)))).mono (by decide) (by decide)
  | word v =>
    obtain ⟨d, hd, ho⟩ := o
    refine ⟨.tuple [.str "word", d], ?_, fun K H' t g h => .tup (.of h) (.cons (.str _) (.cons (hd.mono g).dp .nil))⟩
    exact (Sms.tup (.cons ((sm_word "word" (by decide +kernel)).mono (by decide : 1 ≤ 4) (Nat.le_refl 10)) (.cons ho.sm (Sms.nil (n := 0))))).mono (by decide) (by decide)
/-- two tellings of one thing are one in data -/
theorem told_two {K : PySem.W.Frag} {H : Hp} {t1 t2 : Addr} {x : Told} (h1 : ToldAt H t1 x) (h2 : ToldAt H t2 x) (o : TOk H x) : ∃ d, Dp K H (.ref t1) d ∧ Dp K H (.ref t2) d ∧ Sm 6 100 d := by
  cases x with
  | level i =>
    refine ⟨.tuple [.str "level", .int i], .tup (.of h1) (.cons (.str _) (.cons (.int _) .nil)), .tup (.of h2) (.cons (.str _) (.cons (.int _) .nil)), ?_⟩
    exact (Sms.tup (.cons (sm_word _ (by decide +kernel)) (.cons ((Sm.int (i := i) (by have := o.1; omega) (by have := o.2; omega)).mono (Nat.le_refl 1) (Nat.le_refl 0)) (Sms.nil (n := 0))))).mono (by decide) (by decide)
  | look l =>
    obtain ⟨q1, a1, b1⟩ := h1
    obtain ⟨q2, a2, b2⟩ := h2
    refine ⟨.tuple [.str "look", .tuple (l.map lvD)], .tup (.of a1) (.cons (.str _) (.cons (.tup b1.sq (lv_dp l)) .nil)), .tup (.of a2) (.cons (.str _) (.cons (.tup b2.sq (lv_dp l)) .nil)), ?_⟩
    exact (Sms.tup (.cons ((sm_word "look" (by decide +kernel)).mono (by decide : 1 ≤ 2) (Nat.le_refl 10)) (.cons (lv_sms o.2 o.1).tup (Sms.nil (n := 0))))).mono (by decide) (by decide)
  | wait =>
    refine ⟨.tuple [.str "wait"], .tup (.of h1) (.cons (.str _) .nil), .tup (.of h2) (.cons (.str _) .nil), ?_⟩
    exact (Sms.tup (.cons (sm_word "wait" (by decide +kernel)) (Sms.nil (n := 0)))).mono (by decide) (by decide)
  | word v =>
    obtain ⟨d, hd, sm⟩ := Good.dp (K := K) o
    refine ⟨.tuple [.str "word", d], .tup (.of h1) (.cons (.str _) (.cons hd .nil)), .tup (.of h2) (.cons (.str _) (.cons hd .nil)), ?_⟩
    exact (Sms.tup (.cons ((sm_word "word" (by decide +kernel)).mono (by decide : 1 ≤ 4) (Nat.le_refl 10)) (.cons sm (Sms.nil (n := 0))))).mono (by decide) (by decide)
/-! ### lots of players -/
def natV (l : List Nat) : List V := l.map fun (p : Nat) => V.int (p : Int)
theorem natV_dp {K : PySem.W.Frag} {H : Hp} : ∀ l : List Nat, DpAll K H (natV l) (l.map fun (p : Nat) => PyData.int (p : Int))
  | [] => .nil
  | p :: l => .cons (.int _) (natV_dp l)
theorem natV_sm {l : List Nat} (h : ∀ p ∈ l, p ≤ 5) (hl : l.length ≤ 5) : Sm 2 5 (.tuple (l.map fun (p : Nat) => PyData.int (p : Int))) := by
  refine (Sms.all (k := 1) (n := 0) fun d hd => ?_).tup.mono (Nat.le_refl _) (by rw [List.length_map]; omega)
  obtain ⟨x, hx, rfl⟩ := List.mem_map.mp hd
  have := h x hx
  exact Sm.int (by omega) (by omega)
theorem held_small {s : DS} (W : s.WF) : (∀ p ∈ s.held, p ≤ 5) ∧ s.held.length ≤ 5 := by
  have h5 := W.n5
  refine ⟨fun p hp => ?_, ?_⟩
  · have := List.mem_range.mp (List.mem_filter.mp hp).1
    omega
  · have := List.length_filter_le (fun p => decide (s.lv p = some 1)) (List.range s.lev.length)
    rw [List.length_range] at this
    unfold DS.held
    omega
/-! ### a law's state: a door, an own door, a pot -/
theorem But.into {S T : List Addr} {H0 H H' : Hp} (a : But S H0 H) (b : But T H H') (h : ∀ x ∈ T, H0 x = none ∨ x ∈ S) : But S H0 H' := fun c o n e => b c o (fun m => by
  rcases h c m with z | z
  · rw [z] at e; cases e
  · exact n z) (a c o n e)
theorem But.free {pt d : Addr} {H H1 : Hp} (g : But [pt] H H1) (hp : H1 pt ≠ none) (h : H1 d = none) : H d = none := by
  cases e : H d with
  | none => rfl
  | some o =>
    have := g d o (by simp only [List.mem_singleton]; intro z; exact hp (z ▸ h)) e
    rw [h] at this; cases this
theorem PotAt.ne0 {H : Hp} {p : Addr} {n : Nat} (h : PotAt H p n) : H p ≠ none := by
  obtain ⟨xs, e⟩ := h.there
  rw [e]; simp
structure Sta (C : Addr) (H0 : Hp) (pt d o : Addr) (L : List Addr) (H : Hp) (s1 s2 : DS) (m : Nat) (q : Nat) : Prop where
  fr : But [pt] H0 H
  door : DoorAt C H d s1
  own : ∃ k, OwnAt H o L s2 k
  pot : PotAt H pt m
  p0 : H0 pt ≠ none
  d0 : H0 d = none
  L0 : ∀ x ∈ L, H0 x = none
  dl : s1.deeds.length ≤ q
theorem DoorAt.ins {C : Addr} {H : Hp} {d : Addr} {s : DS} (h : DoorAt C H d s) : ∃ dx fs, H d = some (.ins C dx fs) := by
  obtain ⟨dx, a, b, c, e, f, cv, hv, sv, dv, D⟩ := h
  exact ⟨_, _, D.obj⟩
theorem DoorAt.tk {C : Addr} {H H' : Hp} {d : Addr} {s : DS} (h : DoorAt C H d s) (g : But [d] H H') : TK H H' := TK.but g fun a ha z => by
  obtain ⟨dx, fs, e⟩ := h.ins
  rw [List.mem_singleton.mp ha, e] at z
  exact z
theorem PotAt.tk {H H' : Hp} {pt : Addr} {m : Nat} (h : PotAt H pt m) (g : But [pt] H H') : TK H H' := TK.but g fun a ha z => by
  obtain ⟨xs, e⟩ := h.there
  rw [List.mem_singleton.mp ha, e] at z
  exact z
theorem OwnAt.tk {H H' : Hp} {o : Addr} {L : List Addr} {s : DS} {k : Int} (h : OwnAt H o L s k) (g : But L H H') : TK H H' := TK.but g fun a ha z => by
  rcases h.kind a ha with ⟨xs, e⟩ | ⟨xs, e⟩ <;> rw [e] at z <;> exact z
theorem PotAt.but {H H' : Hp} {pt : Addr} {m : Nat} {S : List Addr} (h : PotAt H pt m) (g : But S H H') (n : pt ∉ S) : PotAt H' pt m := by
  obtain ⟨a, b, c, e, r⟩ := h
  exact ⟨a, b, c, g _ _ n e, r⟩
section
variable {C : Addr} {H0 H H' : Hp} {pt d o : Addr} {L : List Addr} {s1 s2 s' : DS} {m m' q q' : Nat}
theorem Sta.ptL (S : Sta C H0 pt d o L H s1 s2 m q) : pt ∉ L := fun z => S.p0 (S.L0 _ z)
theorem Sta.dL (S : Sta C H0 pt d o L H s1 s2 m q) : d ∉ L := fun z => by
  obtain ⟨k, O⟩ := S.own
  obtain ⟨dx, fs, e⟩ := S.door.ins
  rcases O.kind d z with ⟨xs, e2⟩ | ⟨xs, e2⟩ <;> rw [e] at e2 <;> cases e2
theorem Sta.ptd (S : Sta C H0 pt d o L H s1 s2 m q) : pt ≠ d := fun z => S.p0 (by rw [z]; exact S.d0)
theorem Sta.same (S : Sta C H0 pt d o L H s1 s2 m q) (g : Same H H') : Sta C H0 pt d o L H' s1 s2 m q :=
  ⟨S.fr.trans (.of g), S.door.same g, let ⟨k, O⟩ := S.own; ⟨k, O.same g⟩, S.pot.but (.of (S := []) g) (by simp), S.p0, S.d0, S.L0, S.dl⟩
theorem Sta.take (S : Sta C H0 pt d o L H s1 s2 m q) (g : But [pt] H H') (hp : PotAt H' pt m') : Sta C H0 pt d o L H' s1 s2 m' q :=
  ⟨S.fr.trans g, S.door.but g fun x hx => by rw [List.mem_singleton.mp hx]; exact .inl S.pot.there, let ⟨k, O⟩ := S.own; ⟨k, O.but g (fun x hx => by rw [List.mem_singleton.mp hx]; exact S.ptL) (S.pot.tk g)⟩, hp, S.p0, S.d0, S.L0, S.dl⟩
theorem Sta.stepD (S : Sta C H0 pt d o L H s1 s2 m q) (g : But [d] H H') (hd : DoorAt C H' d s') (hl : s'.deeds.length ≤ q') : Sta C H0 pt d o L H' s' s2 m q' :=
  ⟨S.fr.into g fun x hx => by rw [List.mem_singleton.mp hx]; exact .inl S.d0, hd, let ⟨k, O⟩ := S.own; ⟨k, O.but g (fun x hx => by rw [List.mem_singleton.mp hx]; exact S.dL) (S.door.tk g)⟩, S.pot.but g (by simpa using S.ptd), S.p0, S.d0, S.L0, hl⟩
theorem Sta.stepO (S : Sta C H0 pt d o L H s1 s2 m q) (g : But L H H') {k : Int} (ho : OwnAt H' o L s' k) : Sta C H0 pt d o L H' s1 s' m q :=
  ⟨S.fr.into g fun x hx => .inl (S.L0 x hx), let ⟨k, O⟩ := S.own; S.door.but g O.kind, ⟨k, ho⟩, S.pot.but g S.ptL, S.p0, S.d0, S.L0, S.dl⟩
end
theorem deeds_step {s : DS} {p : Nat} : (s.step p).deeds.length = s.deeds.length + 1 := by
  unfold DS.step
  split <;> (try split) <;> simp
theorem deeds_come {s : DS} {p : Nat} {v : V} : (s.come p v).deeds.length = s.deeds.length + 1 := by simp [DS.come]
theorem DoorAt.ob {C : Addr} {H : Hp} {d : Addr} {s : DS} (h : DoorAt C H d s) : ∃ dx fs, H d = some (.ins C dx fs) ∧ fs.lookup ("step" : Str) = none ∧ fs.lookup ("come" : Str) = none ∧ fs.lookup ("next" : Str) = none ∧ fs.lookup ("copy" : Str) = none := by
  obtain ⟨dx, a, b, c, e, f, cv, hv, sv, dv, D⟩ := h
  exact ⟨_, _, D.obj, no_step, no_come, no_next, no_copy⟩
theorem DS.lv_other {s : DS} {p q : Nat} (W : s.WF) (hc : s.cm p ≠ none) (h : p ≠ q) : (s.step p).lv q = s.lv q := by
  have hp := DS.lt_of_cm W hc
  have h4 := DS.stg_lt s p
  rcases (show s.stg p = 0 ∨ s.stg p = 1 ∨ s.stg p = 2 ∨ s.stg p = 3 by omega) with e | e | e | e
  · rw [DS.lv_step0 e hp, if_neg h]
  · rw [DS.lv_step1 e]
  · rw [DS.lv_step2 e hp, if_neg h]
  · rw [DS.lv_step3 e]
theorem natV_rep (n : Nat) (l : List Nat) : (List.replicate n (natV l)).flatten = natV (List.replicate n l).flatten := by
  unfold natV
  rw [List.map_flatten, List.map_replicate]
theorem count_rep (n p : Nat) (l : List Nat) (h : p ∈ l) : n ≤ (List.replicate n l).flatten.count p := by
  induction n with
  | zero => omega
  | succ n ih =>
    rw [List.replicate_succ, List.flatten_cons, List.count_append]
    have := List.count_pos_iff.mpr h
    omega
theorem mem_rep {n p : Nat} {l : List Nat} (h : p ∈ (List.replicate n l).flatten) : p ∈ l := by
  obtain ⟨x, hx, hp⟩ := List.mem_flatten.mp h
  rw [(List.mem_replicate.mp hx).2] at hp
  exact hp
theorem natV_get {l : List Nat} {i : Nat} {x : V} (h : (natV l)[i]? = some x) : ∃ p, l[i]? = some p ∧ x = .int (p : Int) := by
  unfold natV at h
  rw [List.getElem?_map] at h
  cases e : l[i]? with
  | none => rw [e] at h; cases h
  | some p => rw [e] at h; cases h; exact ⟨p, rfl, rfl⟩
theorem take_snoc {l : List Nat} {i p : Nat} (h : l[i]? = some p) : l.take (i + 1) = l.take i ++ [p] := by
  rw [List.take_add_one, h]; rfl
theorem rep_len (n : Nat) (l : List Nat) : (List.replicate n l).flatten.length = n * l.length := by simp
theorem two_str {a b : Str} (h : a = b) : (!decide (V.str a = V.str b)) = false := by rw [h]; simp
theorem Fst {H : Hp} {t : Addr} {x : Told} (h : ToldAt H t x) : ∃ ys, H t = some (.tup (.str (match x with | .level _ => "level" | .look _ => "look" | .wait => "wait" | .word _ => "word") :: ys)) := by
  cases x with
  | level i => exact ⟨_, h⟩
  | look l => obtain ⟨q, h, _⟩ := h; exact ⟨_, h⟩
  | wait => exact ⟨_, h⟩
  | word v => exact ⟨_, h⟩
theorem stg_ge {s : DS} {p q : Nat} {l : List Nat} (W : s.WF) (hc : s.cm p ≠ none) (h : min 3 (l.count q) ≤ s.stg q) : min 3 ((l ++ [p]).count q) ≤ (s.step p).stg q := by
  rw [DS.stg_step W hc, List.count_append, List.count_singleton]
  by_cases e : p = q
  · subst e; simp; omega
  · rw [if_neg e]; simp [e]; omega
/-- a door and an own door are made -/
theorem Sta.make {C : Addr} {H H1 H2 H3 : Hp} {pt d dx o : Addr} {L : List Addr} {N m : Nat} (hP : PotAt H pt 0) (g1 : But [pt] H H1) (hP1 : PotAt H1 pt m) (hd : H1 d = none) (hdx : H1 dx = none) (hne : dx ≠ d)
    (b : But [d] (upd (upd H1 dx (.own d)) d (.ins C dx [])) H2) (D : DoorAt C H2 d (DS.new N)) (g3 : Same H2 H3) (hL : ∀ x ∈ L, H2 x = none) (O : OwnAt H3 o L (DS.new N) 0) : Sta C H pt d o L H3 (DS.new N) (DS.new N) m 0 := by
  have g2 : Same H1 (upd (upd H1 dx (.own d)) d (.ins C dx [])) := (same_new hdx _).trans (same_new (by rw [upd_ne (Ne.symm hne)]; exact hd) _)
  have pd : pt ≠ d := fun z => hP1.ne0 (by rw [z]; exact hd)
  have fr2 : But [pt] H H2 := (g1.trans (.of g2)).into b fun x hx => by rw [List.mem_singleton.mp hx]; exact .inl (g1.free hP1.ne0 hd)
  have hP2 : PotAt H2 pt m := (hP1.but (.of (S := []) g2) (by simp)).but b (by simpa using pd)
  exact ⟨fr2.trans (.of g3), D.same g3, ⟨_, O⟩, hP2.but (.of (S := []) g3) (by simp), hP.ne0, g1.free hP1.ne0 hd, fun x hx => fr2.free hP2.ne0 (hL x hx), Nat.le_refl _⟩
theorem filter_one : ∀ N, N ≤ 5 → ∀ st, st < N → (List.range N).filter (fun p => decide (p = st)) = [st] := by decide
theorem eqv_self_nat (l : List Nat) : PyData.eqv (.tuple (l.map fun (p : Nat) => PyData.int (p : Int))) (.tuple (l.map fun (p : Nat) => PyData.int (p : Int))) = true := by
  have h : ∀ l : List Nat, PyData.eqvAll (l.map fun (p : Nat) => PyData.int (p : Int)) (l.map fun (p : Nat) => PyData.int (p : Int)) = true := fun l => by
    induction l with
    | nil => simp [PyData.eqvAll]
    | cons a r ih => simp [PyData.eqvAll, PyData.eqv, ih]
  simp only [PyData.eqv]
  exact h l
theorem held_none {s : DS} (h : ∀ p, p < s.lev.length → s.lv p ≠ some 1) : s.held = [] := by
  unfold DS.held
  rw [List.filter_eq_nil_iff]
  intro p hp
  simpa using h p (List.mem_range.mp hp)
theorem held_only {s : DS} (W : s.WF) {st : Nat} (hst : st < s.lev.length) (h1 : s.lv st = some 1) (h : ∀ p, p < s.lev.length → p ≠ st → s.lv p ≠ some 1) : s.held = [st] := by
  unfold DS.held
  rw [← filter_one _ W.n5 st hst]
  refine List.filter_congr fun p hp => ?_
  rw [decide_eq_decide]
  constructor
  · intro z
    by_cases e : p = st
    · exact e
    · exact absurd z (h p (List.mem_range.mp hp) e)
  · intro z; rw [z]; exact h1
theorem lv_of3 {s : DS} {p : Nat} (h : s.stg p = 3) : s.lv p ≠ some 1 := by
  obtain ⟨x, hx, h1⟩ := DS.stg3.mp h
  rw [hx]; intro z; injection z with z; exact h1 z
theorem Sta.put {C : Addr} {H0 H : Hp} {pt d o D : Addr} {L : List Addr} {s1 s2 : DS} {m q : Nat} {xs ys : List V} (S : Sta C H0 pt d o L H s1 s2 m q) (h : H D = some (.lst xs)) (n0 : H0 D = none) (nL : D ∉ L) : Sta C H0 pt d o L (upd H D (.lst ys)) s1 s2 m q := by
  have g : But [D] H (upd H D (.lst ys)) := (But.refl _ _).put (by simp)
  have np : pt ≠ D := fun z => S.p0 (by rw [z]; exact n0)
  have tk : TK H (upd H D (.lst ys)) := .put h fun z => z
  exact ⟨S.fr.into g fun x hx => by rw [List.mem_singleton.mp hx]; exact .inl n0, S.door.but g fun x hx => by rw [List.mem_singleton.mp hx]; exact .inl ⟨_, h⟩,
    let ⟨k, O⟩ := S.own; ⟨k, O.but g (fun x hx => by rw [List.mem_singleton.mp hx]; exact nL) tk⟩, S.pot.but g (by simpa using np), S.p0, S.d0, S.L0, S.dl⟩
/-- an address that is new is none of the state's -/
theorem Sta.new {C : Addr} {H0 H : Hp} {pt d o D : Addr} {L : List Addr} {s1 s2 : DS} {m q : Nat} (S : Sta C H0 pt d o L H s1 s2 m q) (h : H D = none) : H0 D = none ∧ D ∉ L ∧ D ≠ d ∧ D ≠ pt := by
  obtain ⟨k, O⟩ := S.own
  refine ⟨S.fr.free S.pot.ne0 h, fun z => ?_, fun z => ?_, fun z => S.pot.ne0 (by rw [← z]; exact h)⟩
  · rcases O.kind D z with ⟨ys, e⟩ | ⟨ys, e⟩ <;> rw [e] at h <;> cases h
  · obtain ⟨dx', fs, e⟩ := S.door.ins; rw [z, e] at h; cases h
theorem Sta.up {C : Addr} {H0 H : Hp} {pt d o : Addr} {L : List Addr} {s1 s2 : DS} {m q m' q' : Nat} (S : Sta C H0 pt d o L H s1 s2 m q) (hm : m ≤ m') (hq : q ≤ q') : Sta C H0 pt d o L H s1 s2 m' q' :=
  ⟨S.fr, S.door, S.own, S.pot.mono hm, S.p0, S.d0, S.L0, Nat.le_trans S.dl hq⟩
/-! ### one word -/
def DS.hd (s : DS) (p : Nat) : Option V := s.heard.getD p none
def DS.Closed (s : DS) : Prop := (∃ q, s.lv q = some 2) ∧ ∀ p, s.stg p = 2 → s.saw p = true
section
variable {s : DS} {p : Nat} {v : V}
theorem DS.hd_new (n p : Nat) : (DS.new n).hd p = none := DS.rep_none n p
theorem DS.hd_come (q : Nat) : (s.come p v).hd q = s.hd q := rfl
theorem DS.hd_step (W : s.WF) (hc : s.cm p ≠ none) (q : Nat) : (s.step p).hd q = if p = q ∧ s.stg p = 3 ∧ some 1 ∉ s.lev then s.cm s.two else s.hd q := by
  have hp := DS.lt_of_cm W hc
  have h4 := DS.stg_lt s p
  rcases (show s.stg p = 0 ∨ s.stg p = 1 ∨ s.stg p = 2 ∨ s.stg p = 3 by omega) with e | e | e | e
  · rw [if_neg (by omega)]; unfold DS.hd; rw [DS.step0 e]
  · rw [if_neg (by omega)]; unfold DS.hd; rw [DS.step1 e]
  · rw [if_neg (by omega)]; unfold DS.hd; rw [DS.step2 e]
  · unfold DS.hd
    rw [DS.step3 e]
    by_cases z : some 1 ∈ s.lev
    · rw [if_pos z, if_neg (by intro h; exact h.2.2 z)]
    · rw [if_neg z]
      show (s.heard.set p (s.cm s.two)).getD q none = _
      rw [getD_set]
      by_cases h : p = q
      · rw [if_pos ⟨h, by rw [W.lh]; exact hp⟩, if_pos ⟨h, e, z⟩]
      · rw [if_neg (fun h' => h h'.1), if_neg (fun h' => h h'.1)]
theorem closed_of (h : ∃ q, s.lv q = some 2) (n : some 1 ∉ s.lev) : s.Closed := ⟨h, fun p hp => absurd (mem_getD.mpr ⟨p, (DS.stg2.mp hp).1⟩) n⟩
theorem DS.Closed.step (c : s.Closed) (W : s.WF) (hc : s.cm p ≠ none) : (s.step p).Closed ∧ (s.step p).two = s.two := by
  have hp := DS.lt_of_cm W hc
  have hps : p < s.seen.length := by rw [W.ls]; exact hp
  have h4 := DS.stg_lt s p
  have k2 := DS.has2_step W hc c.1
  rcases (show s.stg p = 0 ∨ s.stg p = 1 ∨ s.stg p = 2 ∨ s.stg p = 3 by omega) with e | e | e | e
  · refine ⟨⟨k2, fun q hq => ?_⟩, DS.two_same DS.len_step fun q => ?_⟩
    · rw [DS.stg_step W hc] at hq
      have hne : p ≠ q := by intro z; rw [if_pos z, e] at hq; cases hq
      rw [if_neg hne] at hq
      unfold DS.saw; rw [DS.sn_stepN (by omega)]; exact c.2 q hq
    · rw [DS.lv_step0 e hp]; split
      · rename_i z; subst z; rw [DS.stg0.mp e]; simp
      · rfl
  · refine ⟨⟨k2, fun q hq => ?_⟩, DS.two_same DS.len_step fun q => by rw [DS.lv_step1 e]⟩
    rw [DS.stg_step W hc] at hq
    unfold DS.saw; rw [DS.sn_step1 e hps]
    by_cases z : p = q
    · rw [if_pos z]; exact decide_eq_true (mem_getD.mpr c.1)
    · rw [if_neg z] at hq ⊢; exact c.2 q hq
  · have sw := c.2 p e
    have ew : s.wr p = 0 := by unfold DS.wr; rw [if_pos sw]
    refine ⟨⟨k2, fun q hq => ?_⟩, DS.two_same DS.len_step fun q => ?_⟩
    · rw [DS.stg_step W hc] at hq
      have hne : p ≠ q := by intro z; rw [if_pos z, e] at hq; cases hq
      rw [if_neg hne] at hq
      unfold DS.saw; rw [DS.sn_stepN (by omega)]; exact c.2 q hq
    · rw [DS.lv_step2 e hp]; split
      · rename_i z; subst z; rw [ew, (DS.stg2.mp e).1]; simp
      · rfl
  · refine ⟨⟨k2, fun q hq => ?_⟩, DS.two_same DS.len_step fun q => by rw [DS.lv_step3 e]⟩
    rw [DS.stg_step W hc] at hq
    have hne : p ≠ q := by intro z; rw [if_pos z, e] at hq; cases hq
    rw [if_neg hne] at hq
    unfold DS.saw; rw [DS.sn_stepN (by omega)]; exact c.2 q hq
theorem DS.Closed.come (c : s.Closed) : (s.come p v).Closed ∧ (s.come p v).two = s.two := ⟨c, rfl⟩
theorem stg_out (W : s.WF) (h : s.cm p = none) : s.stg p = 0 := by
  refine DS.stg0.mpr ?_
  cases e : s.lv p with
  | none => rfl
  | some x => exact absurd h (W.cmv p (by rw [e]; simp))
end
/-! ### lists of players -/
def unV : V → Nat
  | .int i => i.toNat
  | _ => 0
theorem natV_perm {ys : List V} {R : List Nat} (h : ys.Perm (natV R)) : ∃ Y : List Nat, ys = natV Y ∧ Y.Perm R := by
  refine ⟨ys.map unV, ?_, ?_⟩
  · unfold natV
    rw [List.map_map]
    conv => lhs; rw [← List.map_id ys]
    refine List.map_congr_left fun x hx => ?_
    have := h.mem_iff.mp hx
    unfold natV at this
    obtain ⟨p, _, rfl⟩ := List.mem_map.mp this
    show V.int p = V.int ((unV (V.int p) : Nat) : Int)
    unfold unV
    simp
  · have := h.map unV
    refine this.trans ?_
    have e : (natV R).map unV = R := by
      unfold natV
      rw [List.map_map]
      conv => rhs; rw [← List.map_id R]
      refine List.map_congr_left fun x _ => ?_
      show unV (V.int x) = x
      unfold unV
      simp
    rw [e]
/-! ### a door and a pot -/
structure Dn (C : Addr) (H : Hp) (pt d : Addr) (s : DS) (m q : Nat) : Prop where
  door : DoorAt C H d s
  pot : PotAt H pt m
  dl : s.deeds.length ≤ q
section
variable {C : Addr} {H H' : Hp} {pt d D : Addr} {s s' : DS} {m m' q q' : Nat}
theorem Dn.ptd (S : Dn C H pt d s m q) : pt ≠ d := fun z => by
  obtain ⟨dx, fs, e⟩ := S.door.ins
  obtain ⟨xs, e2⟩ := S.pot.there
  rw [z, e] at e2; cases e2
theorem Dn.same (S : Dn C H pt d s m q) (g : Same H H') : Dn C H' pt d s m q := ⟨S.door.same g, S.pot.but (.of (S := []) g) (by simp), S.dl⟩
theorem Dn.take (S : Dn C H pt d s m q) (g : But [pt] H H') (hp : PotAt H' pt m') : Dn C H' pt d s m' q := ⟨S.door.but g fun x hx => by rw [List.mem_singleton.mp hx]; exact .inl S.pot.there, hp, S.dl⟩
theorem Dn.stepD (S : Dn C H pt d s m q) (g : But [d] H H') (hd : DoorAt C H' d s') (hl : s'.deeds.length ≤ q') : Dn C H' pt d s' m q' := ⟨hd, S.pot.but g (by simpa using S.ptd), hl⟩
theorem Dn.put {xs ys : List V} (S : Dn C H pt d s m q) (h : H D = some (.lst xs)) (n : D ≠ pt) : Dn C (upd H D (.lst ys)) pt d s m q := by
  have g : But [D] H (upd H D (.lst ys)) := (But.refl _ _).put (by simp)
  exact ⟨S.door.but g fun x hx => by rw [List.mem_singleton.mp hx]; exact .inl ⟨_, h⟩, S.pot.but g (by simpa using n.symm), S.dl⟩
theorem Dn.new (S : Dn C H pt d s m q) (h : H D = none) : D ≠ d ∧ D ≠ pt := ⟨fun z => (by obtain ⟨dx', fs, e⟩ := S.door.ins; rw [z, e] at h; cases h), fun z => S.pot.ne0 (by rw [← z]; exact h)⟩
theorem Dn.up (S : Dn C H pt d s m q) (hm : m ≤ m') (hq : q ≤ q') : Dn C H pt d s m' q' := ⟨S.door, S.pot.mono hm, Nat.le_trans S.dl hq⟩
end
/-- how often a place was asked from lap 8 on -/
def laps (e j i : Nat) : Nat := ((List.range i).filter fun l => decide (8 ≤ l ∧ l % e = j)).length
theorem laps_succ (e j i : Nat) : laps e j (i + 1) = laps e j i + if 8 ≤ i ∧ i % e = j then 1 else 0 := by
  unfold laps
  rw [List.range_succ, List.filter_append, List.length_append]
  congr 1
  by_cases h : 8 ≤ i ∧ i % e = j <;> simp [h]
theorem laps_20 : ∀ e, e ≤ 4 → ∀ j, j < e → 3 ≤ laps e j 20 := by decide
theorem word_data {dv : PyData} (ho : VOk 3 dv) : Sm 5 60 (.tuple [dv]) := (Sms.tup (.cons ho.sm (Sms.nil (n := 0)))).mono (by decide) (by decide)
theorem word_dp {K : PySem.W.Frag} {H0 H : Hp} {v : V} {dv : PyData} {t : Addr} (hv : VAt H0 v dv) (g : TK H0 H) (ht : H t = some (.tup [v])) : Dp K H (.ref t) (.tuple [dv]) := .tup (.of ht) (.cons (hv.mono g).dp .nil)
theorem sm_level {i : Int} (h0 : 0 ≤ i) (h2 : i ≤ 2) : Sm 6 100 (.tuple [.str "level", .int i]) := (Sms.tup (.cons (sm_word _ (by decide +kernel)) (.cons ((Sm.int (i := i) (by omega) (by omega)).mono (Nat.le_refl 1) (Nat.le_refl 0)) (Sms.nil (n := 0))))).mono (by decide) (by decide)
theorem sm_wait : Sm 6 100 (.tuple [.str "wait"]) := (Sms.tup (.cons (sm_word "wait" (by decide +kernel)) (Sms.nil (n := 0)))).mono (by decide) (by decide)
theorem sm_wordD {dv : PyData} (ho : VOk 3 dv) : Sm 6 100 (.tuple [.str "word", dv]) := (Sms.tup (.cons ((sm_word "word" (by decide +kernel)).mono (by decide : 1 ≤ 4) (Nat.le_refl 10)) (.cons ho.sm (Sms.nil (n := 0))))).mono (by decide) (by decide)
theorem DS.Closed.win {s : DS} (c : s.Closed) {w : Nat} (h : w = s.two ∨ (s.lv w = some 1 ∧ s.won w = true)) : w = s.two := by
  rcases h with h | ⟨h1, h2⟩
  · exact h
  · exfalso
    unfold DS.won at h2
    cases e : s.sn w with
    | none => rw [e] at h2; cases h2
    | some l =>
      rw [e] at h2
      have h2 : (!decide (some 2 ∈ l)) = true := h2
      have := c.2 w (DS.stg2.mpr ⟨h1, by rw [e]; simp⟩)
      unfold DS.saw at this
      rw [e] at this
      simp only [Option.getD_some] at this
      rw [this] at h2; cases h2
theorem DoorAt.heard {C : Addr} {H : Hp} {d : Addr} {s : DS} {K : PySem.W.Frag} (h : DoorAt C H d s) (hC : DC K C) : ∃ dx fs hv c, H d = some (.ins C dx fs) ∧ fs.lookup ("heard" : Str) = some (.ref c) ∧ TF H c hv ∧ Paired (One H) hv s.heard := by
  obtain ⟨dx, a, b, c, e, f, cv, hv, sv, dv, D⟩ := h
  exact ⟨dx, _, hv, c, D.obj, d_heard, D.heard, D.heardP⟩
theorem stg_keep {s : DS} {p q : Nat} (W : s.WF) (hc : s.cm p ≠ none) (h : p ≠ q) : (s.step p).stg q = s.stg q := by rw [DS.stg_step W hc, if_neg h]
theorem stg_self {s : DS} {p : Nat} (W : s.WF) (hc : s.cm p ≠ none) : (s.step p).stg p = min 3 (s.stg p + 1) := by rw [DS.stg_step W hc, if_pos rfl]
theorem hd_keep {s : DS} {p q : Nat} (W : s.WF) (hc : s.cm p ≠ none) (h : s.stg p ≠ 3 ∨ some 1 ∈ s.lev) : (s.step p).hd q = s.hd q := by
  rw [DS.hd_step W hc, if_neg]
  rintro ⟨_, a, b⟩
  rcases h with h | h
  · exact h a
  · exact b h
theorem hd_self {s : DS} {p : Nat} (W : s.WF) (hc : s.cm p ≠ none) (h : s.stg p = 3) (h1 : some 1 ∉ s.lev) : (s.step p).hd p = s.cm s.two := by rw [DS.hd_step W hc, if_pos ⟨rfl, h, h1⟩]
theorem lv_none_of {s : DS} {q : Nat} (h : s.stg q = 0 ∨ s.stg q = 3) : s.lv q ≠ some 1 := by
  rcases h with h | h
  · rw [DS.stg0.mp h]; simp
  · exact lv_of3 h
theorem told_lvl {H : Hp} {t : Addr} {i : Int} (h : ToldAt H t (.level i)) : H t = some (.tup [.str "level", .int i]) := h
theorem told_word {s : DS} {p : Nat} {v : V} (h : s.told p = .word v) : s.stg p = 3 ∧ some 1 ∉ s.lev ∧ v = (s.cm s.two).getD .non := by
  have h4 := DS.stg_lt s p
  rcases (show s.stg p = 0 ∨ s.stg p = 1 ∨ s.stg p = 2 ∨ s.stg p = 3 by omega) with z | z | z | z
  · rw [DS.told0 z] at h; cases h
  · rw [DS.told1 z] at h; cases h
  · rw [DS.told2 z] at h; cases h
  · rw [DS.told3 z] at h
    split at h
    · cases h
    · rename_i h1; injection h with h; exact ⟨z, h1, h.symm⟩
theorem cut_word (v : V) : cutV [V.str "word", v] (some 1) none = [v] := rfl
end Fp
/-! A stair of levels, as a plain thing -/
namespace Fp
open PySem PySem.Spec PyProof.Rows L2
theorem countP_same {α : Type} {f g : α → Bool} : ∀ {l : List α}, (∀ x ∈ l, f x = true → g x = true) → l.countP g ≤ l.countP f → ∀ x ∈ l, g x = true → f x = true
  | [], _, _, x, hx, _ => absurd hx (by simp)
  | a :: l, h, e, x, hx, hg => by
    have hm := List.countP_mono_left (l := l) fun y hy => h y (List.mem_cons_of_mem _ hy)
    have ha := h a List.mem_cons_self
    rw [List.countP_cons, List.countP_cons] at e
    by_cases fa : f a = true
    · have ga := ha fa
      rw [if_pos fa, if_pos ga] at e
      rcases List.mem_cons.mp hx with z | z
      · rw [z]; exact fa
      · exact countP_same (fun y hy => h y (List.mem_cons_of_mem _ hy)) (by omega) x z hg
    · rw [if_neg fa] at e
      by_cases ga : g a = true
      · rw [if_pos ga] at e; omega
      · rw [if_neg ga] at e
        rcases List.mem_cons.mp hx with z | z
        · rw [z] at hg; exact absurd hg ga
        · exact countP_same (fun y hy => h y (List.mem_cons_of_mem _ hy)) (by omega) x z hg
theorem countP_more {α : Type} [DecidableEq α] {f g : α → Bool} : ∀ {l : List α}, (∀ x ∈ l, f x = true → g x = true) → ∀ x ∈ l, f x = false → g x = true → l.countP f < l.countP g := fun {l} h x hx hf hg => by
  rcases Nat.lt_or_ge (l.countP f) (l.countP g) with z | z
  · exact z
  · have := countP_same h z x hx hg
    rw [hf] at this; cases this
theorem countP_range (n : Nat) (f : Nat → Bool) : (List.range n).countP f ≤ n := by
  have := List.countP_le_length (p := f) (l := List.range n)
  rwa [List.length_range] at this
inductive Due where
  | wr (l : Int) | look
structure LS where
  lev : List Lv
  vw : List (Option (List Nat))
  lk : List Bool
  run : List PyData
namespace LS
def new (n : Nat) : LS := ⟨List.replicate n none, List.replicate n none, List.replicate n false, []⟩
def n (s : LS) : Nat := s.lev.length
def lv (s : LS) (p : Nat) : Lv := s.lev.getD p none
def vi (s : LS) (p : Nat) : Option (List Nat) := s.vw.getD p none
def lo (s : LS) (p : Nat) : Bool := s.lk.getD p false
def le (a : Lv) (l : Int) : Bool := match a with
  | none => false
  | some x => decide (x ≤ l)
def below (s : LS) (l : Int) : List Nat := (List.range s.n).filter fun p => le (s.lv p) l
def next (s : LS) (p : Nat) : Option Due := if (s.vi p).isSome then none else if s.lo p then some .look else some (.wr (match s.lv p with
  | none => (s.n : Nat)
  | some l => l - 1))
def own (s : LS) (p : Nat) : Int := (s.lv p).getD 0
def seen (s : LS) (p : Nat) : Option (List Nat) := if s.own p ≤ (s.below (s.own p)).length then some (s.below (s.own p)) else none
def wrote (s : LS) (p : Nat) (l : Int) : LS := { s with lev := s.lev.set p (some l), lk := s.lk.set p true, run := s.run ++ [.tuple [.int (p : Nat), .str "write", .int l]] }
def looked (s : LS) (p : Nat) : LS := { s with vw := s.vw.set p (s.seen p), lk := s.lk.set p false, run := s.run ++ [.tuple [.int (p : Nat), .str "look", .tuple (s.lev.map lvD)]] }
def step (s : LS) (p : Nat) : LS := match s.next p with
  | none => s
  | some (.wr l) => s.wrote p l
  | some .look => s.looked p
/-- at l or below, or coming there -/
def inS (s : LS) (l : Nat) (p : Nat) : Bool := le (s.lv p) l
def inD (s : LS) (l : Nat) (p : Nat) : Bool := decide (s.lv p = some ((l : Int) + 1)) && !s.lo p && (s.vi p).isNone
structure WF (s : LS) : Prop where
  n1 : 1 ≤ s.n
  n5 : s.n ≤ 5
  lw : s.vw.length = s.n
  ll : s.lk.length = s.n
  rng : ∀ p l, s.lv p = some l → 1 ≤ l ∧ l ≤ s.n
  lkl : ∀ p, s.lo p = true → s.lv p ≠ none
  vil : ∀ p v, s.vi p = some v → ∃ l : Nat, s.lv p = some (l : Int) ∧ v = s.below l ∧ (s.below l).length = l
  vlk : ∀ p, s.vi p ≠ none → s.lo p = false
  few : ∀ l : Nat, l < s.n → (List.range s.n).countP (fun p => s.inS l p || s.inD l p) ≤ l
section
variable {s : LS} {p q : Nat} {l : Int}
theorem lv_new (n p : Nat) : (new n).lv p = none := DS.rep_none n p
theorem vi_new (n p : Nat) : (new n).vi p = none := DS.rep_none n p
theorem getB_set (l : List Bool) (p q : Nat) (x : Bool) : (l.set p x).getD q false = if p = q ∧ p < l.length then x else l.getD q false := by
  simp only [List.getD_eq_getElem?_getD, List.getElem?_set]
  by_cases h : p = q
  · subst h
    by_cases h2 : p < l.length
    · simp [h2]
    · have e : l[p]? = none := List.getElem?_eq_none (by omega)
      simp [h2, e]
  · simp [h]
theorem lo_new (n p : Nat) : (new n).lo p = false := by
  show (List.replicate n false).getD p false = false
  rw [List.getD_eq_getElem?_getD, List.getElem?_replicate]; split <;> rfl
theorem WF.new {n : Nat} (h1 : 1 ≤ n) (h5 : n ≤ 5) : (LS.new n).WF := by
  have hn : (LS.new n).n = n := by simp [LS.new, LS.n]
  refine ⟨by omega, by omega, by simp [LS.new, LS.n], by simp [LS.new, LS.n], ?_, ?_, ?_, ?_, fun l hl => ?_⟩
  · intro p l h; rw [lv_new] at h; cases h
  · intro p h; rw [lo_new] at h; cases h
  · intro p v h; rw [vi_new] at h; cases h
  · intro p h; rw [vi_new] at h; exact absurd rfl h
  · have : (List.range (LS.new n).n).countP (fun p => (LS.new n).inS l p || (LS.new n).inD l p) = 0 := by
      rw [List.countP_eq_zero]
      intro p _
      unfold inS inD
      rw [lv_new]
      simp [le]
    omega
theorem mem_below : q ∈ s.below l ↔ q < s.n ∧ le (s.lv q) l = true := by
  unfold below
  rw [List.mem_filter, List.mem_range]
theorem below_len : (s.below l).length = (List.range s.n).countP fun p => le (s.lv p) l := by
  unfold below
  rw [List.countP_eq_length_filter]
theorem le_some {x : Int} (h : s.lv q = some x) : le (s.lv q) l = decide (x ≤ l) := by rw [h]; rfl
theorem lt_of_lv {x : Int} (h : s.lv q = some x) : q < s.n := (getD_none_of h).1
theorem WF.below_le (W : s.WF) (l : Nat) (h : l ≤ s.n) : (s.below l).length ≤ l := by
  rw [below_len]
  by_cases e : l < s.n
  · refine Nat.le_trans (List.countP_mono_left fun x _ hx => ?_) (W.few l e)
    show (s.inS l x || s.inD l x) = true
    rw [show s.inS l x = true from hx]; rfl
  · have : l = s.n := by omega
    rw [this]; exact countP_range _ _
theorem n_wrote : (s.wrote p l).n = s.n := by simp [wrote, n]
theorem n_looked : (s.looked p).n = s.n := rfl
theorem n_step : (s.step p).n = s.n := by
  unfold step
  split
  · rfl
  · exact n_wrote
  · rfl
theorem lv_wrote (hp : p < s.n) : (s.wrote p l).lv q = if p = q then some l else s.lv q := by
  show (s.lev.set p (some l)).getD q none = _
  rw [getD_set]
  by_cases e : p = q
  · rw [if_pos ⟨e, hp⟩, if_pos e]
  · rw [if_neg (fun z => e z.1), if_neg e]; rfl
theorem vi_wrote : (s.wrote p l).vi q = s.vi q := rfl
theorem lo_wrote (W : s.WF) (hp : p < s.n) : (s.wrote p l).lo q = if p = q then true else s.lo q := by
  show (s.lk.set p true).getD q false = _
  rw [getB_set]
  by_cases e : p = q
  · rw [if_pos ⟨e, by rw [W.ll]; exact hp⟩, if_pos e]
  · rw [if_neg (fun z => e z.1), if_neg e]; rfl
theorem lv_looked : (s.looked p).lv q = s.lv q := rfl
theorem vi_looked (W : s.WF) (hp : p < s.n) : (s.looked p).vi q = if p = q then s.seen p else s.vi q := by
  show (s.vw.set p (s.seen p)).getD q none = _
  rw [getD_set]
  by_cases e : p = q
  · rw [if_pos ⟨e, by rw [W.lw]; exact hp⟩, if_pos e]
  · rw [if_neg (fun z => e z.1), if_neg e]; rfl
theorem lo_looked (W : s.WF) (hp : p < s.n) : (s.looked p).lo q = if p = q then false else s.lo q := by
  show (s.lk.set p false).getD q false = _
  rw [getB_set]
  by_cases e : p = q
  · rw [if_pos ⟨e, by rw [W.ll]; exact hp⟩, if_pos e]
  · rw [if_neg (fun z => e z.1), if_neg e]; rfl
theorem below_looked : (s.looked p).below l = s.below l := rfl
/-- nobody comes to a level where as many stand as can -/
theorem WF.full (W : s.WF) {l : Nat} (hl : (s.below l).length = l) (hr : l ≤ s.n) : ∀ q, q < s.n → s.inD l q = false := fun q hq => by
  cases z : s.inD l q with
  | false => rfl
  | true =>
    exfalso
    have hlv : s.lv q = some ((l : Int) + 1) := by
      unfold inD at z
      rw [Bool.and_eq_true, Bool.and_eq_true] at z
      exact of_decide_eq_true z.1.1
    have hle : le (s.lv q) l = false := by rw [le_some hlv]; exact decide_eq_false (by omega)
    have r := (W.rng q _ hlv).2
    have hf := W.few l (by omega)
    have := countP_more (l := List.range s.n) (f := fun p => le (s.lv p) l) (g := fun p => s.inS l p || s.inD l p) (fun x _ hx => by show (s.inS l x || _) = true; rw [show s.inS l x = true from hx]; rfl) q (List.mem_range.mpr hq) hle (by show (s.inS l q || s.inD l q) = true; rw [z]; simp)
    rw [← below_len, hl] at this
    omega
theorem WF.wrote (W : s.WF) (hp : p < s.n) (hv : s.vi p = none) (hk : s.lo p = false) (hl : match s.lv p with | none => l = (s.n : Nat) | some x => l = x - 1) : (s.wrote p l).WF := by
  have L := fun q => lv_wrote (s := s) (l := l) (q := q) hp
  have K := fun q => lo_wrote (l := l) (q := q) W hp
  have low : ∀ x, s.lv p = some x → 2 ≤ x := fun x hx => by
    have h1 := (W.rng p x hx).1
    rcases (show x = 1 ∨ 2 ≤ x by omega) with z | z
    · exfalso
      have hf := W.few 0 (by have := W.n1; omega)
      have hz : (List.range s.n).countP (fun p => s.inS 0 p || s.inD 0 p) = 0 := by omega
      rw [List.countP_eq_zero] at hz
      have := hz p (List.mem_range.mpr hp)
      refine this ?_
      unfold inD
      rw [hx, z, hk, hv]
      simp
    · exact z
  have lr : 1 ≤ l ∧ l ≤ s.n := by
    cases e : s.lv p with
    | none => rw [e] at hl; have := W.n1; simp only at hl; omega
    | some x => rw [e] at hl; have := low x e; have := (W.rng p x e).2; simp only at hl; omega
  -- p is counted only where it was counted
  have key : ∀ k : Nat, k < s.n → l ≤ k → s.inS k p = true ∨ s.inD k p = true := fun k hk' hlk => by
    cases e : s.lv p with
    | none => rw [e] at hl; simp only at hl; omega
    | some x =>
      rw [e] at hl
      simp only at hl
      by_cases z : x ≤ k
      · left; show le (s.lv p) k = true; rw [le_some e]; exact decide_eq_true z
      · right
        unfold inD
        rw [e, hk, hv, show x = (k : Int) + 1 by omega]
        simp
  refine ⟨by rw [n_wrote]; exact W.n1, by rw [n_wrote]; exact W.n5, by rw [n_wrote]; exact W.lw, by rw [n_wrote]; simp [LS.wrote, W.ll], fun q x hq => ?_, fun q hq => ?_, fun q v hq => ?_, fun q hq => ?_, fun k hk' => ?_⟩
  · rw [n_wrote]; rw [L] at hq
    split at hq
    · cases hq; exact lr
    · exact W.rng q x hq
  · rw [K] at hq; rw [L]
    split
    · simp
    · rename_i z; rw [if_neg z] at hq; exact W.lkl q hq
  · rw [vi_wrote] at hq
    obtain ⟨k, h1, h2, h3⟩ := W.vil q v hq
    have pq : p ≠ q := fun z => by rw [← z, hv] at hq; cases hq
    have hkn := (W.rng q _ h1).2
    have e : (s.wrote p l).below k = s.below k := by
      unfold below
      rw [n_wrote]
      refine List.filter_congr fun x hx => ?_
      rw [L]
      split
      · rename_i z
        subst z
        cases hb : le (s.lv p) k with
        | true =>
          cases e : s.lv p with
          | none => rw [e] at hb; cases hb
          | some y =>
            rw [le_some e] at hb
            have := of_decide_eq_true hb
            rw [e] at hl
            simp only at hl
            exact decide_eq_true (by omega)
        | false =>
          refine decide_eq_false fun hlk => ?_
          rcases Nat.lt_or_ge k s.n with c | c
          · have := W.full h3 (by omega) p hp
            rcases key k c (by omega) with w | w
            · have w : le (s.lv p) k = true := w
              rw [hb] at w; cases w
            · rw [this] at w; cases w
          · have kn : k = s.n := by omega
            rw [below_len] at h3
            have := countP_same (l := List.range s.n) (f := fun p => le (s.lv p) k) (g := fun _ => true) (fun _ _ _ => rfl) (by rw [h3, kn]; exact countP_range _ _) p (List.mem_range.mpr hp) rfl
            rw [hb] at this; cases this
      · rfl
    exact ⟨k, by rw [L, if_neg pq]; exact h1, by rw [e]; exact h2, by rw [e]; exact h3⟩
  · rw [vi_wrote] at hq
    rw [K, if_neg]
    · exact W.vlk q hq
    · intro z; rw [← z] at hq; exact hq hv
  · rw [n_wrote] at hk' ⊢
    refine Nat.le_trans (List.countP_mono_left fun x hx h => ?_) (W.few k hk')
    by_cases z : p = x
    · subst z
      have h1 : (s.wrote p l).inD k p = false := by unfold inD; rw [K, if_pos rfl]; simp
      rw [h1, Bool.or_false] at h
      have h : le ((s.wrote p l).lv p) k = true := h
      rw [L, if_pos rfl] at h
      have := of_decide_eq_true (show decide (l ≤ (k : Int)) = true from h)
      rcases key k hk' this with w | w <;> rw [w] <;> simp
    · have h1 : (s.wrote p l).inS k x = s.inS k x := by unfold inS; rw [L, if_neg z]
      have h2 : (s.wrote p l).inD k x = s.inD k x := by unfold inD; rw [L, if_neg z, K, if_neg z]; rfl
      rw [h1, h2] at h; exact h
theorem WF.looked (W : s.WF) (hp : p < s.n) (hk : s.lo p = true) : (s.looked p).WF := by
  have V := fun q => vi_looked (q := q) W hp
  have K := fun q => lo_looked (q := q) W hp
  have hv : s.vi p = none := by
    cases e : s.vi p with
    | none => rfl
    | some v => have := W.vlk p (by rw [e]; simp); rw [hk] at this; cases this
  obtain ⟨x, hx⟩ : ∃ x, s.lv p = some x := by
    cases e : s.lv p with
    | none => exact absurd e (W.lkl p hk)
    | some x => exact ⟨x, rfl⟩
  have ho : s.own p = x := by unfold own; rw [hx]; rfl
  obtain ⟨r1, r2⟩ := W.rng p x hx
  obtain ⟨k, rfl⟩ : ∃ k : Nat, x = k := ⟨x.toNat, by omega⟩
  refine ⟨W.n1, W.n5, by show (s.vw.set p _).length = _; rw [List.length_set]; exact W.lw, by show (s.lk.set p _).length = _; rw [List.length_set]; exact W.ll, W.rng, fun q hq => ?_, fun q v hq => ?_, fun q hq => ?_, fun j hj => ?_⟩
  · rw [K] at hq
    split at hq
    · cases hq
    · exact W.lkl q hq
  · rw [V] at hq
    by_cases z : p = q
    · rw [if_pos z] at hq
      subst z
      unfold seen at hq
      rw [ho] at hq
      split at hq
      · rename_i h
        cases hq
        have := W.below_le k (by omega)
        exact ⟨k, hx, rfl, by show (s.below k).length = k; omega⟩
      · cases hq
    · rw [if_neg z] at hq; exact W.vil q v hq
  · rw [K]
    split
    · rfl
    · rename_i z; rw [V, if_neg z] at hq; exact W.vlk q hq
  · have hj : j < s.n := hj
    show (List.range s.n).countP _ ≤ j
    have oth : ∀ q, p ≠ q → (s.looked p).inD j q = s.inD j q := fun q z => by unfold inD; rw [K, if_neg z, V, if_neg z]; rfl
    by_cases c : k = j + 1 ∧ s.seen p = none
    · obtain ⟨c1, c2⟩ := c
      have hb : (s.below (j + 1 : Nat)).length ≤ j := by
        unfold seen at c2
        rw [ho] at c2
        split at c2
        · cases c2
        · rename_i h; rw [← c1]; omega
      rw [below_len] at hb
      refine Nat.le_trans (List.countP_mono_left fun y hy h => ?_) hb
      rcases Bool.or_eq_true_iff.mp h with w | w
      · have w : le (s.lv y) j = true := w
        cases e : s.lv y with
        | none => rw [e] at w; cases w
        | some z => rw [e] at w; have := of_decide_eq_true (show decide (z ≤ (j : Int)) = true from w); exact decide_eq_true (by omega)
      · unfold inD at w
        rw [Bool.and_eq_true, Bool.and_eq_true] at w
        have := of_decide_eq_true w.1.1
        have this : s.lv y = some ((j : Int) + 1) := this
        rw [this]; exact decide_eq_true (by omega)
    · refine Nat.le_trans (List.countP_mono_left fun y hy h => ?_) (W.few j hj)
      rcases Bool.or_eq_true_iff.mp h with w | w
      · have w : s.inS j y = true := w
        rw [w]; rfl
      · by_cases z : p = y
        · subst z
          exfalso
          unfold inD at w
          rw [Bool.and_eq_true, Bool.and_eq_true] at w
          have h1 := of_decide_eq_true w.1.1
          have h1 : s.lv p = some ((j : Int) + 1) := h1
          rw [hx] at h1
          have h1 := Option.some.inj h1
          have h2 := w.2
          rw [V, if_pos rfl] at h2
          refine c ⟨by omega, ?_⟩
          cases e : s.seen p with
          | none => rfl
          | some v => rw [e] at h2; cases h2
        · rw [oth y z] at w; rw [w]; simp
theorem next_none : s.next p = none ↔ s.vi p ≠ none := by
  unfold next
  cases s.vi p with
  | none => simp; split <;> simp
  | some v => simp
theorem WF.step (W : s.WF) (hp : p < s.n) : (s.step p).WF := by
  unfold LS.step
  cases e : s.next p with
  | none => exact W
  | some du =>
    have hv : s.vi p = none := Classical.byContradiction fun z => by rw [next_none.mpr z] at e; cases e
    unfold LS.next at e
    rw [hv] at e
    simp only [Option.isSome_none, Bool.false_eq_true, if_false] at e
    cases hk : s.lo p with
    | true => rw [hk] at e; cases e; exact W.looked hp hk
    | false =>
      rw [hk] at e
      cases e
      refine W.wrote hp hv hk ?_
      cases s.lv p <;> rfl
/-- views stay -/
theorem vi_keep {v : List Nat} (W : s.WF) (hp : p < s.n) (h : s.vi q = some v) : (s.step p).vi q = some v := by
  unfold LS.step
  cases e : s.next p with
  | none => exact h
  | some du =>
    have hv : s.vi p = none := Classical.byContradiction fun z => by rw [next_none.mpr z] at e; cases e
    have pq : p ≠ q := fun z => by rw [z, h] at hv; cases hv
    cases du with
    | wr l => exact h
    | look => show (s.looked p).vi q = _; rw [vi_looked W hp, if_neg pq]; exact h
/-- how many steps one that goes on alone has still to do, at most -/
def left (s : LS) (p : Nat) : Int := if (s.vi p).isSome then 0 else match s.lv p with
  | none => 2 * (s.n : Nat)
  | some l => if s.lo p then 2 * l - 1 else 2 * l - 2
theorem left_step (W : s.WF) (hp : p < s.n) (h : s.vi p = none) : (s.step p).left p < s.left p ∧ 0 < s.left p := by
  have n1 := W.n1
  have e0 : s.left p = match s.lv p with
    | none => 2 * (s.n : Nat)
    | some l => if s.lo p then 2 * l - 1 else 2 * l - 2 := by unfold left; rw [h]; rfl
  unfold LS.step
  cases hk : s.lo p with
  | true =>
    have en : s.next p = some .look := by unfold next; rw [h, hk]; rfl
    rw [en]
    obtain ⟨x, hx⟩ : ∃ x, s.lv p = some x := by
      cases e : s.lv p with
      | none => exact absurd e (W.lkl p hk)
      | some x => exact ⟨x, rfl⟩
    have r := W.rng p x hx
    rw [hx, hk] at e0
    simp only [if_true] at e0
    rw [e0]
    show (s.looked p).left p < _ ∧ _
    refine ⟨?_, by omega⟩
    unfold left
    rw [vi_looked W hp, if_pos rfl, lo_looked W hp, if_pos rfl, lv_looked, hx]
    split
    · omega
    · simp only [Bool.false_eq_true, if_false]; omega
  | false =>
    cases hl : s.lv p with
    | none =>
      have en : s.next p = some (.wr (s.n : Nat)) := by unfold next; rw [h, hk, hl]; rfl
      rw [en]
      rw [hl] at e0
      simp only at e0
      rw [e0]
      show (s.wrote p (s.n : Nat)).left p < _ ∧ _
      refine ⟨?_, by omega⟩
      unfold left
      rw [vi_wrote, h, lo_wrote W hp, if_pos rfl, lv_wrote hp, if_pos rfl]
      simp only [Option.isSome_none, Bool.false_eq_true, if_false, if_true]
      omega
    | some x =>
      have en : s.next p = some (.wr (x - 1)) := by unfold next; rw [h, hk, hl]; rfl
      rw [en]
      rw [hl, hk] at e0
      simp only [Bool.false_eq_true, if_false] at e0
      rw [e0]
      have r := W.rng p x hl
      have x2 : 2 ≤ x := by
        rcases (show x = 1 ∨ 2 ≤ x by omega) with z | z
        · exfalso
          have hf := W.few 0 (by omega)
          have hz : (List.range s.n).countP (fun p => s.inS 0 p || s.inD 0 p) = 0 := by omega
          rw [List.countP_eq_zero] at hz
          refine hz p (List.mem_range.mpr hp) ?_
          unfold inD
          rw [hl, z, hk, h]
          simp
        · exact z
      show (s.wrote p (x - 1)).left p < _ ∧ _
      refine ⟨?_, by omega⟩
      unfold left
      rw [vi_wrote, h, lo_wrote W hp, if_pos rfl, lv_wrote hp, if_pos rfl]
      simp only [Option.isSome_none, Bool.false_eq_true, if_false, if_true]
      omega
theorem left_top (W : s.WF) : s.left p ≤ 2 * (s.n : Nat) := by
  unfold left
  split
  · omega
  · split
    · omega
    · rename_i l hl
      have := W.rng p l hl
      split <;> omega
/-- a view has its own hand, and all elder views, if the hand was fresh -/
theorem WF.self (W : s.WF) {v : List Nat} (h : s.vi p = some v) : p ∈ v := by
  obtain ⟨l, h1, h2, _⟩ := W.vil p v h
  rw [h2]
  exact mem_below.mpr ⟨lt_of_lv h1, by rw [le_some h1]; exact decide_eq_true (Int.le_refl _)⟩
theorem WF.elder (W : s.WF) {s0 : LS} (W0 : s0.WF) {v w : List Nat} (hf : s0.lv p = none) (h : s.vi p = some v) (hq : s.vi q = some w) (hq0 : s0.vi q = some w) : ∀ x ∈ w, x ∈ v := by
  obtain ⟨l, h1, h2, _⟩ := W.vil p v h
  obtain ⟨k, k1, k2, _⟩ := W.vil q w hq
  obtain ⟨k0, j1, j2, _⟩ := W0.vil q w hq0
  have hpw : p ∉ w := fun z => by
    rw [j2] at z
    have := (mem_below.mp z).2
    rw [hf] at this; cases this
  have hkl : k ≤ l := by
    rcases Nat.lt_or_ge l k with z | z
    · exfalso
      refine hpw ?_
      rw [k2]
      exact mem_below.mpr ⟨lt_of_lv h1, by rw [le_some h1]; exact decide_eq_true (by omega)⟩
    · exact z
  intro x hx
  rw [k2] at hx
  obtain ⟨a, b⟩ := mem_below.mp hx
  rw [h2]
  refine mem_below.mpr ⟨a, ?_⟩
  cases e : s.lv x with
  | none => rw [e] at b; cases b
  | some y => rw [e] at b; have := of_decide_eq_true (show decide (y ≤ (k : Int)) = true from b); exact decide_eq_true (by omega)
end
end LS
end Fp
/-! len of an object with an own __len__; data that stays, whatever lists change; C(k = v) -/
namespace Fp
open PySem PySem.Spec PyProof.Rows L2
structure LenC (P : Program) (w : World) (K : PySem.W.Frag) (mg : Str → Option Value) (base : Heap) (C : Addr) (n : Nat) (ps : List Str) (sp : Sp) : Prop where
  ex : ∃ (f : Addr) (fd : FuncData), PySem.W.findIn K (.ref C) "__len__" = some (some (.ref f)) ∧ PySem.W.isFn K (.ref f) = true ∧ Binds K fd ps [] ∧ FnOk P w K mg base CX0 n f fd ps sp
def rLenO (C : Addr) (sp : Sp) : List V → Hp → VK → Prop := fun xs H Q => ∃ (a dx : Addr) (fs : List (Str × V)), xs = [.ref a] ∧ H a = some (.ins C dx fs) ∧ sp [.ref a] H (fun v H' => ∃ n : Nat, v = .int n ∧ n < 2 ^ 62 ∧ Q (.int n) H') E0
section
variable {X : Cx} {C : Addr} {n : Nat} {ps : List Str} {sp : Sp}
theorem call_lenO (M : LenC X.prog X.w X.K X.mg X.base C n ps sp) (hr : Room (n + 1) X.A) : CallR X (.builtin "len") (rLenO C sp) := by
  intro pins s σ H xs us Q I r h
  obtain ⟨a, dx, fs, rfl, ha, q⟩ := h
  rw [Vals.ref1 r]
  obtain ⟨f, fd, hs, hf, hb, F⟩ := M.ex
  obtain ⟨mA, J, _⟩ := ins_get I.hok ha
  obtain ⟨od, J, _⟩ := J.look
  obtain ⟨m, hF⟩ := I.fr
  refine PySem.W.len_K hF I.ok.mod.kin J hs hf ?_
  have e0 : Env0 X.prog X.w X.K X.mg X.base X.A.in1 X.stack s H := I.env0.in1
  have r2 : Vals ([V.ref a] ++ []) ([Value.ref a] ++ []) := Vals.append (.cons rfl .nil) .nil
  have hsp : sp ([V.ref a] ++ []) H (fun v H' => ∃ n : Nat, v = .int n ∧ n < 2 ^ 62 ∧ Q (.int n) H') E0 := q
  have hl : ([Value.ref a] ++ []).length = ps.length := by rw [← r2.length]; exact F.len _ _ _ _ hsp
  refine wpAny_call (codeAny_mono (F.run X.A.in1 X.stack s H ⟨[.ref a], []⟩ _ _ _ E0 hr.in1 e0 (hb s [.ref a] I.kIn hl) r2 hsp) fun r s' hq => ?_)
  cases r with
  | error e => exact pass0 pins σ H s e s' I hq
  | ok fl =>
    cases fl with
    | ret u =>
      obtain ⟨v, H', I', rv, k, rfl, hk, q'⟩ := I.after hq
      obtain ⟨t, rfl⟩ := rv
      exact ⟨⟨by omega, by omega⟩, .int k, H', I'.tok _, ⟨_, rfl⟩, q'⟩
    | next => exact False.elim hq
    | brk => exact False.elim hq
    | cont => exact False.elim hq
end
/-! ### C(k = v) -/
structure MkK (P : Program) (w : World) (K : PySem.W.Frag) (mg : Str → Option Value) (base : Heap) (x : Str) (C : Addr) (k : Nat) (ps ks : List Str) (sp : Sp) : Prop where
  at_ : mg x = some (.ref C)
  ex : ∃ (f : Addr) (fd : FuncData), Mk K C f ∧ KBn K fd ps 1 ks (fun us ws => us ++ ws) (fun vs zs => vs ++ zs) ∧ FnOk P w K mg base CX0 k f fd ps sp
section
variable {X : Cx} {x : Str} {k : Nat} {ps ks : List Str} {sp : Sp} {C : Addr} {kws : List Keyword} {tk : TA} {p pos : Pos}
theorem pe_mkK (M : MkK X.prog X.w X.K X.mg X.base x C k ps ks sp) (hr : Room (k + 1) X.A) (hg : Gl X x) (hkw : PK X kws tk)
    (hall : (backToKw pos (keywordEach kws X.env)).all (·.1.isSome) = true := by rfl) (hks : (backToKw pos (keywordEach kws X.env)).filterMap (·.1) = ks := by rfl) (hdb : (x == ("__debug__" : Str)) = false := by decide)
    (hpl : ((backTo pos (starEach [] X.env)).any (·.1) || (backToKw pos (keywordEach kws X.env)).any (·.1.isNone)) = false := by rfl) :
    PE X (.Call (.Name x p) [] kws pos) (tMakeK C 0 ks.length sp (fun vs zs => vs ++ zs) E0 tNil tk) := by
  obtain ⟨f, fd, h1, h2, h3⟩ := M.ex
  exact pe_makeK0 h1 h3 hr hg M.at_ h2 pass0 hkw hall hks hdb hpl
end
/-! ### data that stays -/
def SD (K : PySem.W.Frag) (H : Hp) (x : V) (d : PyData) : Prop := ∀ H', TK H H' → Dp K H' x d
section
variable {K : PySem.W.Frag} {H H' : Hp} {x v : V} {d dv : PyData} {t : Addr} {xs : List V} {ds : List PyData}
theorem SD.mono (h : SD K H x d) (g : TK H H') : SD K H' x d := fun _ g2 => h _ (g.trans g2)
theorem SDs.mono (h : Paired (SD K H) xs ds) (g : TK H H') : Paired (SD K H') xs ds := pr_imp (fun _ _ h => SD.mono h g) h
theorem SDs.dp : ∀ {xs : List V} {ds : List PyData}, Paired (SD K H) xs ds → DpAll K H xs ds
  | _, _, .nil => .nil
  | _, _, .cons a b => .cons (a _ (.refl _)) (SDs.dp b)
theorem sd_tup (h : H t = some (.tup xs)) (a : Paired (SD K H) xs ds) : SD K H (.ref t) (.tuple ds) := fun _ g => .tup (.of (g.t h)) (SDs.dp (SDs.mono a g))
theorem sd_int (i : Int) : SD K H (.int i) (.int i) := fun _ _ => .int i
theorem sd_str (z : Str) : SD K H (.str z) (.str z) := fun _ _ => .str z
theorem sd_non : SD K H .non .none := fun _ _ => .non
theorem sd_val (h : VAt H v dv) : SD K H v dv := fun _ g => (h.mono g).dp
/-- what is told, as data, the word's being dv -/
def tdD (dv : PyData) : Told → PyData
  | .level i => .tuple [.str "level", .int i]
  | .look l => .tuple [.str "look", .tuple (l.map lvD)]
  | .wait => .tuple [.str "wait"]
  | .word _ => .tuple [.str "word", dv]
theorem sd_lv : ∀ l : List Lv, Paired (SD K H) (l.map lvV) (l.map lvD)
  | [] => .nil
  | none :: l => .cons sd_non (sd_lv l)
  | some i :: l => .cons (sd_int i) (sd_lv l)
theorem sd_told {x : Told} (h : ToldAt H t x) (hw : ∀ v, x = .word v → VAt H v dv) : SD K H (.ref t) (tdD dv x) := by
  cases x with
  | level i => exact sd_tup h (.cons (sd_str _) (.cons (sd_int _) .nil))
  | look l =>
    obtain ⟨q, a, b⟩ := h
    intro H' g
    exact .tup (.of (g.t a)) (.cons (.str _) (.cons (.tup (g.tt b).sq (SDs.dp (sd_lv l))) .nil))
  | wait => exact sd_tup h (.cons (sd_str _) .nil)
  | word v => exact sd_tup h (.cons (sd_str _) (.cons (sd_val (hw v rfl)) .nil))
end
/-- how many steps were done -/
def DS.stps (s : DS) : Nat := (s.deeds.filter (·.stp)).length
def spDLen (C : Addr) : Sp := fun vs H Q _ => ∃ (d : Addr) (s : DS), vs = [.ref d] ∧ DoorAt C H d s ∧ s.deeds.length < 100000 ∧ ∀ H', Same H H' → Q (.int (s.stps : Nat)) H'
end Fp
namespace Fp
open PySem PySem.Spec PyProof.Rows L2
/-! ### steps one by one -/
section
variable {C : Addr} {H H1 H2 : Hp} {d : Addr} {s : DS} {c h : List (Option V)} {l : List Lv} {sn : List (Option (List Lv))} {ds : List Deed} {p n m : Nat} {x : V}
theorem nx_step (e1 : ds.length = n) (e2 : (ds.filter (·.stp)).length = m) (D : DoorAt C H d (DS.mk c l h sn (ds ++ [⟨true, p, x⟩]))) :
    ∃ ds' : List Deed, ds'.length = n + 1 ∧ (ds'.filter (·.stp)).length = m + 1 ∧ DoorAt C H d ⟨c, l, h, sn, ds'⟩ := ⟨_, by rw [List.length_append, e1]; rfl, by rw [List.filter_append, List.length_append, e2]; rfl, D⟩
theorem nx_come (e1 : ds.length = n) (e2 : (ds.filter (·.stp)).length = m) (D : DoorAt C H d (DS.mk c l h sn (ds ++ [⟨false, p, x⟩]))) :
    ∃ ds' : List Deed, ds'.length = n + 1 ∧ (ds'.filter (·.stp)).length = m ∧ DoorAt C H d ⟨c, l, h, sn, ds'⟩ := ⟨_, by rw [List.length_append, e1]; rfl, by rw [List.filter_append, List.length_append, e2]; rfl, D⟩
theorem Same.into {H0 : Hp} (F : Same H0 H1) (g : But [d] H1 H2) (hd : H0 d = none) : Same H0 H2 := fun b o e => g b o (by
  rw [List.mem_singleton]
  intro z
  rw [z, hd] at e
  cases e) (F b o e)
end
theorem SD.now {K : PySem.W.Frag} {H : Hp} {x : V} {d : PyData} (h : SD K H x d) : Dp K H x d := h H (.refl _)
theorem Same.gone {H H1 : Hp} {a : Addr} (F : Same H H1) (h : H1 a = none) : H a = none := by
  cases e : H a with
  | none => rfl
  | some o => rw [F a o e] at h; cases h
theorem Same.put {H H1 : Hp} {a : Addr} {o : HO} (F : Same H H1) (h : H a = none) : Same H (upd H1 a o) := fun b u e => by
  rw [upd_ne (fun z => by rw [z, h] at e; cases e)]; exact F b u e
theorem pr_append {α β : Type} {F : α → β → Prop} : ∀ {l l' : List α} {m m' : List β}, Paired F l m → Paired F l' m' → Paired F (l ++ l') (m ++ m')
  | _, _, _, _, .nil, h => h
  | _, _, _, _, .cons a r, h => .cons a (pr_append r h)
theorem pr_two {α β : Type} {F : α → β → Prop} {l : List α} {a b : β} (h : Paired F l [a, b]) : ∃ x y, l = [x, y] ∧ F x a ∧ F y b := by
  cases h with
  | cons h1 t => cases t with
    | cons h2 t => cases t; exact ⟨_, _, rfl, h1, h2⟩
/-- one player alone, at 2, step by step -/
def lateS (v : V) : Nat → List Deed → DS
  | 0, ds => ⟨[none, none, some v], [none, none, none], [none, none, none], [none, none, none], ds⟩
  | 1, ds => ⟨[none, none, some v], [none, none, some 1], [none, none, none], [none, none, none], ds⟩
  | 2, ds => ⟨[none, none, some v], [none, none, some 1], [none, none, none], [none, none, some [none, none, some 1]], ds⟩
  | 3, ds => ⟨[none, none, some v], [none, none, some 2], [none, none, none], [none, none, some [none, none, some 1]], ds⟩
  | _, ds => ⟨[none, none, some v], [none, none, some 2], [none, none, some v], [none, none, some [none, none, some 1]], ds⟩
def lateT (v : V) : Nat → Told
  | 0 => .level 1
  | 1 => .look [none, none, some 1]
  | 2 => .level 2
  | _ => .word v
theorem late_step (v : V) (i : Nat) (ds : List Deed) (hi : i < 4) : (lateS v i ds).cm 2 ≠ none ∧ (lateS v i ds).told 2 = lateT v i ∧ (lateS v i ds).deeds = ds ∧ ∃ x, (lateS v i ds).step 2 = lateS v (i + 1) (ds ++ [⟨true, 2, x⟩]) := by
  rcases (show i = 0 ∨ i = 1 ∨ i = 2 ∨ i = 3 by omega) with rfl | rfl | rfl | rfl <;> exact ⟨fun z => (nomatch (show some v = none from z)), rfl, rfl, _, rfl⟩
theorem late_word {v x : V} {i : Nat} (hi : i < 4) (h : lateT v i = .word x) : x = v := by
  rcases (show i = 0 ∨ i = 1 ∨ i = 2 ∨ i = 3 by omega) with rfl | rfl | rfl | rfl <;> first | (cases h; done) | (injection h with h; exact h.symm)
theorem Sms.list {k n m : Nat} {ds : List PyData} (h : ∀ d ∈ ds, Sm k n d) (hm : (n + 1) * ds.length ≤ m) : Sm (k + 1) m (.list ds) := (Sms.all h).lst.mono (Nat.le_refl _) hm
theorem sm_td {dv : PyData} (ho : VOk 3 dv) (x : Told) (h : ∀ i, x = .level i → 0 ≤ i ∧ i ≤ 2) (hl : ∀ l, x = .look l → l.length ≤ 5 ∧ ∀ i, some i ∈ l → 0 ≤ i ∧ i ≤ 2) : Sm 6 100 (tdD dv x) := by
  cases x with
  | level i => exact sm_level (h i rfl).1 (h i rfl).2
  | look l =>
    have := hl l rfl
    exact (Sms.tup (.cons ((sm_word "look" (by decide +kernel)).mono (by decide : 1 ≤ 2) (Nat.le_refl 10)) (.cons (lv_sms this.2 this.1).tup (Sms.nil (n := 0))))).mono (by decide) (by decide)
  | wait => exact sm_wait
  | word v => exact sm_wordD ho
end Fp
/-! k35: the last two turned about; what deeds are as data; shown texts that differ -/
namespace Fp
open PySem PySem.Spec PyProof.Rows L2
theorem pick2 (its : List Value) (n : Nat) (a b : Value) (hn : its.length = n + 2) (ha : its[n + 1]? = some a) (hb : its[n]? = some b) : slicePick its.toArray none (some (-3)) (some (-1)) = #[a, b] := by
  unfold slicePick
  have hs : its.toArray.size = n + 2 := by simpa using hn
  have e : sliceBounds none (some (-3)) (some (-1)) its.toArray.size = ((n : Int) + 1, (n : Int) - 1, -1) := by
    rw [hs]
    unfold sliceBounds
    simp only [Option.getD_some, show ¬ ((-1 : Int) > 0) by decide, if_false, show ((-3 : Int) < 0) by decide, if_true]
    refine Prod.ext ?_ (Prod.ext ?_ rfl)
    · show ((n + 2 : Nat) : Int) - 1 = (n : Int) + 1; omega
    · show max (-1) (min (-3 + ((n + 2 : Nat) : Int)) (((n + 2 : Nat) : Int) - 1)) = (n : Int) - 1; omega
  rw [e]
  have r : sliceRange ((n : Int) + 1) ((n : Int) - 1) (-1) = [n + 1, n] := by
    unfold sliceRange
    have h : (n : Int) + 1 > (n : Int) - 1 := by omega
    have c : ((n : Int) + 1 - ((n : Int) - 1) - -1 - 1) / (- -1) = 2 := by
      rw [show (- -1 : Int) = 1 by decide, Int.ediv_one]; omega
    simp only [show ¬ ((-1 : Int) > 0) by decide, if_false, h, if_true, c]
    show [(((n : Int) + 1 + -1 * ((0 : Nat) : Int))).toNat, (((n : Int) + 1 + -1 * ((1 : Nat) : Int))).toNat] = _
    rw [show ((n : Int) + 1 + -1 * ((0 : Nat) : Int)).toNat = n + 1 by omega, show ((n : Int) + 1 + -1 * ((1 : Nat) : Int)).toNat = n by omega]
  show ((sliceRange ((n : Int) + 1) ((n : Int) - 1) (-1)).filterMap (its.toArray[·]?)).toArray = _
  rw [r]
  simp [ha, hb]
def tLast2 (K : PySem.W.Frag) (te : TE) : TE := fun σ H Q => te σ H fun x H1 => ∃ a xs u v, x = .ref a ∧ SqL K H1 a (xs ++ [u, v]) ∧ ∀ p, H1 p = none → Q (.ref p) (upd H1 p (.lst [v, u]))
section
variable {X : Cx}
theorem pe_last2 {e : Expr} {te : TE} {k k2 : Nat} {p1 p2 p3 p4 p5 pos : Pos} (he : PE X e te) : PE X (.Subscript e (.Slice none (some (.UnaryOp .USub (.Constant (.int 3) k2 p4) p5)) (some (.UnaryOp .USub (.Constant (.int 1) k p1) p2)) p3) pos) (tLast2 X.K te) := by
  refine ⟨fun pins s σ H Q I h => ?_⟩
  refine Subscript_ (thn (he.run pins s σ H _ I h) fun v s1 ⟨x, H1, I1, r1, q1⟩ => ?_)
  obtain ⟨a, xs, u1, v1, ex, hx, q⟩ := q1
  subst ex
  cases r1
  have hst : PO X (some (.UnaryOp .USub (.Constant (.int 1) k p1) p2)) (tPart (tUn (rU fun i => .int (-i)) (tC (.int 1)))) := po_some (pe_un un_neg pe_int)
  have hst3 : PO X (some (.UnaryOp .USub (.Constant (.int 3) k2 p4) p5)) (tPart (tUn (rU fun i => .int (-i)) (tC (.int 3)))) := po_some (pe_un un_neg pe_int)
  refine wpAny_Slice (thn (po_none.run pins s1 σ H1 (fun o H2 => o = none ∧ H2 = H1) I1 ⟨rfl, rfl⟩) fun vl s2 ⟨l, H2, I2, pl, el, e2⟩ => ?_)
  subst el e2
  refine thn (hst3.run pins s2 σ H2 (fun o H3 => o = some (-3) ∧ H3 = H2) I2 ⟨3, rfl, -3, rfl, rfl, rfl⟩) fun vu s3 ⟨u, H3, I3, pu, eu, e3⟩ => ?_
  subst eu e3
  refine thn (hst.run pins s3 σ H3 (fun o H4 => o = some (-1) ∧ H4 = H3) I3 ⟨1, rfl, -1, rfl, rfl, rfl⟩) fun vs s4 ⟨o, H4, I4, ps, eo, e4⟩ => ?_
  subst eo e4
  have I5 : Inv X pins σ H4 { s4 with heap := s4.heap.push { cls := .type "slice", data := .fields #[vl, vu, vs] } } := I4.kept (t' := s4.toks) fun b ob q => Heap.get?_push_of_some _ q
  obtain ⟨its, r, ht, hz⟩ := I5.list hx
  have hlen := r.length
  rw [List.length_append] at hlen
  have hl2 : its.length = xs.length + 2 := hlen.symm
  show wpAny (model X.prog X.w) X.A (subscriptTail e (.Slice none (some (.UnaryOp .USub (.Constant (.int 3) k2 p4) p5)) (some (.UnaryOp .USub (.Constant (.int 1) k p1) p2)) p3) (.ref a) (.ref s4.heap.objs.size)) (EP X pins σ Q) X.xe { s4 with heap := s4.heap.push { cls := .type "slice", data := .fields #[vl, vu, vs] } }
  refine tail_any (ops := [.ref a, .ref s4.heap.objs.size]) ht.isList.typeIs (PySem.slot_list_getitem.lookup) ?_ (by with_unfolding_all rfl)
  refine wpAny_getItem_list_slice ht.isList (Heap.IsSliceOf.new _ vl vu vs) pl pu ps (by decide) ?_ (by rw [List.size_toArray]; rw [List.length_append] at hz; omega)
  obtain ⟨w1, hw1, rw1⟩ := r.get (i := xs.length + 1) (x := v1) (by rw [List.getElem?_append_right (by omega), show xs.length + 1 - xs.length = 1 by omega]; rfl)
  obtain ⟨w2, hw2, rw2⟩ := r.get (i := xs.length) (x := u1) (by rw [List.getElem?_append_right (by omega), Nat.sub_self]; rfl)
  rw [pick2 its xs.length w1 w2 hl2 hw1 hw2]
  refine ⟨.ref _, _, I5.laid (t' := s4.toks) (o := .lst [v1, u1]) (fun b ob q => Heap.get?_push_of_some _ q) (Nat.le_refl _) ?_, rfl, q _ (I5.hok.fresh (Nat.le_refl _))⟩
  exact ⟨by show 2 ≤ sizeLine; decide, _, 0, .cons rw1 (.cons rw2 .nil), Heap.get?_push_size _ rfl⟩
end
/-! ### deeds -/
theorem DS.step_deeds (s : DS) (p : Nat) : (s.step p).deeds = s.deeds ++ [⟨true, p, .str (DS.kindOf (s.stg p))⟩] := by
  have h4 := DS.stg_lt s p
  rcases (show s.stg p = 0 ∨ s.stg p = 1 ∨ s.stg p = 2 ∨ s.stg p = 3 by omega) with e | e | e | e
  · rw [DS.step0 e, e]; rfl
  · rw [DS.step1 e, e]; rfl
  · rw [DS.step2 e, e]; rfl
  · rw [DS.step3 e, e]; split <;> rfl
structure DS.DOk (s : DS) : Prop where
  hok : ∀ q x, s.hd q = some x → ∃ r, s.cm r = some x
  dcm : ∀ d ∈ s.deeds, d.stp = false → s.cm d.p = some d.x
  dst : ∀ d ∈ s.deeds, d.stp = true → ∃ k, k ≤ 3 ∧ d.x = .str (DS.kindOf k)
  dp : ∀ d ∈ s.deeds, d.p < 5
theorem DS.DOk.new (n : Nat) : (DS.new n).DOk := ⟨fun q x h => (by rw [DS.hd_new] at h; cases h), fun d h => absurd h (by simp [DS.new]), fun d h => absurd h (by simp [DS.new]), fun d h => absurd h (by simp [DS.new])⟩
theorem DS.DOk.come {s : DS} {p : Nat} {v : V} (h : s.DOk) (W : s.WF) (hp : p < s.lev.length) (hc : s.cm p = none) : (s.come p v).DOk := by
  have keep : ∀ r x, s.cm r = some x → (s.come p v).cm r = some x := fun r x hr => by
    rw [DS.cm_come, if_neg]
    · exact hr
    · rintro ⟨z, _⟩; rw [← z, hc] at hr; cases hr
  have e : (s.come p v).deeds = s.deeds ++ [⟨false, p, v⟩] := rfl
  have h5 := W.n5
  refine ⟨fun q x hq => ?_, fun d hd hs => ?_, fun d hd hs => ?_, fun d hd => ?_⟩
  · rw [DS.hd_come] at hq
    obtain ⟨r, hr⟩ := h.hok q x hq
    exact ⟨r, keep r x hr⟩
  · rw [e] at hd
    rcases List.mem_append.mp hd with hd | hd
    · exact keep _ _ (h.dcm d hd hs)
    · rw [List.mem_singleton] at hd; subst hd
      rw [DS.cm_come, if_pos ⟨rfl, by rw [W.lc]; exact hp⟩]
  · rw [e] at hd
    rcases List.mem_append.mp hd with hd | hd
    · exact h.dst d hd hs
    · rw [List.mem_singleton] at hd; subst hd; cases hs
  · rw [e] at hd
    rcases List.mem_append.mp hd with hd | hd
    · exact h.dp d hd
    · rw [List.mem_singleton] at hd; subst hd; show p < 5; omega
theorem DS.DOk.step {s : DS} {p : Nat} (h : s.DOk) (W : s.WF) (hc : s.cm p ≠ none) : (s.step p).DOk := by
  have hp := DS.lt_of_cm W hc
  have h5 := W.n5
  refine ⟨fun q x hq => ?_, fun d hd hs => ?_, fun d hd hs => ?_, fun d hd => ?_⟩
  · rw [DS.hd_step W hc] at hq
    split at hq
    · exact ⟨s.two, by rw [DS.cm_step]; exact hq⟩
    · obtain ⟨r, hr⟩ := h.hok q x hq
      exact ⟨r, by rw [DS.cm_step]; exact hr⟩
  · rw [DS.step_deeds] at hd
    rw [DS.cm_step]
    rcases List.mem_append.mp hd with hd | hd
    · exact h.dcm d hd hs
    · rw [List.mem_singleton] at hd; subst hd; cases hs
  · rw [DS.step_deeds] at hd
    rcases List.mem_append.mp hd with hd | hd
    · exact h.dst d hd hs
    · rw [List.mem_singleton] at hd; subst hd; exact ⟨_, DS.stg_lt s p, rfl⟩
  · rw [DS.step_deeds] at hd
    rcases List.mem_append.mp hd with hd | hd
    · exact h.dp d hd
    · rw [List.mem_singleton] at hd; subst hd; show p < 5; omega
theorem kind_cases {k : Nat} (h : k ≤ 3) : DS.kindOf k = "level" ∨ DS.kindOf k = "look" ∨ DS.kindOf k = "ask" := by
  rcases (show k = 0 ∨ k = 1 ∨ k = 2 ∨ k = 3 by omega) with e | e | e | e <;> subst e
  · exact .inl rfl
  · exact .inr (.inl rfl)
  · exact .inl rfl
  · exact .inr (.inr rfl)
theorem sm_kind {k : Nat} (h : k ≤ 3) : Sm 1 10 (.str (DS.kindOf k)) := by
  rcases kind_cases h with e | e | e <;> rw [e] <;> exact sm_word _ (by decide +kernel)
/-- a deed as data -/
def DD (d : Deed) (pd : PyData) : Prop := ∃ w x, pd = .tuple [.str w, .int (d.p : Nat), x]
theorem deeds_data {H : Hp} : ∀ ds : List Deed, (∀ d ∈ ds, (d.stp = false → Good H d.x) ∧ (d.stp = true → ∃ k, k ≤ 3 ∧ d.x = .str (DS.kindOf k)) ∧ d.p < 5) →
    ∃ pds : List PyData, (∀ (K : PySem.W.Frag) (H' : Hp) (dv : List V), TK H H' → Paired (DeedAt H') dv ds → DpAll K H' dv pds) ∧ (∀ d ∈ pds, Sm 5 70 d) ∧ Paired DD ds pds
  | [], _ => ⟨[], fun K H' dv g P => by cases P; exact .nil, fun d h => absurd h (by simp), .nil⟩
  | d :: ds, h => by
    obtain ⟨pds, h1, h2, h3⟩ := deeds_data ds fun e he => h e (List.mem_cons_of_mem _ he)
    obtain ⟨g0, g1, g2⟩ := h d List.mem_cons_self
    have smp : Sm 1 0 (.int (d.p : Nat)) := Sm.int (by omega) (by omega)
    cases hs : d.stp with
    | false =>
      obtain ⟨dx, vx, ox⟩ := g0 hs
      refine ⟨.tuple [.str "come", .int (d.p : Nat), dx] :: pds, fun K H' dv g P => ?_, fun e he => ?_, .cons ⟨_, _, rfl⟩ h3⟩
      · cases P with
        | cons a r =>
          obtain ⟨q, rfl, hq⟩ := a
          rw [hs] at hq
          exact .cons (.tup (.of hq) (.cons (.str _) (.cons (.int _) (.cons (vx.mono g).dp .nil)))) (h1 K H' _ g r)
      · rcases List.mem_cons.mp he with e' | e'
        · rw [e']
          exact (Sms.tup (.cons ((sm_word "come" (by decide +kernel)).mono (by decide : 1 ≤ 4) (Nat.le_refl 10)) (.cons (smp.mono (by decide) (Nat.le_refl 0)) (.cons ox.sm (Sms.nil (n := 0)))))).mono (by decide) (by decide)
        · exact h2 e e'
    | true =>
      obtain ⟨k, hk, ex⟩ := g1 hs
      refine ⟨.tuple [.str "step", .int (d.p : Nat), .str (DS.kindOf k)] :: pds, fun K H' dv g P => ?_, fun e he => ?_, .cons ⟨_, _, rfl⟩ h3⟩
      · cases P with
        | cons a r =>
          obtain ⟨q, rfl, hq⟩ := a
          rw [hs, ex] at hq
          exact .cons (.tup (.of hq) (.cons (.str _) (.cons (.int _) (.cons (.str _) .nil)))) (h1 K H' _ g r)
      · rcases List.mem_cons.mp he with e' | e'
        · rw [e']
          exact (Sms.tup (.cons ((sm_word "step" (by decide +kernel)).mono (by decide : 1 ≤ 4) (Nat.le_refl 10)) (.cons (smp.mono (by decide) (Nat.le_refl 0)) (.cons ((sm_kind hk).mono (by decide) (Nat.le_refl 10)) (Sms.nil (n := 0)))))).mono (by decide) (by decide)
        · exact h2 e e'
theorem eqv_players : ∀ {ds es : List Deed} {pd pe : List PyData}, Paired DD ds pd → Paired DD es pe → PyData.eqvAll pd pe = true → ds.map Deed.p = es.map Deed.p
  | _, _, _, _, .nil, .nil, _ => rfl
  | _, _, _, _, .nil, .cons _ _, h => by simp [PyData.eqvAll] at h
  | _, _, _, _, .cons _ _, .nil, h => by simp [PyData.eqvAll] at h
  | _, _, _, _, .cons a r, .cons b t, h => by
    obtain ⟨w, x, rfl⟩ := a
    obtain ⟨w', x', rfl⟩ := b
    rw [PyData.eqvAll, Bool.and_eq_true] at h
    have h1 := h.1
    simp only [PyData.eqv, PyData.eqvAll, Bool.and_eq_true] at h1
    have h2 := h1.2.1
    rw [List.map_cons, List.map_cons, eqv_players r t h.2]
    congr 1
    simp at h2
    omega
theorem DS.DOk.deeds {C : Addr} {H : Hp} {d : Addr} {s : DS} (h : s.DOk) (D : DoorAt C H d s) : ∀ x ∈ s.deeds, (x.stp = false → Good H x.x) ∧ (x.stp = true → ∃ k, k ≤ 3 ∧ x.x = .str (DS.kindOf k)) ∧ x.p < 5 := by
  intro x hx
  obtain ⟨dx', a, b, c, e, f, cv', hv', sv', dv', DD⟩ := D
  exact ⟨fun z => DD.good _ _ (h.dcm x hx z), h.dst x hx, h.dp x hx⟩
/-! ### (VALUE,) or None, as data -/
theorem opt_data {H : Hp} : ∀ m : List (Option V), (∀ x, some x ∈ m → Good H x) → ∃ ds : List PyData, (∀ (K : PySem.W.Frag) (H' : Hp) (cv : List V), TK H H' → Paired (One H') cv m → DpAll K H' cv ds) ∧ (∀ d ∈ ds, Sm 5 60 d) ∧ ds.length = m.length
  | [], _ => ⟨[], fun K H' cv g P => by cases P; exact .nil, fun d h => absurd h (by simp), rfl⟩
  | o :: m, h => by
    obtain ⟨ds, h1, h2, h3⟩ := opt_data m fun x hx => h x (List.mem_cons_of_mem _ hx)
    cases o with
    | none =>
      refine ⟨.none :: ds, fun K H' cv g P => ?_, fun d hd => ?_, by simp [h3]⟩
      · cases P with
        | cons a r => rw [show _ = V.non from a]; exact .cons .non (h1 K H' _ g r)
      · rcases List.mem_cons.mp hd with e | e
        · rw [e]; exact Sm.non.mono (by decide) (by decide)
        · exact h2 d e
    | some v =>
      obtain ⟨dv, vv, ov⟩ := h v List.mem_cons_self
      refine ⟨.tuple [dv] :: ds, fun K H' cv g P => ?_, fun d hd => ?_, by simp [h3]⟩
      · cases P with
        | cons a r => obtain ⟨q, rfl, hq⟩ := a; exact .cons (word_dp vv g hq) (h1 K H' _ g r)
      · rcases List.mem_cons.mp hd with e | e
        · rw [e]; exact word_data ov
        · exact h2 d e
/-! ### shown texts -/
theorem str_ext {a b : Str} (h : a.cps.toList = b.cps.toList) : a = b := by
  cases a; cases b; congr 1; exact Array.ext' h
theorem cpl (a b : Str) : (a ++ b).cps.toList = a.cps.toList ++ b.cps.toList := by rw [Str.cps_append]; simp
theorem textFrom_app : ∀ (as bs : List Str) (k : Nat) (acc : Str), textFrom k acc (as ++ bs) = textFrom (k + as.length) (textFrom k acc as) bs
  | [], bs, k, acc => rfl
  | a :: as, bs, k, acc => by
    show textFrom (k + 1) _ (as ++ bs) = _
    rw [textFrom_app as bs, List.length_cons, show k + 1 + as.length = k + (as.length + 1) by omega]
    rfl
def digit (p : Nat) : Nat := 48 + p
theorem int_text : ∀ p : Nat, p < 5 → (toString (p : Int) : Str).cps.toList = [digit p] := by decide +kernel
theorem pair_text {p : Nat} (hp : p < 5) (c : PyData) : ∃ r, (PyData.shown (.tuple [.int (p : Nat), c])).cps.toList = 40 :: digit p :: r := by
  refine ⟨?r, ?_⟩
  rotate_left
  · simp only [PyData.shown, PyData.shownAll, tupleText, Str.join, List.length_cons, List.length_nil]
    rw [cpl, cpl, cpl, cpl, int_text p hp]
    show [40] ++ ([digit p] ++ _ ++ _) ++ _ = _
    simp only [List.cons_append, List.nil_append, List.append_assoc]
    rfl
theorem shown_list (xs : List PyData) : PyData.shown (.list xs) = listText (PyData.shownAll xs) := by rw [PyData.shown]
theorem shownAll_app : ∀ xs ys : List PyData, PyData.shownAll (xs ++ ys) = PyData.shownAll xs ++ PyData.shownAll ys
  | [], ys => by simp [PyData.shownAll]
  | x :: xs, ys => by simp [PyData.shownAll, shownAll_app xs ys]
theorem textFrom2 (k : Nat) (acc a b : Str) : ∃ z, (textFrom k acc [a, b]).cps.toList = acc.cps.toList ++ (if k > 0 then [44, 32] else []) ++ a.cps.toList ++ z := by
  refine ⟨?z, ?_⟩
  rotate_left
  · show ((acc ++ _ ++ a) ++ _ ++ b).cps.toList = _
    rw [cpl, cpl, cpl, cpl]
    have : ((if k > 0 then ", " else "" : String) : Str).cps.toList = (if k > 0 then [44, 32] else []) := by split <;> decide +kernel
    rw [this, List.append_assoc]
/-- two lists of pairs that begin alike, and go on by other players -/
theorem shown_other {xs : List PyData} {p q : Nat} {c d : PyData} (hp : p < 5) (hq : q < 5) (h : p ≠ q) :
    PyData.shown (.list (xs ++ [.tuple [.int (p : Nat), c], .tuple [.int (q : Nat), d]])) ≠ PyData.shown (.list (xs ++ [.tuple [.int (q : Nat), d], .tuple [.int (p : Nat), c]])) := by
  intro e
  rw [shown_list, shown_list, shownAll_app, shownAll_app] at e
  unfold listText at e
  rw [textFrom_app, textFrom_app] at e
  have e2 := congrArg (fun z : Str => z.cps.toList) e
  simp only [cpl] at e2
  obtain ⟨z1, h1⟩ := textFrom2 (0 + (PyData.shownAll xs).length) (textFrom 0 "[" (PyData.shownAll xs)) (PyData.shown (.tuple [.int (p : Nat), c])) (PyData.shown (.tuple [.int (q : Nat), d]))
  obtain ⟨z2, h2⟩ := textFrom2 (0 + (PyData.shownAll xs).length) (textFrom 0 "[" (PyData.shownAll xs)) (PyData.shown (.tuple [.int (q : Nat), d])) (PyData.shown (.tuple [.int (p : Nat), c]))
  obtain ⟨r1, g1⟩ := pair_text hp c
  obtain ⟨r2, g2⟩ := pair_text hq d
  have s1 : PyData.shownAll [.tuple [.int (p : Nat), c], .tuple [.int (q : Nat), d]] = [PyData.shown (.tuple [.int (p : Nat), c]), PyData.shown (.tuple [.int (q : Nat), d])] := by simp [PyData.shownAll]
  have s2 : PyData.shownAll [.tuple [.int (q : Nat), d], .tuple [.int (p : Nat), c]] = [PyData.shown (.tuple [.int (q : Nat), d]), PyData.shown (.tuple [.int (p : Nat), c])] := by simp [PyData.shownAll]
  rw [s1, s2, h1, h2, g1, g2] at e2
  simp only [List.append_assoc] at e2
  have e3 := List.append_cancel_left (List.append_cancel_left e2)
  simp only [List.cons_append, List.cons.injEq, true_and] at e3
  have := e3.1
  unfold digit at this
  omega
theorem pr_imp' {α β : Type} {F G : α → β → Prop} : ∀ {l : List α} {m : List β}, Paired F l m → (∀ n ∈ l, ∀ y, F n y → G n y) → Paired G l m
  | _, _, .nil, _ => .nil
  | _, _, .cons a r, h => .cons (h _ List.mem_cons_self _ a) (pr_imp' r fun n hn => h n (List.mem_cons_of_mem _ hn))
def rListOf (K : PySem.W.Frag) : List V → Hp → VK → Prop := fun xs H Q => ∃ p ys, xs = [.ref p] ∧ (SqL K H p ys ∨ SqT K H p ys) ∧ ∀ l, H l = none → Q (.ref l) (upd H l (.lst ys))
theorem call_list_ofK {X : Cx} {K : PySem.W.Frag} (e : X.K = K := by rfl) : CallR X (.type "list") (rListOf K) := by subst e; exact call_list_of
/-! ### promises -/
def spCopy (C : Addr) : Sp := fun vs H Q _ => ∃ (d : Addr) (s : DS), vs = [.ref d] ∧ DoorAt C H d s ∧ ∀ e H', Same H H' → H e = none → DoorAt C H' e s → Q (.ref e) H'
def spDEq (C : Addr) : Sp := fun vs H Q _ => ∃ (d : Addr) (s : DS) (y : V), vs = [.ref d, y] ∧ DoorAt C H d s ∧ s.DOk ∧
  ((∃ e t, y = .ref e ∧ DoorAt C H e t ∧ t.DOk ∧ t.lev.length = s.lev.length ∧ ∀ b, (t.deeds = s.deeds → b = true) → (s.deeds.map Deed.p ≠ t.deeds.map Deed.p → b = false) → Q (.bl b) H) ∨ (∃ o kvs, y = .ref o ∧ H o = some (.dK kvs) ∧ Q (.bl false) H))
def spONext : Sp := fun vs H Q _ => ∃ (o : Addr) (L : List Addr) (p : Nat) (s : DS) (k : Int), vs = [.ref o, .int p] ∧ OwnAt H o L s k ∧ s.WF ∧ p < s.lev.length ∧ ∀ H', Same H H' → Q (optS (s.next p)) H'
def spOCopy : Sp := fun vs H Q _ => ∃ (o : Addr) (L : List Addr) (s : DS) (k : Int), vs = [.ref o] ∧ OwnAt H o L s k ∧ ∀ o' L' H', Same H H' → (∀ x ∈ L', H x = none) → OwnAt H' o' L' s k → Q (.ref o') H'
def spIsDoor (C : Addr) : Sp := fun vs H Q _ => ∃ (d o : Addr) (L : List Addr) (s : DS), vs = [.ref d, .ref o] ∧ DoorAt C H d s ∧ OwnAt H o L s (s.stps : Nat) ∧ s.DOk ∧ s.deeds.length < 100000 ∧ ∀ H', Same H H' → Q (.bl true) H'
/-! ### what was done -/
abbrev Done := Nat × Option V
def DoneAt (H : Hp) (x : V) (e : Done) : Prop := ∃ t c, x = .ref t ∧ H t = some (.tup [.int (e.1 : Nat), c]) ∧ e.1 < 5 ∧ match e.2 with
  | none => c = .non
  | some v => ∃ q, c = .ref q ∧ H q = some (.tup [v]) ∧ Good H v
theorem DoneAt.mono {H H' : Hp} (g : TK H H') {x : V} {e : Done} (h : DoneAt H x e) : DoneAt H' x e := by
  obtain ⟨p, o⟩ := e
  obtain ⟨t, c, h1, h2, h3, h4⟩ := h
  refine ⟨t, c, h1, g.t h2, h3, ?_⟩
  cases o with
  | none => exact h4
  | some v => obtain ⟨q, a, b, d⟩ := h4; exact ⟨q, a, g.t b, d.mono g⟩
def DS.does (s : DS) (e : Done) : DS := match e.2 with
  | none => s.step e.1
  | some v => s.come e.1 v
def DS.let_ (s : DS) (e : Done) : Prop := match e.2 with
  | none => s.cm e.1 ≠ none
  | some _ => s.cm e.1 = none ∧ e.1 < s.lev.length
def DS.run (s : DS) (l : List Done) : DS := l.foldl DS.does s
inductive Leg : DS → List Done → Prop
  | nil {s} : Leg s []
  | cons {s e l} : s.let_ e → Leg (s.does e) l → Leg s (e :: l)
section
variable {s : DS} {e f : Done} {l m : List Done}
theorem Leg.snoc : ∀ {l : List Done} {s : DS}, Leg s l → (s.run l).let_ e → Leg s (l ++ [e])
  | [], _, _, h => .cons h .nil
  | _ :: _, _, .cons a r, h => .cons a (Leg.snoc r h)
theorem Leg.take : ∀ {l m : List Done} {s : DS}, Leg s (l ++ m) → Leg s l ∧ Leg (s.run l) m
  | [], _, _, h => ⟨.nil, h⟩
  | _ :: _, _, _, .cons a r => ⟨.cons a (Leg.take r).1, (Leg.take r).2⟩
theorem Leg.app : ∀ {l m : List Done} {s : DS}, Leg s l → Leg (s.run l) m → Leg s (l ++ m)
  | [], _, _, _, h => h
  | _ :: _, _, _, .cons a r, h => .cons a (Leg.app r h)
theorem run_app : s.run (l ++ m) = (s.run l).run m := List.foldl_append
theorem len_does : (s.does e).lev.length = s.lev.length := by
  obtain ⟨p, o⟩ := e
  cases o with
  | none => exact DS.len_step
  | some v => rfl
theorem len_run : ∀ {l : List Done} {s : DS}, (s.run l).lev.length = s.lev.length
  | [], _ => rfl
  | e :: l, s => (len_run (l := l) (s := s.does e)).trans len_does
theorem WF_does (W : s.WF) (h : s.let_ e) : (s.does e).WF := by
  obtain ⟨p, o⟩ := e
  cases o with
  | none => exact W.step h
  | some v => exact W.come
theorem DOk_does (D : s.DOk) (W : s.WF) (h : s.let_ e) : (s.does e).DOk := by
  obtain ⟨p, o⟩ := e
  cases o with
  | none => exact D.step W h
  | some v => exact D.come W h.2 h.1
theorem both_run : ∀ {l : List Done} {s : DS}, Leg s l → s.WF → s.DOk → (s.run l).WF ∧ (s.run l).DOk
  | [], _, _, W, D => ⟨W, D⟩
  | _ :: _, _, .cons a r, W, D => by
    have h := both_run r (WF_does W a) (DOk_does D W a)
    exact h
theorem ps_does : (s.does e).deeds.map Deed.p = s.deeds.map Deed.p ++ [e.1] := by
  obtain ⟨p, o⟩ := e
  cases o with
  | none => show (s.step p).deeds.map Deed.p = _; rw [DS.step_deeds, List.map_append]; rfl
  | some v => show (s.come p v).deeds.map Deed.p = _; rw [show (s.come p v).deeds = s.deeds ++ [⟨false, p, v⟩] from rfl, List.map_append]; rfl
theorem ps_run : ∀ {l : List Done} {s : DS}, (s.run l).deeds.map Deed.p = s.deeds.map Deed.p ++ l.map Prod.fst
  | [], s => by simp [DS.run]
  | e :: l, s => by
    show ((s.does e).run l).deeds.map Deed.p = _
    rw [ps_run, ps_does]; simp
theorem cm_does (W : s.WF) (h : s.let_ e) (q : Nat) (hq : q ≠ e.1) : (s.does e).cm q = s.cm q := by
  obtain ⟨p, o⟩ := e
  cases o with
  | none => exact DS.cm_step q
  | some v =>
    show (s.come p v).cm q = _
    rw [DS.cm_come, if_neg]
    rintro ⟨z, _⟩; exact hq z.symm
theorem let_swap (W : s.WF) (he : s.let_ e) (hf : (s.does e).let_ f) (n : f.1 ≠ e.1) : s.let_ f ∧ (s.does f).let_ e := by
  have a : s.let_ f := by
    obtain ⟨q, o⟩ := f
    cases o with
    | none => show s.cm q ≠ none; rw [← cm_does W he q n]; exact hf
    | some v => exact ⟨by rw [← cm_does W he q n]; exact hf.1, by rw [← len_does (s := s) (e := e)]; exact hf.2⟩
  refine ⟨a, ?_⟩
  obtain ⟨p, o⟩ := e
  cases o with
  | none => show (s.does f).cm p ≠ none; rw [cm_does W a p (Ne.symm n)]; exact he
  | some v => exact ⟨by rw [cm_does W a p (Ne.symm n)]; exact he.1, by rw [len_does]; exact he.2⟩
theorem len_deeds_run : (s.run l).deeds.length = s.deeds.length + l.length := by
  have := congrArg List.length (ps_run (l := l) (s := s))
  simpa using this
end
def spAgain (C : Addr) (K : PySem.W.Frag) : Sp := fun vs H Q _ => ∃ (n : Nat) (dl : Addr) (xs : List V) (l : List Done), vs = [.int n, .ref dl] ∧ 1 ≤ n ∧ n ≤ 5 ∧ H dl = some (.lst xs) ∧ Paired (DoneAt H) xs l ∧ Leg (DS.new n) l ∧ l.length < 1000 ∧
  ∀ d H', Same H H' → H d = none → DoorAt C H' d ((DS.new n).run l) → Q (.ref d) H'
def spLDeed (C : Addr) : Sp := fun vs H Q _ => ∃ (pt d o dl : Addr) (L : List Addr) (s : DS) (m : Nat) (xs : List V), vs = [.ref pt, .ref d, .ref o, .ref dl] ∧ PotAt H pt m ∧ m < 800000 ∧ DoorAt C H d s ∧ OwnAt H o L s (s.stps : Nat) ∧ H dl = some (.lst xs) ∧ xs.length < 1000 ∧ s.deeds.length < 1000 ∧
  pt ∉ L ∧ pt ≠ d ∧ pt ≠ dl ∧ dl ∉ L ∧ dl ≠ d ∧ d ∉ L ∧
  ∀ (e : Done) (x : V) H', But (pt :: d :: dl :: L) H H' → PotAt H' pt (m + 100) → s.let_ e → DoorAt C H' d (s.does e) → OwnAt H' o L (s.does e) ((s.does e).stps : Nat) → H' dl = some (.lst (xs ++ [x])) → DoneAt H' x e → Q (.bl true) H'
theorem stps_step {s : DS} {p : Nat} : (s.step p).stps = s.stps + 1 := by
  unfold DS.stps
  rw [DS.step_deeds, List.filter_append, List.length_append]; rfl
theorem stps_come {s : DS} {p : Nat} {v : V} : (s.come p v).stps = s.stps := by
  unfold DS.stps
  rw [show (s.come p v).deeds = s.deeds ++ [⟨false, p, v⟩] from rfl, List.filter_append, List.length_append]; rfl
end Fp
/-! A stair of levels in the heap; promises -/
namespace Fp
open PySem PySem.Spec PyProof.Rows L2
def lfl (n : Int) (a b r e : Addr) : List (Str × V) := [("many", .int n), ("levels", .ref a), ("views", .ref b), ("run", .ref r), ("looking", .ref e)]
structure LC (K : PySem.W.Frag) (C : Addr) : Prop where
  cl : Cls K C
  nM : NoAttr K C "many"
  nL : NoAttr K C "levels"
  nV : NoAttr K C "views"
  nR : NoAttr K C "run"
  nK : NoAttr K C "looking"
section
variable {n : Int} {a b r e a' b' r' e' : Addr}
theorem l_many : (lfl n a b r e).lookup ("many" : Str) = some (.int n) := by kernel_rfl
theorem l_lev : (lfl n a b r e).lookup ("levels" : Str) = some (.ref a) := by kernel_rfl
theorem l_vw : (lfl n a b r e).lookup ("views" : Str) = some (.ref b) := by kernel_rfl
theorem l_run : (lfl n a b r e).lookup ("run" : Str) = some (.ref r) := by kernel_rfl
theorem l_lk : (lfl n a b r e).lookup ("looking" : Str) = some (.ref e) := by kernel_rfl
theorem lp_lev : putF "levels" (.ref a') (lfl n a b r e) = lfl n a' b r e := by kernel_rfl
theorem lp_vw : putF "views" (.ref b') (lfl n a b r e) = lfl n a b' r e := by kernel_rfl
theorem lp_run : putF "run" (.ref r') (lfl n a b r e) = lfl n a b r' e := by kernel_rfl
theorem lp_lk : putF "looking" (.ref e') (lfl n a b r e) = lfl n a b r e' := by kernel_rfl
theorem l_all : putF "looking" (.ref e) (putF "run" (.ref r) (putF "views" (.ref b) (putF "levels" (.ref a) (putF "many" (.int n) [])))) = lfl n a b r e := by kernel_rfl
theorem l_copy : putF "looking" (.ref e) (putF "run" (.ref r) (putF "views" (.ref b) (putF "levels" (.ref a) (lfl n a' b' r' e')))) = lfl n a b r e := by kernel_rfl
theorem ln_next : (lfl n a b r e).lookup ("next" : Str) = none := by kernel_rfl
theorem ln_step : (lfl n a b r e).lookup ("step" : Str) = none := by kernel_rfl
theorem ln_view : (lfl n a b r e).lookup ("view_from" : Str) = none := by kernel_rfl
theorem ln_copy : (lfl n a b r e).lookup ("copy" : Str) = none := by kernel_rfl
theorem ln_weave : (lfl n a b r e).lookup ("weave" : Str) = none := by kernel_rfl
end
def ViewAt (H : Hp) (x : V) : Option (List Nat) → Prop
  | none => x = .non
  | some l => ∃ p, x = .ref p ∧ TT H p (natV l)
theorem ViewAt.mono {H H' : Hp} (g : TK H H') {x : V} {o : Option (List Nat)} (h : ViewAt H x o) : ViewAt H' x o := by
  cases o with
  | none => exact h
  | some v => obtain ⟨p, e, q⟩ := h; exact ⟨p, e, g.tt q⟩
theorem ViewAt.is {H : Hp} {x : V} {o : Option (List Nat)} (h : ViewAt H x o) : decide (x = .non) = o.isNone := by
  cases o with
  | none => rw [show x = .non from h]; rfl
  | some v => obtain ⟨p, e, _⟩ := h; rw [e]; rfl
structure LvIn (K : PySem.W.Frag) (C : Addr) (H : Hp) (d : Addr) (s : LS) (dx a b r e : Addr) (vv rv : List V) : Prop where
  obj : H d = some (.ins C dx (lfl (s.n : Nat) a b r e))
  own : H dx = some (.own d)
  lev : TF H a (s.lev.map lvV)
  vw : TF H b vv
  vwP : Paired (ViewAt H) vv s.vw
  run : H r = some (.tup rv)
  runP : Paired (SD K H) rv s.run
  lk : TF H e (s.lk.map V.bl)
def LvAt (K : PySem.W.Frag) (C : Addr) (H : Hp) (d : Addr) (s : LS) : Prop := ∃ dx a b r e vv rv, LvIn K C H d s dx a b r e vv rv
section
variable {K : PySem.W.Frag} {C : Addr} {H H' : Hp} {d dx a b r e : Addr} {s : LS} {vv rv : List V} {S : List Addr}
theorem LvIn.mono (h : LvIn K C H d s dx a b r e vv rv) (g : TK H H') (g1 : ∀ o, H d = some o → H' d = some o) (g2 : H' dx = H dx) : LvIn K C H' d s dx a b r e vv rv :=
  ⟨g1 _ h.obj, by rw [g2]; exact h.own, g.f h.lev, g.f h.vw, pr_imp (fun _ _ => ViewAt.mono g) h.vwP, g.t h.run, SDs.mono h.runP g, g.f h.lk⟩
theorem LvIn.same (h : LvIn K C H d s dx a b r e vv rv) (g : Same H H') : LvIn K C H' d s dx a b r e vv rv := h.mono (.of g) (fun o q => g _ _ q) (by rw [g _ _ h.own]; exact h.own.symm)
theorem LvAt.same (h : LvAt K C H d s) (g : Same H H') : LvAt K C H' d s := by
  obtain ⟨dx, a, b, r, e, vv, rv, h⟩ := h
  exact ⟨dx, a, b, r, e, vv, rv, h.same g⟩
theorem LvAt.off (h : LvAt K C H d s) (g : But S H H') (tk : TK H H') (n : ∀ x ∈ S, x ≠ d ∧ H x ≠ some (.own d)) : LvAt K C H' d s := by
  obtain ⟨dx, a, b, r, e, vv, rv, h⟩ := h
  have nd : d ∉ S := fun m => (n d m).1 rfl
  have nx : dx ∉ S := fun m => (n dx m).2 h.own
  exact ⟨dx, a, b, r, e, vv, rv, h.mono tk (fun o q => g _ _ nd q) (by rw [g _ _ nx h.own]; exact h.own.symm)⟩
theorem LvAt.ob (h : LvAt K C H d s) : ∃ dx fs, H d = some (.ins C dx fs) ∧ fs.lookup ("next" : Str) = none ∧ fs.lookup ("step" : Str) = none ∧ fs.lookup ("copy" : Str) = none ∧ fs.lookup ("view_from" : Str) = none ∧ fs.lookup ("weave" : Str) = none := by
  obtain ⟨dx, a, b, r, e, vv, rv, h⟩ := h
  exact ⟨_, _, h.obj, ln_next, ln_step, ln_copy, ln_view, ln_weave⟩
theorem LvAt.tk (h : LvAt K C H d s) (g : But [d] H H') : TK H H' := TK.but g fun a ha z => by
  obtain ⟨dx, fs, e, _⟩ := h.ob
  rw [List.mem_singleton.mp ha, e] at z
  exact z
end
def DueAt (H : Hp) (y : V) : Option Due → Prop
  | none => y = .non
  | some (.wr l) => ∃ t, y = .ref t ∧ H t = some (.tup [.str "write", .int l])
  | some .look => ∃ t, y = .ref t ∧ H t = some (.tup [.str "look"])
def spChkMany : Sp := fun vs H Q _ => ∃ n : Nat, vs = [.int n] ∧ 1 ≤ n ∧ n ≤ 5 ∧ Q .non H
def spLInit (K : PySem.W.Frag) (C : Addr) : Sp := fun vs H Q _ => ∃ (d dx : Addr) (n : Nat), vs = [.ref d, .int n] ∧ 1 ≤ n ∧ n ≤ 5 ∧ H d = some (.ins C dx []) ∧ H dx = some (.own d) ∧ ∀ H', But [d] H H' → LvAt K C H' d (LS.new n) → Q .non H'
def spLNext (K : PySem.W.Frag) (C : Addr) : Sp := fun vs H Q _ => ∃ (d : Addr) (p : Nat) (s : LS), vs = [.ref d, .int p] ∧ LvAt K C H d s ∧ s.WF ∧ p < s.n ∧ ∀ y H', Same H H' → DueAt H' y (s.next p) → Q y H'
def spLView (K : PySem.W.Frag) (C : Addr) : Sp := fun vs H Q _ => ∃ (d : Addr) (p : Nat) (s : LS), vs = [.ref d, .int p] ∧ LvAt K C H d s ∧ s.WF ∧ p < s.n ∧ s.lv p ≠ none ∧ ∀ y H', Same H H' → ViewAt H' y (s.seen p) → Q y H'
def spLStep (K : PySem.W.Frag) (C : Addr) : Sp := fun vs H Q _ => ∃ (d : Addr) (p : Nat) (s : LS), vs = [.ref d, .int p] ∧ LvAt K C H d s ∧ s.WF ∧ p < s.n ∧ s.next p ≠ none ∧ s.run.length < 100000 ∧
  ∀ y dd H', But [d] H H' → LvAt K C H' d (s.step p) → (s.step p).run = s.run ++ [dd] → SD K H' y dd → Q y H'
def spLCopy (K : PySem.W.Frag) (C : Addr) : Sp := fun vs H Q _ => ∃ (d : Addr) (s : LS), vs = [.ref d] ∧ LvAt K C H d s ∧ s.WF ∧ ∀ e H', Same H H' → H e = none → LvAt K C H' e s → Q (.ref e) H'
/-! ### data -/
theorem sm_write {p : Nat} {l : Int} (hp : p < 5) (h1 : 1 ≤ l) (h5 : l ≤ 5) : Sm 4 60 (.tuple [.int (p : Nat), .str "write", .int l]) :=
  (Sms.tup (.cons (Sm.int (i := (p : Nat)) (by omega) (by omega)) (.cons ((sm_word "write" (by decide +kernel)).mono (Nat.le_refl 1) (Nat.le_refl 10)) (.cons (Sm.int (i := l) (by omega) (by omega)) (Sms.nil (n := 0)))))).mono (by decide) (by decide)
theorem sm_look {p : Nat} {l : List Lv} (hp : p < 5) (hl : l.length ≤ 5) (h : ∀ x, some x ∈ l → 1 ≤ x ∧ x ≤ 5) : Sm 4 60 (.tuple [.int (p : Nat), .str "look", .tuple (l.map lvD)]) := by
  have sl : Sms 1 5 (l.map lvD) := by
    refine (Sms.all (k := 1) (n := 0) fun d hd => ?_).mono (Nat.le_refl _) (by rw [List.length_map]; omega)
    obtain ⟨x, hx, rfl⟩ := List.mem_map.mp hd
    cases x with
    | none => exact Sm.non
    | some i => have := h i hx; exact Sm.int (by omega) (by omega)
  exact (Sms.tup (.cons ((Sm.int (i := (p : Nat)) (by omega) (by omega)).mono (by decide : 1 ≤ 2) (Nat.le_refl 0)) (.cons ((sm_word "look" (by decide +kernel)).mono (by decide : 1 ≤ 2) (Nat.le_refl 10)) (.cons sl.tup (Sms.nil (n := 0)))))).mono (by decide) (by decide)
def LS.ROk (s : LS) : Prop := ∀ d ∈ s.run, Sm 4 60 d
theorem LS.ROk.new (n : Nat) : (LS.new n).ROk := fun d h => absurd h (by simp [LS.new])
theorem LS.WF.levs {s : LS} (W : s.WF) : s.lev.length ≤ 5 ∧ ∀ x, some x ∈ s.lev → 1 ≤ x ∧ x ≤ 5 := ⟨W.n5, fun x hx => by
  obtain ⟨q, hq⟩ := mem_getD.mp hx
  have := W.rng q x hq
  have := W.n5
  omega⟩
theorem LS.step_run {s : LS} {p : Nat} (W : s.WF) (hp : p < s.n) (h : s.next p ≠ none) : ∃ dd, (s.step p).run = s.run ++ [dd] ∧ Sm 4 60 dd := by
  have n5 := W.n5
  have Ws := W.step hp
  unfold LS.step at Ws ⊢
  cases e : s.next p with
  | none => exact absurd e h
  | some du =>
    rw [e] at Ws
    cases du with
    | wr l =>
      have := Ws.rng p l (by show (s.wrote p l).lv p = some l; rw [LS.lv_wrote hp, if_pos rfl])
      rw [show LS.n (match some (Due.wr l) with | none => s | some (.wr l) => s.wrote p l | some .look => s.looked p) = s.n from LS.n_wrote] at this
      exact ⟨_, rfl, sm_write (by omega) this.1 (by omega)⟩
    | look => exact ⟨_, rfl, sm_look (by omega) W.levs.1 W.levs.2⟩
theorem LS.ROk.step {s : LS} {p : Nat} (R : s.ROk) (W : s.WF) (hp : p < s.n) (h : s.next p ≠ none) : (s.step p).ROk := by
  obtain ⟨dd, e, sm⟩ := LS.step_run W hp h
  intro d hd
  rw [e] at hd
  rcases List.mem_append.mp hd with z | z
  · exact R d z
  · rw [List.mem_singleton.mp z]; exact sm
/-- views as data -/
def vwD : Option (List Nat) → PyData
  | none => .none
  | some l => .tuple (l.map fun (p : Nat) => PyData.int (p : Int))
theorem vw_dp {K : PySem.W.Frag} {H : Hp} : ∀ {vv : List V} {m : List (Option (List Nat))}, Paired (ViewAt H) vv m → DpAll K H vv (m.map vwD)
  | _, _, .nil => .nil
  | _, _, .cons (b := o) a r => by
    cases o with
    | none => rw [show _ = V.non from a]; exact .cons .non (vw_dp r)
    | some l => obtain ⟨p, rfl, q⟩ := a; exact .cons (.tup q.sq (natV_dp l)) (vw_dp r)
theorem vw_sm {s : LS} (W : s.WF) : ∀ d ∈ s.vw.map vwD, Sm 2 5 d := by
  intro d hd
  obtain ⟨o, ho, rfl⟩ := List.mem_map.mp hd
  have n5 := W.n5
  cases o with
  | none => exact Sm.non.mono (by decide) (by decide)
  | some v =>
    obtain ⟨q, hq⟩ := mem_getD.mp ho
    obtain ⟨l, h1, h2, h3⟩ := W.vil q v hq
    have := W.rng q _ h1
    rw [h2]
    refine natV_sm (fun p hp => ?_) (by omega)
    have := (LS.mem_below.mp hp).1
    omega
end Fp
namespace Fp
open PySem PySem.Spec PyProof.Rows L2
def top (i : Nat) : Stmt := PySem.Challenge.pw_fewplaymany_k27_whole_views_of_weavings.main.body.getD i (.Pass ⟨0, 0, 0, 0⟩)
structure PTx (mg : Str → Option Value) : Prop where
  isinstance : mg "isinstance" = none
  int : mg "int" = none
  bool : mg "bool" = none
  tuple : mg "tuple" = none
  all : mg "all" = none
  len : mg "len" = none
  enumerate : mg "enumerate" = none
  c_MOST_HANDS : ∃ t, mg "MOST_HANDS" = some (.int 5 t)
section
variable {P : Program} {w : World} {K : PySem.W.Frag} {mg : Str → Option Value} {base : Heap} {f : Addr} {fd : FuncData} {C : Addr}
abbrev s_is_whole : Stmt := top 9
theorem sc_is_whole : FnScope ["value"] ["value"] (defScope s_is_whole) := ⟨rfl, rfl, rfl, by decide +kernel, rfl, by decide +kernel, by decide +kernel⟩
theorem ok_is_whole (F : Fun K "is_whole" "is_whole" s_is_whole f fd) (T : PTx mg) : FnOk P w K mg base CX0 1 f fd ["value"] spIsWhole := by
  refine F.ok sc_is_whole (fun vs H Q E h => ?_) (fun cdv A outer s H vs Q E hr h => ?_)
  · obtain ⟨i, rfl, _⟩ := h
    rfl
  obtain ⟨i, rfl, q⟩ := h
  refine ⟨_, (pss_one (ps_ret (pe_and (pe_callB call_isi rfl T.isinstance (by decide +kernel) (pa_cons (pv 0) (pa_cons (pe_bltn (v := .ty "int") rfl T.int boot_int rfl) pa_nil))) (pe_one (pe_not (pe_callB call_isi rfl T.isinstance (by decide +kernel) (pa_cons (pv 0) (pa_cons (pe_bltn (v := .ty "bool") rfl T.bool boot_bool rfl) pa_nil)))))))), ?_⟩
  exact ⟨_, rfl, _, _, _, _, true, rfl, .ty "int", .base (.int i), by first | rfl | decide +kernel | kernel_rfl, _, rfl, iteT ⟨_, rfl, _, _, _, _, false, rfl, .ty "bool", .base (.int i), by first | rfl | decide +kernel | kernel_rfl, _, rfl, q⟩⟩
abbrev s_is_below : Stmt := top 11
theorem sc_is_below : FnScope ["value", "many"] ["value", "many"] (defScope s_is_below) := ⟨rfl, rfl, rfl, by decide +kernel, rfl, by decide +kernel, by decide +kernel⟩
theorem ok_is_below (F : Fun K "is_below" "is_below" s_is_below f fd) (T : PTx mg) (G_is_whole : Fd P w K mg base CX0 "is_whole" 1 ["value"] spIsWhole) : FnOk P w K mg base CX0 2 f fd ["value", "many"] spBelow := by
  refine F.ok sc_is_below (fun vs H Q E h => ?_) (fun cdv A outer s H vs Q E hr h => ?_)
  · obtain ⟨i, n, rfl, _⟩ := h
    rfl
  obtain ⟨i, n, rfl, q⟩ := h
  refine ⟨_, (pss_one (ps_ret (pe_and (pe_fd G_is_whole (hr.mono (by first | decide | omega)) rfl (pa_cons (pv 0) pa_nil)) (pe_one (pe_chain op_le op_lt pe_int (pv 0) (pv 1)))))), ?_⟩
  refine ⟨_, rfl, i, rfl, _, rfl, iteT ⟨_, rfl, _, _, rfl, rfl, _, rfl, ?_⟩⟩
  refine ite2 (fun c => ?_) (fun c => ?_)
  · refine ⟨_, rfl, _, _, rfl, rfl, ?_⟩
    have c' : 0 ≤ i := of_decide_eq_true c
    have e : decide (0 ≤ i ∧ i < n) = decide (i < n) := by simp [c']
    rw [e] at q
    exact q
  · have c' : ¬ 0 ≤ i := of_decide_eq_false (by simpa using c)
    have e : decide (0 ≤ i ∧ i < n) = false := decide_eq_false (fun z => c' z.1)
    rw [e] at q
    exact q
abbrev s_exchanged : Stmt := top 16
theorem sc_exchanged : FnScope ["row", "at", "thing"] ["row", "at", "thing"] (defScope s_exchanged) := ⟨rfl, rfl, rfl, by decide +kernel, rfl, by decide +kernel, by decide +kernel⟩
theorem ok_exchanged (F : Fun K "exchanged" "exchanged" s_exchanged f fd) : FnOk P w K mg base CX0 1 f fd ["row", "at", "thing"] (spExch K) := by
  refine F.ok sc_exchanged (fun vs H Q E h => ?_) (fun cdv A outer s H vs Q E hr h => ?_)
  · obtain ⟨a, xs, p, v, rfl, _⟩ := h
    rfl
  obtain ⟨a, xs, p, v, rfl, ha, hp, hx, k⟩ := h
  refine ⟨_, (pss_one (ps_ret (pe_op op_catF (pe_mid (pe_op op_catF (pe_slice sl_tupA (pv 0) po_none (po_some (pv 1))) (pe_tupF (pa_cons (pv 2) pa_nil)))) (pe_slice sl_tupA (pv 0) (po_some (pe_op op_add (pv 1) pe_int)) po_none)))), ?_⟩
  have hs1 : HT.sIx xs.length xs.length (some (p : Int)) = p := by rw [HT.sIx_nat]; omega
  have hs0 : HT.sIx xs.length 0 none = 0 := rfl
  have hs2 : HT.sIx xs.length 0 (some ((p : Int) + 1)) = p + 1 := by rw [show (p : Int) + 1 = ((p + 1 : Nat) : Int) by omega, HT.sIx_nat]; omega
  have hs3 : HT.sIx xs.length xs.length none = xs.length := rfl
  have hz := sizeLine_eq
  have c1 : cutV xs none (some (p : Int)) = xs.take p := by unfold cutV; rw [hs0, hs1]; simp
  have c2 : cutV xs (some ((p : Int) + 1)) none = xs.drop (p + 1) := by unfold cutV; rw [hs2, hs3, List.take_of_length_le (by simp)]
  have es : xs.set p v = (xs.take p ++ [v]) ++ xs.drop (p + 1) := by rw [List.set_eq_take_append_cons_drop, if_pos hp]; simp
  refine ⟨fun y H' => ∃ q, y = .ref q ∧ Same H H' ∧ TF H' q (xs.take p ++ [v]), ?_, ?_⟩
  · refine ⟨_, rfl, _, rfl, _, rfl, a, xs, rfl, ha, fun z => ?_, fun _ q1 n1 => ?_⟩
    · rw [hs1] at z; omega
    rw [c1]
    have g1 := same_new n1 (.tup (xs.take p))
    refine ⟨_, rfl, (by show 1 ≤ sizeLine; omega), fun q2 o2 n2 d2 => ?_⟩
    have g2 := same_new n2 (.frz o2 (.tup [v]))
    refine ⟨q1, q2, _, _, rfl, rfl, .of (g2 _ _ upd_same), TF.sq ⟨o2, upd_same, d2⟩, ?_, ?_, ?_, ?_⟩
    · simp; omega
    · intro z
      exact ⟨q2, rfl, g1.trans g2, o2, by rw [upd_same, z]; rfl, d2⟩
    · intro _ z; cases z
    · intro z _ q3 o3 n3 d3
      exact ⟨q3, rfl, (g1.trans g2).trans (same_new n3 _), o3, upd_same, d3⟩
  · rintro y H1 ⟨q, rfl, g, hq⟩
    refine ⟨_, rfl, _, rfl, _, _, rfl, rfl, _, rfl, a, xs, rfl, ha.ext g, fun z => ?_, fun _ q1 n1 => ?_⟩
    · rw [hs2] at z; omega
    rw [c2]
    have g1 := same_new n1 (.tup (xs.drop (p + 1)))
    refine ⟨q, q1, _, _, rfl, rfl, ((TK.of g1).f hq).sq, .of upd_same, ?_, ?_, ?_, ?_⟩
    · simp; omega
    · intro z; simp at z
    · intro _ z
      rw [z, List.append_nil] at es
      exact k q _ (g.trans g1) (by rw [es]; exact (TK.of g1).f hq)
    · intro _ _ q3 o3 n3 d3
      exact k q3 _ ((g.trans g1).trans (same_new n3 _)) ⟨o3, by rw [upd_same, es], d3⟩
abbrev s_check_many : Stmt := top 20
theorem sc_check_many : FnScope ["many"] ["many"] (defScope s_check_many) := ⟨rfl, rfl, rfl, by decide +kernel, rfl, by decide +kernel, by decide +kernel⟩
theorem ok_check_many (F : Fun K "check_many" "check_many" s_check_many f fd) (T : PTx mg) (G_is_whole : Fd P w K mg base CX0 "is_whole" 1 ["value"] spIsWhole) : FnOk P w K mg base CX0 2 f fd ["many"] spChkMany := by
  refine F.ok sc_check_many (fun vs H Q E h => ?_) (fun cdv A outer s H vs Q E hr h => ?_)
  · obtain ⟨n, rfl, _⟩ := h
    rfl
  obtain ⟨n, rfl, h1, h5, k⟩ := h
  refine ⟨_, (pss_one (ps_if (PW.pt (pw_or (pt_not (pt_val (pe_fd G_is_whole (hr.mono (by first | decide | omega)) rfl (pa_cons (pv 0) pa_nil)))) (pw_or1 (pt_not (pt_chain op_le op_le pe_int (pv 0) (pe_cI T.c_MOST_HANDS)))))) (pss_one (ps_no)) pss_nil)), ?_⟩
  have hn : (1 : Int) ≤ n ∧ (n : Int) ≤ 5 := by omega
  refine ⟨_, rfl, n, rfl, _, rfl, iteF ⟨_, rfl, _, _, rfl, rfl, _, rfl, ite_yes (decide_eq_true hn.1) ⟨_, _, rfl, rfl, _, rfl, ?_⟩⟩⟩
  rw [decide_eq_true hn.2]
  exact iteF k
abbrev s_Levels_init : Stmt := inClass (top 19) 0
theorem sc_Levels_init : FnScope ["self", "many"] ["self", "many"] (defScope s_Levels_init) := ⟨rfl, rfl, rfl, by decide +kernel, rfl, by decide +kernel, by decide +kernel⟩
theorem ok_Levels_init (F : Fun K "__init__" "Levels.__init__" s_Levels_init f fd) (hC : LC K C) (G_check_many : Fd P w K mg base CX0 "check_many" 2 ["many"] spChkMany) : FnOk P w K mg base CX0 3 f fd ["self", "many"] (spLInit K C) := by
  refine F.ok sc_Levels_init (fun vs H Q E h => ?_) (fun cdv A outer s H vs Q E hr h => ?_)
  · obtain ⟨d, dx, n, rfl, _⟩ := h
    rfl
  obtain ⟨d, dx, n, rfl, h1, h5, hd, hx, k⟩ := h
  refine ⟨_, (pss_cons (ps_expr (pe_fd G_check_many (hr.mono (by first | decide | omega)) rfl (pa_cons (pv 1) pa_nil)))
  (pss_cons (ps_fld (pv 0) (pv 1) rfl)
  (pss_cons (ps_fld (pv 0) (pe_op op_repF (pe_tupF (pa_cons pe_non pa_nil)) (pv 1)) rfl)
  (pss_cons (ps_fld (pv 0) (pe_op op_repF (pe_tupF (pa_cons pe_non pa_nil)) (pv 1)) rfl)
  (pss_cons (ps_fld (pv 0) (pe_tup pa_nil) rfl)
  (pss_one (ps_fld (pv 0) (pe_op op_repF (pe_tupF (pa_cons pe_bl pa_nil)) (pv 1)) rfl))))))), ?_⟩
  refine ⟨_, rfl, n, rfl, h1, h5, ?_⟩
  have rep : ∀ (v : V) (H1 : Hp) (σ : L2.St) (Q1 : V → Hp → Prop), σ[1]? = some (some (.int n)) → (∀ q H', Same H1 H' → TF H' q (List.replicate n v) → Q1 (.ref q) H') → tOp (rRepF K) (tTupF (tCons (tC v) tNil)) (tVar 1) σ H1 Q1 := by
    intro v H1 σ Q1 hσ hq
    refine ⟨szl (by show 1 ≤ _; decide), fun t o nt dt => ⟨_, hσ, t, n, [v], rfl, rfl, TF.sq ⟨o, upd_same, dt⟩, by simp, by omega, by omega, by show 1 ≤ 1000; decide, fun z => ?_, fun z p o2 np d2 => ?_⟩⟩
    · have : n = 1 := by omega
      subst this
      exact hq t _ (same_new nt _) ⟨o, upd_same, dt⟩
    · refine hq p _ ((same_new nt _).trans (same_new np _)) ⟨o2, ?_, d2⟩
      rw [upd_same]
      simp
  refine ⟨_, rfl, _, rfl, d, C, dx, [], rfl, hd, hC.cl, hC.nM, by decide, ?_⟩
  have b1 : But [d] H (upd H d (.ins C dx (putF "many" (.int n) []))) := (But.refl _ H).put (by simp)
  have x1 : upd H d (.ins C dx (putF "many" (.int n) [])) dx = some (.own d) := by
    rw [upd_ne (fun z => by rw [z, hd] at hx; cases hx)]; exact hx
  refine rep _ _ _ _ rfl fun a H2 g2 h2 => ?_
  refine ⟨_, rfl, d, C, dx, _, rfl, g2 _ _ upd_same, hC.cl, hC.nL, by show 1 < 1000; decide, ?_⟩
  have nx : dx ≠ d := fun z => by rw [z, hd] at hx; cases hx
  have b2 := (b1.trans (.of g2)).put (p := d) (o := .ins C dx (putF "levels" (.ref a) (putF "many" (.int n) []))) (by simp)
  have ad : a ≠ d := fun z => by obtain ⟨o, z2, _⟩ := h2; have q := g2 _ _ upd_same; rw [← z, z2] at q; cases q
  refine rep _ _ _ _ rfl fun b H3 g3 h3 => ?_
  refine ⟨_, rfl, d, C, dx, _, rfl, g3 _ _ upd_same, hC.cl, hC.nV, by show 2 < 1000; decide, ?_⟩
  have b3 := (b2.trans (.of g3)).put (p := d) (o := .ins C dx (putF "views" (.ref b) (putF "levels" (.ref a) (putF "many" (.int n) [])))) (by simp)
  have bd : b ≠ d := fun z => by obtain ⟨o, z2, _⟩ := h3; have q := g3 _ _ upd_same; rw [← z, z2] at q; cases q
  refine ⟨szl (by decide), fun c nc => ?_⟩
  have cd : c ≠ d := fun z => by rw [z, upd_same] at nc; cases nc
  refine ⟨_, rfl, d, C, dx, _, rfl, by rw [upd_ne (Ne.symm cd)]; exact upd_same, hC.cl, hC.nR, by show 3 < 1000; decide, ?_⟩
  have b4 := (b3.new (o := .tup []) nc).put (p := d) (o := .ins C dx (putF "run" (.ref c) (putF "views" (.ref b) (putF "levels" (.ref a) (putF "many" (.int n) []))))) (by simp)
  refine rep _ _ _ _ rfl fun e H5 g5 h5' => ?_
  refine ⟨_, rfl, d, C, dx, _, rfl, g5 _ _ upd_same, hC.cl, hC.nK, by show 4 < 1000; decide, ?_⟩
  have ed : e ≠ d := fun z => by obtain ⟨o, z2, _⟩ := h5'; have q := g5 _ _ upd_same; rw [← z, z2] at q; cases q
  have b5 := (b4.trans (.of g5)).put (p := d) (o := .ins C dx (putF "looking" (.ref e) (putF "run" (.ref c) (putF "views" (.ref b) (putF "levels" (.ref a) (putF "many" (.int n) [])))))) (by simp)
  rw [l_all] at b5 ⊢
  have kp5 : ∀ {q : Addr} {o u : HO}, q ≠ d → H5 q = some o → upd H5 d u q = some o := fun {q o u} ne h => by rw [upd_ne ne]; exact h
  have k4 : ∀ {q : Addr} {o u : HO}, q ≠ d → H3 q = some o → upd (upd (upd H3 d u) c (.tup [])) d (.ins C dx (putF "run" (.ref c) (putF "views" (.ref b) (putF "levels" (.ref a) (putF "many" (.int n) []))))) q = some o := fun {q o u} ne h => by
    have qc : q ≠ c := fun z => by rw [← z, upd_ne ne] at nc; rw [h] at nc; cases nc
    rw [upd_ne ne, upd_ne qc, upd_ne ne]; exact h
  have k3 : ∀ {q : Addr} {o : HO}, q ≠ d → H2 q = some o → H3 q = some o := fun {q o} ne h => g3 _ _ (by rw [upd_ne ne]; exact h)
  have k35 : ∀ {q : Addr} {o : HO}, q ≠ d → H3 q = some o → H5 q = some o := fun {q o} ne h => g5 _ _ (k4 ne h)
  have tf : ∀ {q : Addr} {xs : List V} {Ha Hb : Hp}, TF Ha q xs → (∀ {o}, Ha q = some o → Hb q = some o) → TF Hb q xs := fun ⟨o, h, z⟩ f => ⟨o, f h, z⟩
  have rp : ∀ {β : Type} {F : V → Option β → Prop}, F .non none → Paired F (List.replicate n .non) (List.replicate n (none : Option β)) := fun h => pr_rep h n
  have hn : (LS.new n).n = n := by simp [LS.new, LS.n]
  refine k _ b5 ⟨dx, a, b, c, e, List.replicate n .non, [], ?_⟩
  refine ⟨by rw [upd_same, hn], ?_, ?_, tf h3 fun h => kp5 bd (k35 bd h), rp rfl, ?_, .nil, ?_⟩
  · exact kp5 nx (k35 nx (k3 nx (g2 _ _ x1)))
  · show TF _ a ((List.replicate n (none : Lv)).map lvV); rw [List.map_replicate]; exact tf h2 fun h => kp5 ad (k35 ad (k3 ad h))
  · exact kp5 cd (g5 _ _ (by rw [upd_ne cd]; exact upd_same))
  · show TF _ e ((List.replicate n false).map V.bl); rw [List.map_replicate]; exact tf h5' fun h => kp5 ed h
abbrev s_Levels_next : Stmt := inClass (top 19) 4
theorem sc_Levels_next : FnScope ["self", "hand", "level"] ["self", "hand"] (defScope s_Levels_next) := ⟨rfl, rfl, rfl, by decide +kernel, rfl, by decide +kernel, by decide +kernel⟩
theorem ok_Levels_next (F : Fun K "next" "Levels.next" s_Levels_next f fd) (hC : LC K C) (G_is_below : Fd P w K mg base CX0 "is_below" 2 ["value", "many"] spBelow) : FnOk P w K mg base CX0 3 f fd ["self", "hand"] (spLNext K C) := by
  refine F.ok sc_Levels_next (fun vs H Q E h => ?_) (fun cdv A outer s H vs Q E hr h => ?_)
  · obtain ⟨d, p, s, rfl, _⟩ := h
    rfl
  obtain ⟨d, p, s, rfl, hD, W, hp, k⟩ := h
  refine ⟨_, (pss_cons (ps_if (pt_not (pt_val (pe_fd G_is_below (hr.mono (by first | decide | omega)) rfl (pa_cons (pv 1) (pa_cons (pe_fld (pv 0) rfl) pa_nil))))) (pss_one (ps_no)) pss_nil)
  (pss_cons (ps_if (pt_cmpR op_notN (pe_ix ix_tup (pe_fld (pv 0) rfl) (pv 1) (fun _ _ => rfl)) pe_non (nomark _)) (pss_one (ps_ret pe_non)) pss_nil)
  (pss_cons (ps_if (pt_val (pe_ix ix_tup (pe_fld (pv 0) rfl) (pv 1) (fun _ _ => rfl))) (pss_one (ps_ret (pe_tup (pa_cons pe_str pa_nil)))) pss_nil)
  (pss_cons (ps_set (i := 2) sc_Levels_next.nd rfl (Or.inl rfl) (pe_ix ix_tup (pe_fld (pv 0) rfl) (pv 1) (fun _ _ => rfl)))
  (pss_one (ps_ret (pe_tup (pa_cons pe_str (pa_cons (pe_ifExp (pt_cmpR op_isN (pv 2) pe_non (nomark _)) (pe_fld (pv 0) rfl) (pe_op op_sub (pv 2) pe_int)) pa_nil))))))))), ?_⟩
  obtain ⟨dx, a, b, r, e, vv, rv, D⟩ := hD
  have ap : (0 : Int) ≤ (p : Int) ∧ (p : Int) < (s.n : Nat) := by omega
  refine ⟨_, rfl, _, rfl, d, C, dx, _, _, rfl, D.obj, hC.cl, hC.nM, l_many, _, _, rfl, _, rfl, ite_no (by rw [decide_eq_true ap]; rfl) ?_⟩
  obtain ⟨xv, hxv, ov⟩ := pr_at D.vwP (show s.vw[p]? = some (s.vi p) from getD_at (by rw [W.lw]; exact hp))
  refine ⟨_, rfl, d, C, dx, _, _, rfl, D.obj, hC.cl, hC.nV, l_vw, _, rfl, b, vv, _, _, rfl, rfl, D.vw.sq, atI_nat hxv, rfl, _, rfl, ?_⟩
  rw [ov.is]
  unfold LS.next at k
  cases hv : s.vi p with
  | some v => rw [hv] at k; exact iteT (k _ _ (.refl _) rfl)
  | none =>
    rw [hv] at k
    refine iteF ?_
    have hlk : (s.lk.map V.bl)[p]? = some (.bl (s.lo p)) := by
      have hl : p < s.lk.length := by rw [W.ll]; exact hp
      rw [List.getElem?_map, List.getElem?_eq_getElem hl]
      unfold LS.lo
      rw [List.getD_eq_getElem?_getD, List.getElem?_eq_getElem hl]; rfl
    refine ⟨_, rfl, d, C, dx, _, _, rfl, D.obj, hC.cl, hC.nK, l_lk, _, rfl, e, _, _, _, rfl, rfl, D.lk.sq, atI_nat hlk, _, rfl, ?_⟩
    cases hk : s.lo p with
    | true =>
      rw [hk] at k
      refine iteT ⟨szl (by show 1 ≤ _; decide), fun t nt => ?_⟩
      exact k _ _ (same_new nt _) ⟨t, rfl, upd_same⟩
    | false =>
      rw [hk] at k
      refine iteF ?_
      refine ⟨_, rfl, d, C, dx, _, _, rfl, D.obj, hC.cl, hC.nL, l_lev, _, rfl, a, _, _, _, rfl, rfl, D.lev.sq, atI_nat (show (s.lev.map lvV)[p]? = some (lvV (s.lv p)) by rw [List.getElem?_map, show s.lev[p]? = some (s.lv p) from getD_at hp]; rfl), ?_⟩
      refine ⟨_, rfl, rfl, _, rfl, ?_⟩
      cases hl : s.lv p with
      | none =>
        rw [hl] at k
        refine iteT ⟨_, rfl, d, C, dx, _, _, rfl, D.obj, hC.cl, hC.nM, l_many, szl (by show 2 ≤ _; decide), fun t nt => ?_⟩
        exact k _ _ (same_new nt _) ⟨t, rfl, upd_same⟩
      | some x =>
        rw [hl] at k
        refine iteF ⟨_, rfl, _, _, rfl, rfl, szl (by show 2 ≤ _; decide), fun t nt => ?_⟩
        exact k _ _ (same_new nt _) ⟨t, rfl, upd_same⟩
abbrev s_Levels_view_from : Stmt := inClass (top 19) 7
theorem sc_Levels_view_from : FnScope ["self", "hand", "own", "seen", "at", "level"] ["self", "hand"] (defScope s_Levels_view_from) := ⟨rfl, rfl, rfl, by decide +kernel, rfl, by decide +kernel, by decide +kernel⟩
theorem ok_Levels_view_from (F : Fun K "view_from" "Levels.view_from" s_Levels_view_from f fd) (T : PTx mg) (hC : LC K C) : FnOk P w K mg base CX0 1 f fd ["self", "hand"] (spLView K C) := by
  refine F.ok sc_Levels_view_from (fun vs H Q E h => ?_) (fun cdv A outer s H vs Q E hr h => ?_)
  · obtain ⟨d, p, s, rfl, _⟩ := h
    rfl
  obtain ⟨d, p, s, rfl, hD, W, hp, hlv, k⟩ := h
  refine ⟨_, (pss_cons (ps_set (i := 2) sc_Levels_view_from.nd rfl (Or.inr rfl) (pe_ix ix_tup (pe_fld (pv 0) rfl) (pv 1) (fun _ _ => rfl)))
  (pss_cons (ps_set (i := 3) sc_Levels_view_from.nd rfl (Or.inl rfl) (pe_callTy call_tuple_of rfl T.tuple (by decide +kernel) (pa_cons (pe_lc (own := [("at", 4), ("level", 5)]) (g := (gTup K 2 (gCons (gName 4) (gCons (gName 5) gNil))))  rfl sc_Levels_view_from.nd (pi_enumT rfl T.enumerate (pa_cons (pe_fld (pv 0) rfl) pa_nil)) (blkOk_by (own := [("at", 4), ("level", 5)]) (N := ["self", "hand", "own", "seen", "at", "level"]) (sc := defScope s_Levels_view_from) (by decide +kernel)) (fun _ _ _ _ _ => (pg_tup rfl (pgs_cons (pg_name (i := 4) sc_Levels_view_from.nd rfl (Or.inl rfl)) (pgs_cons (pg_name (i := 5) sc_Levels_view_from.nd rfl (Or.inl rfl)) pgs_nil)))) (fun _ _ _ _ _ => (pts_one (PW.pt (pw_and (pt_cmpR op_notN (pv 5) pe_non (nomark _)) (pw_and1 (pt_cmpR op_le (pv 5) (pv 2) (nomark _))))))) (fun _ _ _ _ _ => (pv 4))) pa_nil)))
  (pss_one (ps_ret (pe_ifExp (pt_cmpR op_ge (pe_callB call_len rfl T.len (by decide +kernel) (pa_cons (pv 3) pa_nil)) (pv 2) (nomark _)) (pv 3) pe_non))))), ?_⟩
  obtain ⟨dx, a, b, r, e, vv, rv, D⟩ := hD
  have n5 := W.n5
  obtain ⟨x, hx⟩ : ∃ x, s.lv p = some x := by
    cases q : s.lv p with
    | none => exact absurd q hlv
    | some x => exact ⟨x, rfl⟩
  have ho : s.own p = x := by unfold LS.own; rw [hx]; rfl
  refine ⟨_, rfl, d, C, dx, _, _, rfl, D.obj, hC.cl, hC.nL, l_lev, _, rfl, a, _, _, _, rfl, rfl, D.lev.sq, atI_nat (show (s.lev.map lvV)[p]? = some (.int x) by rw [List.getElem?_map, show s.lev[p]? = some (s.lv p) from getD_at hp, hx]; rfl), ?_⟩
  refine ⟨_, rfl, d, C, dx, _, _, rfl, D.obj, hC.cl, hC.nL, l_lev, a, _, rfl, D.lev.sq, fun D0 hD0 => ?_⟩
  have hll : (s.lev.map lvV).length = s.n := by rw [List.length_map]; rfl
  refine lc_it (walk_enumT (xs := s.lev.map lvV)) (fun i H' => Same H H' ∧ H' D0 = some (.lst (natV ((List.range i).filter fun q => LS.le (s.lv q) x)))) ⟨same_new hD0 _, upd_same⟩ (fun i H' _ z => D.lev.sq.ext z.1) ?_ ?_
  · rintro i y0 H1 H2 hi ⟨g1, h1⟩ ⟨T', y, rfl, hT, rfl, hy⟩
    have hi' : i < s.n := by rw [← hll]; exact hi
    have ey : y = lvV (s.lv i) := by
      rw [List.getElem?_map, show s.lev[i]? = some (s.lv i) from getD_at hi'] at hy
      exact (Option.some.inj hy).symm
    subst ey
    have g2 := same_new hT (.tup [.int (0 + (i : Nat)), lvV (s.lv i)])
    refine ⟨T', _, rfl, .of upd_same, rfl, _, _, rfl, _, _, rfl, rfl, rfl, ?_⟩
    have es : List.range (i + 1) = List.range i ++ [i] := List.range_succ
    have no : LS.le (s.lv i) x = false → Same H (upd H1 T' (.tup [.int (0 + (i : Nat)), lvV (s.lv i)])) ∧ upd H1 T' (.tup [.int (0 + (i : Nat)), lvV (s.lv i)]) D0 = some (.lst (natV ((List.range (i + 1)).filter fun q => LS.le (s.lv q) x))) := fun z => by
      refine ⟨g1.trans g2, ?_⟩
      rw [es, List.filter_append]
      simp only [List.filter_cons, z, List.filter_nil, List.append_nil, Bool.false_eq_true, if_false]
      exact g2 _ _ h1
    refine ⟨_, rfl, rfl, _, rfl, ?_⟩
    cases hli : s.lv i with
    | none =>
      refine ite_no rfl ?_
      have := no (by rw [hli]; rfl)
      rw [hli] at this; exact this
    | some z =>
      refine ite_yes rfl ⟨_, rfl, _, rfl, _, _, rfl, rfl, _, rfl, ?_⟩
      rw [hli] at no g2
      refine ite2 (fun w => ?_) (fun w => ?_)
      · refine ⟨_, rfl, _, g2 _ _ h1, szt ?_, fun o q hq => ?_, ?_⟩
        · unfold natV
          rw [List.length_map]
          have := List.length_filter_le (fun q => LS.le (s.lv q) x) (List.range i)
          rw [List.length_range] at this
          omega
        · rw [upd_ne (ne_of_none hq hD0)]; exact g2 _ _ (g1 _ _ hq)
        · rw [upd_same, es, List.filter_append]
          have wl : LS.le (s.lv i) x = true := by rw [hli]; exact w
          simp only [List.filter_cons, wl, if_true, List.filter_nil]
          unfold natV
          rw [List.map_append, Int.zero_add]
          rfl
      · have wl : LS.le (some z) x = false := by
          show decide (z ≤ x) = false
          simpa using w
        exact no wl
  rintro H1 ⟨g1, h1⟩
  rw [hll] at h1
  have h1 : H1 D0 = some (.lst (natV (s.below x))) := h1
  refine ⟨D0, _, rfl, .inl ⟨.of h1, fun t nt => ?_⟩⟩
  have gt := same_new nt (.tup (natV (s.below x)))
  have ht : upd H1 t (.tup (natV (s.below x))) t = some (.tup (natV (s.below x))) := upd_same
  have hbl : (natV (s.below x)).length = (s.below x).length := by unfold natV; rw [List.length_map]
  refine ⟨_, rfl, _, (natV (s.below x)).length, rfl, .inr ⟨_, .of ht, rfl⟩, _, rfl, _, _, rfl, rfl, _, rfl, ?_⟩
  unfold LS.seen at k
  rw [ho] at k
  refine ite2 (fun z => ?_) (fun z => ?_)
  · have z' := of_decide_eq_true z
    rw [if_pos (by omega)] at k
    exact ⟨_, rfl, k _ _ (g1.trans gt) ⟨t, rfl, .inl ht⟩⟩
  · have z' : ¬ ((x : Int) ≤ (s.below x).length) := fun y => z (decide_eq_true (by omega))
    rw [if_neg z'] at k
    exact k _ _ (g1.trans gt) rfl
abbrev s_Levels_step : Stmt := inClass (top 19) 5
theorem sc_Levels_step : FnScope ["self", "hand", "due", "step"] ["self", "hand"] (defScope s_Levels_step) := ⟨rfl, rfl, rfl, by decide +kernel, rfl, by decide +kernel, by decide +kernel⟩
theorem ok_Levels_step (F : Fun K "step" "Levels.step" s_Levels_step f fd) (hC : LC K C) (G_exchanged : Fd P w K mg base CX0 "exchanged" 1 ["row", "at", "thing"] (spExch K)) (M_next : Md P w K mg base CX0 C "next" 3 ["self", "hand"] (spLNext K C)) (M_view_from : Md P w K mg base CX0 C "view_from" 1 ["self", "hand"] (spLView K C)) : FnOk P w K mg base CX0 4 f fd ["self", "hand"] (spLStep K C) := by
  refine F.ok sc_Levels_step (fun vs H Q E h => ?_) (fun cdv A outer s H vs Q E hr h => ?_)
  · obtain ⟨d, p, s, rfl, _⟩ := h
    rfl
  obtain ⟨d, p, s, rfl, hD, W, hp, hnx, hrl, k⟩ := h
  refine ⟨_, (pss_cons (ps_set (i := 2) sc_Levels_step.nd rfl (Or.inl rfl) (pe_md (pv 0) hC.cl M_next (hr.mono (by first | decide | omega)) (pa_cons (pv 1) pa_nil)))
  (pss_cons (ps_if (pt_cmpR op_isN (pv 2) pe_non (nomark _)) (pss_one (ps_no)) pss_nil)
  (C8.pss_cut (ps_if (pt_cmpR op_eq (pe_ix ix_tup (pv 2) pe_int (fun _ _ => rfl)) pe_str (nomark _)) (pss_cons (ps_set (i := 3) sc_Levels_step.nd rfl (Or.inl rfl) (pe_tup (pa_cons (pv 1) (pa_cons pe_str (pa_cons (pe_ix ix_tup (pv 2) pe_int (fun _ _ => rfl)) pa_nil)))))
  (pss_one (ps_fld (pv 0) (pe_fd G_exchanged (hr.mono (by first | decide | omega)) rfl (pa_cons (pe_fld (pv 0) rfl) (pa_cons (pv 1) (pa_cons (pe_ix ix_tup (pv 2) pe_int (fun _ _ => rfl)) pa_nil)))) rfl))) (pss_cons (ps_set (i := 3) sc_Levels_step.nd rfl (Or.inl rfl) (pe_tup (pa_cons (pv 1) (pa_cons pe_str (pa_cons (pe_fld (pv 0) rfl) pa_nil)))))
  (pss_one (ps_fld (pv 0) (pe_fd G_exchanged (hr.mono (by first | decide | omega)) rfl (pa_cons (pe_fld (pv 0) rfl) (pa_cons (pv 1) (pa_cons (pe_md (pv 0) hC.cl M_view_from (hr.mono (by first | decide | omega)) (pa_cons (pv 1) pa_nil)) pa_nil)))) rfl))))
  (pss_cons (ps_fld (pv 0) (pe_fd G_exchanged (hr.mono (by first | decide | omega)) rfl (pa_cons (pe_fld (pv 0) rfl) (pa_cons (pv 1) (pa_cons (pe_cmpR op_eq (pe_ix ix_tup (pv 2) pe_int (fun _ _ => rfl)) pe_str (nomark _)) pa_nil)))) rfl)
  (pss_cons (ps_fld (pv 0) (pe_mid (pe_op op_catA (pe_fld (pv 0) rfl) (pe_tup (pa_cons (pv 3) pa_nil)))) rfl)
  (pss_one (ps_ret (pv 3)))))))), ?_⟩
  have hD0 := hD
  obtain ⟨dx, a, b, r, e, vv, rv, D⟩ := hD0
  have n5 := W.n5
  have ndx : dx ≠ d := fun z => by have := D.obj; rw [← z, D.own] at this; cases this
  refine ⟨_, rfl, d, dx, _, rfl, D.obj, ln_next, _, rfl, d, p, s, rfl, hD, W, hp, fun y H1 g1 hy => ?_⟩
  have D1 := D.same g1
  have hvl : s.vi p = none := Classical.byContradiction fun z => hnx (LS.next_none.mpr z)
  obtain ⟨du, hdu⟩ : ∃ du, s.next p = some du := by
    cases q : s.next p with
    | none => exact absurd q hnx
    | some du => exact ⟨du, rfl⟩
  rw [hdu] at hy
  obtain ⟨ty, rfl, kind, hty, hkind⟩ : ∃ ty, y = .ref ty ∧ ∃ kind : List V, H1 ty = some (.tup kind) ∧ (kind = [.str "look"] ∧ du = .look ∨ ∃ l, kind = [.str "write", .int l] ∧ du = .wr l) := by
    cases du with
    | wr l => obtain ⟨t, e, h⟩ := hy; exact ⟨t, e, _, h, .inr ⟨l, rfl, rfl⟩⟩
    | look => obtain ⟨t, e, h⟩ := hy; exact ⟨t, e, _, h, .inl ⟨rfl, rfl⟩⟩
  refine ⟨_, rfl, rfl, _, rfl, iteF ?_⟩
  -- behind the two ways: levels and views are told, the step stands at st
  refine ⟨fun σ H' => ∃ (st a' b' : Addr) (vv' : List V) (dd : PyData) (lev' : List Lv) (vw' : List (Option (List Nat))), σ = [some (.ref d), some (.int p), some (.ref ty), some (.ref st)] ∧ But [d] H H' ∧ TK H1 H' ∧ H' d = some (.ins C dx (lfl (s.n : Nat) a' b' r e)) ∧ H' dx = some (.own d) ∧ TF H' a' (lev'.map lvV) ∧ TF H' b' vv' ∧ Paired (ViewAt H') vv' vw' ∧ SD K H' (.ref st) dd ∧ lev'.length = s.n ∧ s.step p = ⟨lev', vw', s.lk.set p (decide (kind ≠ [.str "look"])), s.run ++ [dd]⟩, ?_, ?_⟩
  · rcases hkind with ⟨rfl, rfl⟩ | ⟨l, rfl, rfl⟩
    · refine ⟨_, rfl, ty, _, _, _, rfl, rfl, .of hty, atI_nat (j := 0) rfl, rfl, _, rfl, iteF ?_⟩
      refine ⟨_, rfl, _, rfl, d, C, dx, _, _, rfl, D1.obj, hC.cl, hC.nL, l_lev, szl (by show 3 ≤ _; decide), fun st nst => ?_⟩
      have g2 := same_new nst (.tup [.int (p : Nat), .str "look", .ref a])
      have hlo : s.lo p = true := by
        unfold LS.next at hdu
        rw [hvl] at hdu
        cases q : s.lo p with
        | true => rfl
        | false => rw [q] at hdu; cases hdu
      have D2 := D1.same g2
      refine ⟨_, rfl, d, C, dx, _, _, rfl, D2.obj, hC.cl, hC.nV, l_vw, _, rfl, _, rfl, d, dx, _, rfl, D2.obj, ln_view, _, rfl, d, p, s, rfl, ⟨dx, a, b, r, e, vv, rv, D2⟩, W, hp, W.lkl p hlo, fun y3 H3 g3 hy3 => ?_⟩
      have D3 := D2.same g3
      have hvlen : vv.length = s.n := by rw [pr_len D3.vwP, W.lw]
      refine ⟨b, vv, p, y3, rfl, D3.vw.sq, by rw [hvlen]; exact hp, by rw [hvlen]; omega, fun b' H4 g4 hb' => ?_⟩
      have D4 := D3.same g4
      refine ⟨_, rfl, d, C, dx, _, rfl, D4.obj, hC.cl, hC.nV, by show 5 < 1000; decide, ?_⟩
      rw [lp_vw]
      have gs := ((g1.trans g2).trans g3).trans g4
      have g14 := (g2.trans g3).trans g4
      have tk5 : TK H4 (upd H4 d (.ins C dx (lfl (s.n : Nat) a b' r e))) := .put D4.obj fun z => z
      have tk : TK H1 (upd H4 d (.ins C dx (lfl (s.n : Nat) a b' r e))) := (TK.of g14).trans tk5
      have hst : H4 st = some (.tup [.int (p : Nat), .str "look", .ref a]) := g4 _ _ (g3 _ _ upd_same)
      refine ⟨st, a, b', vv.set p y3, .tuple [.int (p : Nat), .str "look", .tuple (s.lev.map lvD)], s.lev, s.vw.set p (s.seen p), rfl, (But.of (S := [d]) gs).put (by simp), tk, upd_same, by rw [upd_ne ndx]; exact D4.own, tk.f D1.lev, tk5.f hb', pr_set (ViewAt.mono ((TK.of g4).trans tk5) hy3) p (pr_imp (fun _ _ => ViewAt.mono tk) D1.vwP), ?_, rfl, ?_⟩
      · intro H' g
        exact .tup (.of ((tk5.trans g).t hst)) (.cons (.int _) (.cons (.str _) (.cons (.tup ((tk5.trans g).f D4.lev).sq (lv_dp s.lev)) .nil)))
      · show (match s.next p with | none => s | some (.wr l) => s.wrote p l | some .look => s.looked p) = _
        rw [hdu, show decide (([.str "look"] : List V) ≠ [.str "look"]) = false from decide_eq_false (fun z => z rfl)]
        rfl
    · refine ⟨_, rfl, ty, _, _, _, rfl, rfl, .of hty, atI_nat (j := 0) rfl, rfl, _, rfl, iteT ?_⟩
      refine ⟨_, rfl, _, rfl, ty, _, _, _, rfl, rfl, .of hty, atI_nat (j := 1) rfl, szl (by show 3 ≤ _; decide), fun st nst => ?_⟩
      have g2 := same_new nst (.tup [.int (p : Nat), .str "write", .int l])
      have D2 := D1.same g2
      have hty2 := g2 _ _ hty
      have hll : (s.lev.map lvV).length = s.n := by rw [List.length_map]; rfl
      refine ⟨_, rfl, d, C, dx, _, _, rfl, D2.obj, hC.cl, hC.nL, l_lev, _, rfl, _, rfl, ty, _, _, _, rfl, rfl, .of hty2, atI_nat (j := 1) rfl, a, _, p, .int l, rfl, D2.lev.sq, by rw [hll]; exact hp, by rw [hll]; omega, fun a' H4 g4 ha' => ?_⟩
      have D4 := D2.same g4
      refine ⟨_, rfl, d, C, dx, _, rfl, D4.obj, hC.cl, hC.nL, by show 5 < 1000; decide, ?_⟩
      rw [lp_lev]
      have gs := (g1.trans g2).trans g4
      have g14 := g2.trans g4
      have tk5 : TK H4 (upd H4 d (.ins C dx (lfl (s.n : Nat) a' b r e))) := .put D4.obj fun z => z
      have tk : TK H1 (upd H4 d (.ins C dx (lfl (s.n : Nat) a' b r e))) := (TK.of g14).trans tk5
      have hst : H4 st = some (.tup [.int (p : Nat), .str "write", .int l]) := g4 _ _ upd_same
      refine ⟨st, a', b, vv, .tuple [.int (p : Nat), .str "write", .int l], s.lev.set p (some l), s.vw, rfl, (But.of (S := [d]) gs).put (by simp), tk, upd_same, by rw [upd_ne ndx]; exact D4.own, by rw [List.map_set]; exact tk5.f ha', tk.f D1.vw, pr_imp (fun _ _ => ViewAt.mono tk) D1.vwP, ?_, by rw [List.length_set]; rfl, ?_⟩
      · intro H' g
        exact .tup (.of ((tk5.trans g).t hst)) (.cons (.int _) (.cons (.str _) (.cons (.int _) .nil)))
      · show (match s.next p with | none => s | some (.wr l) => s.wrote p l | some .look => s.looked p) = _
        rw [hdu, show decide (([.str "write", .int l] : List V) ≠ [.str "look"]) = true from decide_eq_true (fun z => by simp at z)]
        rfl
  rintro σ H2 ⟨st, a', b', vv', dd, lev', vw', rfl, b2, tk2, hob, hox, ha', hb', hvp, hst, hln, est⟩
  have hty2 := tk2.t hty
  have elk : TF H2 e (s.lk.map V.bl) := tk2.f D1.lk
  have hkl : (s.lk.map V.bl).length = s.n := by rw [List.length_map, W.ll]
  have hk0 : ∃ x0 xs0, kind = .str x0 :: xs0 ∧ decide (V.str x0 = V.str "write") = decide (kind ≠ [.str "look"]) := by
    rcases hkind with ⟨rfl, _⟩ | ⟨l, rfl, _⟩
    · exact ⟨_, _, rfl, by rw [decide_eq_false (fun z => z rfl : ¬ (([.str "look"] : List V) ≠ [.str "look"]))]; decide +kernel⟩
    · exact ⟨_, _, rfl, by
      have ne : ([.str "write", .int l] : List V) ≠ [.str "look"] := fun z => by simp at z
      rw [decide_eq_true rfl, decide_eq_true ne]⟩
  obtain ⟨x0, xs0, ek, hk0⟩ := hk0
  refine ⟨_, rfl, d, C, dx, _, _, rfl, hob, hC.cl, hC.nK, l_lk, _, rfl, _, rfl, ty, _, _, _, rfl, rfl, .of hty2, atI_nat (show kind[0]? = some (.str x0) by rw [ek]; rfl), rfl, ?_⟩
  rw [hk0]
  refine ⟨e, _, p, _, rfl, elk.sq, by rw [hkl]; exact hp, by rw [hkl]; omega, fun e' H3 g3 he' => ?_⟩
  refine ⟨_, rfl, d, C, dx, _, rfl, g3 _ _ hob, hC.cl, hC.nK, by show 5 < 1000; decide, ?_⟩
  rw [lp_lk]
  have tk4 : TK H3 (upd H3 d (.ins C dx (lfl (s.n : Nat) a' b' r e'))) := .put (g3 _ _ hob) fun z => z
  have b4 : But [d] H (upd H3 d (.ins C dx (lfl (s.n : Nat) a' b' r e'))) := (b2.trans (.of g3)).put (by simp)
  have hob4 : upd H3 d (.ins C dx (lfl (s.n : Nat) a' b' r e')) d = some (.ins C dx (lfl (s.n : Nat) a' b' r e')) := upd_same
  have hox4 : upd H3 d (.ins C dx (lfl (s.n : Nat) a' b' r e')) dx = some (.own d) := by rw [upd_ne ndx]; exact g3 _ _ hox
  have he4 := tk4.f he'
  have tk24 : TK H2 (upd H3 d (.ins C dx (lfl (s.n : Nat) a' b' r e'))) := (TK.of g3).trans tk4
  generalize upd H3 d (.ins C dx (lfl (s.n : Nat) a' b' r e')) = H4 at tk4 b4 hob4 hox4 he4 tk24
  have ha4 := tk24.f ha'
  have hb4 := tk24.f hb'
  have hv4 := pr_imp (fun _ _ => ViewAt.mono tk24) hvp
  have hs4 := SD.mono hst tk24
  have hr4 := (tk2.trans tk24).t D1.run
  have hrp4 := SDs.mono D1.runP (tk2.trans tk24)
  refine ⟨fun y H' => ∃ q, y = .ref q ∧ Same H4 H' ∧ H' q = some (.tup (rv ++ [.ref st])), ?_, ?_⟩
  · refine ⟨_, rfl, d, C, dx, _, _, rfl, hob4, hC.cl, hC.nR, l_run, _, rfl, szl (by show 1 ≤ _; decide), fun t2 n2 => ?_⟩
    have gb := same_new n2 (.tup [.ref st])
    refine ⟨r, t2, rv, _, rfl, rfl, .of (gb _ _ hr4), .of upd_same, ?_, fun z => ?_, fun _ z => ?_, fun _ _ q nq => ?_⟩
    · rw [pr_len D1.runP]; exact szl (by show s.run.length + 1 ≤ _; omega)
    · exact ⟨t2, rfl, gb, by rw [z]; exact upd_same⟩
    · cases z
    · exact ⟨q, rfl, gb.trans (same_new nq _), upd_same⟩
  rintro y H5 ⟨r', rfl, g5, hr'⟩
  refine ⟨_, rfl, d, C, dx, _, rfl, g5 _ _ hob4, hC.cl, hC.nR, by show 5 < 1000; decide, ?_⟩
  rw [lp_run]
  have tk6 : TK H5 (upd H5 d (.ins C dx (lfl (s.n : Nat) a' b' r' e'))) := .put (g5 _ _ hob4) fun z => z
  have tk46 := (TK.of g5).trans tk6
  refine ⟨_, rfl, ?_⟩
  refine k _ dd _ ((b4.trans (.of g5)).put (by simp)) ⟨dx, a', b', r', e', vv', rv ++ [.ref st], ?_⟩ (by rw [est]) (SD.mono hs4 tk46)
  have en : (s.step p).n = s.n := LS.n_step
  rw [est] at en ⊢
  refine ⟨by rw [upd_same, en], by rw [upd_ne ndx]; exact g5 _ _ hox4, tk46.f ha4, tk46.f hb4, pr_imp (fun _ _ => ViewAt.mono tk46) hv4, tk6.t hr', SDs.mono (pr_snoc hs4 hrp4) tk46, ?_⟩
  rw [List.map_set]
  exact tk46.f he4
end
end Fp
/-! o.m(k = v, ..); players by other numbers -/
namespace Fp
open PySem PySem.Spec PyProof.Rows L2
/-! ### methods called by keywords alone -/
def tMethKW (C : Addr) (m : Str) (n : Nat) (sp : Sp) (gV : List V → List V → List V) (E : XK) (ta : TE) (tk : TA) : TE := fun σ H Q => ta σ H fun x H1 => ∃ a dx fs, x = .ref a ∧ H1 a = some (.ins C dx fs) ∧ fs.lookup m = none ∧ tk σ H1 fun zs H2 => zs.length = n ∧ sp (gV [.ref a] zs) H2 Q E
structure MdK (P : Program) (w : World) (K : PySem.W.Frag) (mg : Str → Option Value) (base : Heap) (CX : CXT) (C : Addr) (m : Str) (k : Nat) (ps ks : List Str) (g : List Value → List Value → List Value) (gV : List V → List V → List V) (sp : Sp) : Prop where
  ex : ∃ (f : Addr) (fd : FuncData), Meth K C m f ∧ KBn K fd ps 1 ks g gV ∧ FnOk P w K mg base CX k f fd ps sp
section
variable {X : Cx} {k : Nat} {C : Addr} {ps ks : List Str} {sp : Sp} {m : Str} {pos apos : Pos} {o : Expr} {kws : List Keyword} {ta : TE} {tk : TA} {g : List Value → List Value → List Value} {gV : List V → List V → List V}
theorem pe_mdK {pl : Sem Bool} (he : PE X o ta) (c : Cls X.K C) (M : MdK X.prog X.w X.K X.mg X.base CX0 C m k ps ks g gV sp) (hr : Room k X.A) (hkw : PK X kws tk)
    (hall : (backToKw pos (keywordEach kws X.env)).all (·.1.isSome) = true := by rfl) (hks : (backToKw pos (keywordEach kws X.env)).filterMap (·.1) = ks := by rfl)
    (hpl : ((backTo pos (starEach [] X.env)).any (·.1) || (backToKw pos (keywordEach kws X.env)).any (·.1.isNone)) = false := by rfl)
    (ht : eval (.Call (.Attribute o m apos) [] kws pos) X.env = (do
      let ov ← eval o X.env
      standAt apos.atName
      let (f, first) ← holding [ov] (getMethod ov m pl)
      callWith pos f first (backTo pos (starEach [] X.env)) (backToKw pos (keywordEach kws X.env))) := by rfl) :
    PE X (.Call (.Attribute o m apos) [] kws pos) (tMethKW C m ks.length sp gV E0 ta tk) := by
  obtain ⟨f, fd, hm, hb, F⟩ := M.ex
  refine ⟨fun pins s σ H Q I h => ?_⟩
  refine PySem.W.methodCall_KW (pl := pl) (thn (he.run pins s σ H _ I h) fun u s1 ⟨x, H1, I1, rx, a, dx, fs, ex, ea, l, q⟩ => ?_) ht
  subst ex
  obtain rfl : u = Value.ref a := rx
  refine getmeth_ok I1 ea c hm l ?_
  refine PySem.W.callWith_KW0 (first := [.ref a]) (h₀ := X.base) I.ok.mod.kin hm.kp hall ?_ hpl
  refine thn (hkw.run pos pins s1 σ H1 _ I1 q) fun ws s2 ⟨zs, H2, I2, rz, l2, q2⟩ => ⟨I2.kIn, ?_⟩
  rw [hks]
  have r1 : Vals [V.ref a] [Value.ref a] := .cons rfl .nil
  have r2 := hb.rel r1 rz
  refine wpAny_call (codeAny_mono (F.run X.A X.stack s2 H2 ⟨[.ref a], ks.zip ws⟩ (g [.ref a] ws) (gV [.ref a] zs) Q E0 hr I2.env0 (hb.to s2 [.ref a] ws I2.kIn rfl (rz.length.symm.trans l2)) r2 q2) fun r s' hq => ?_)
  cases r with
  | error e => exact pass0 pins σ H2 s2 e s' I2 hq
  | ok fl =>
    cases fl with
    | ret u => exact I2.after hq
    | next => exact False.elim hq
    | brk => exact False.elim hq
    | cont => exact False.elim hq
end
/-! ### rows by other numbers -/
structure Nu (nu : List Nat) : Prop where
  lt : ∀ q ∈ nu, q < 5
  up : nu.Pairwise (· < ·)
def ledF {β : Type} : List β → List Nat → List β → List β
  | x :: xs, q :: nu, acc => ledF xs nu (acc.set q x)
  | _, _, acc => acc
def ledL {α : Type} (nu : List Nat) (xs : List (Option α)) : List (Option α) := ledF xs nu (List.replicate 5 none)
theorem led_snoc {β : Type} {x : β} {q : Nat} : ∀ {xs : List β} {nu : List Nat} {acc : List β}, nu[xs.length]? = some q → ledF (xs ++ [x]) nu acc = (ledF xs nu acc).set q x
  | [], [], acc, h => by cases h
  | [], r :: nu, acc, h => by cases h; cases nu <;> rfl
  | y :: ys, [], acc, h => by cases h
  | y :: ys, r :: nu, acc, h => by
    show ledF (ys ++ [x]) nu (acc.set r y) = (ledF ys nu (acc.set r y)).set q x
    exact led_snoc (by simpa using h)
theorem led_len {β : Type} : ∀ (xs : List β) (nu : List Nat) (acc : List β), (ledF xs nu acc).length = acc.length
  | [], nu, acc => by cases nu <;> rfl
  | x :: xs, [], acc => rfl
  | x :: xs, q :: nu, acc => by show (ledF xs nu _).length = _; rw [led_len xs nu]; simp
theorem led_map {β γ : Type} (f : β → γ) : ∀ (xs : List β) (nu : List Nat) (acc : List β), (ledF xs nu acc).map f = ledF (xs.map f) nu (acc.map f)
  | [], nu, acc => by cases nu <;> rfl
  | x :: xs, [], acc => rfl
  | x :: xs, q :: nu, acc => by
    show (ledF xs nu _).map f = ledF (xs.map f) nu ((acc.map f).set q (f x))
    rw [led_map f xs nu, List.map_set]
theorem led_pair {β γ : Type} {F : β → γ → Prop} : ∀ {xs : List β} {ys : List γ} {nu : List Nat} {acc : List β} {bcc : List γ}, Paired F xs ys → Paired F acc bcc → Paired F (ledF xs nu acc) (ledF ys nu bcc)
  | _, _, nu, _, _, .nil, h => by cases nu <;> exact h
  | _, _, [], _, _, .cons _ _, h => h
  | _, _, q :: nu, _, _, .cons a r, h => led_pair (nu := nu) r (pr_set a q h)
theorem ledL_len {α : Type} {nu : List Nat} {xs : List (Option α)} : (ledL nu xs).length = 5 := by unfold ledL; rw [led_len]; simp
section
variable {nu : List Nat}
theorem Nu.inj (N : Nu nu) {p p' q : Nat} (h : nu[p]? = some q) (h' : nu[p']? = some q) : p = p' := by
  have a := List.getElem?_eq_some_iff.mp h
  have b := List.getElem?_eq_some_iff.mp h'
  obtain ⟨a1, a2⟩ := a
  obtain ⟨b1, b2⟩ := b
  have up := List.pairwise_iff_getElem.mp N.up
  rcases Nat.lt_trichotomy p p' with h | h | h
  · have := up p p' a1 b1 h; omega
  · exact h
  · have := up p' p b1 a1 h; omega
theorem Nu.mono (N : Nu nu) {p p' q q' : Nat} (h : nu[p]? = some q) (h' : nu[p']? = some q') : p < p' ↔ q < q' := by
  obtain ⟨a1, a2⟩ := List.getElem?_eq_some_iff.mp h
  obtain ⟨b1, b2⟩ := List.getElem?_eq_some_iff.mp h'
  have up := List.pairwise_iff_getElem.mp N.up
  constructor
  · intro z; have := up p p' a1 b1 z; omega
  · intro z
    rcases Nat.lt_trichotomy p p' with h | h | h
    · exact h
    · subst h; omega
    · have := up p' p b1 a1 h; omega
theorem Nu.five (N : Nu nu) {p q : Nat} (h : nu[p]? = some q) : q < 5 := N.lt q (List.mem_of_getElem? h)
theorem led_at {α : Type} (N : Nu nu) {xs : List (Option α)} (hl : xs.length = nu.length) : ∀ i, i ≤ xs.length → (∀ p q, p < i → nu[p]? = some q → (ledL nu (xs.take i)).getD q none = xs.getD p none) ∧ (∀ q, (∀ p, p < i → nu[p]? ≠ some q) → (ledL nu (xs.take i)).getD q none = none)
  | 0, _ => ⟨fun p q h => absurd h (by omega), fun q _ => by
    rw [List.take_zero]
    show (ledF [] nu (List.replicate 5 none)).getD q none = none
    have : ledF ([] : List (Option α)) nu (List.replicate 5 none) = List.replicate 5 none := by cases nu <;> rfl
    rw [this]; exact DS.rep_none 5 q⟩
  | i + 1, hi => by
    obtain ⟨h1, h2⟩ := led_at N hl i (by omega)
    have hx : xs[i]? = some xs[i] := List.getElem?_eq_getElem (by omega)
    obtain ⟨q0, hq0⟩ : ∃ q, nu[i]? = some q := ⟨nu[i], List.getElem?_eq_getElem (by omega)⟩
    have e : ledL nu (xs.take (i + 1)) = (ledL nu (xs.take i)).set q0 xs[i] := by
      rw [List.take_add_one, hx]
      exact led_snoc (by rw [List.length_take, Nat.min_eq_left (by omega)]; exact hq0)
    have q5 := N.five hq0
    rw [e]
    refine ⟨fun p q hp hq => ?_, fun q hq => ?_⟩
    · rw [getD_set, ledL_len]
      by_cases z : q0 = q
      · rw [if_pos ⟨z, q5⟩]
        subst z
        have := N.inj hq hq0
        subst this
        exact (getD_of hx).symm
      · rw [if_neg (fun w => z w.1)]
        refine h1 p q ?_ hq
        by_cases pi : p = i
        · subst pi; rw [hq0] at hq; exact absurd (Option.some.inj hq) z
        · omega
    · rw [getD_set, if_neg]
      · exact h2 q fun p hp => hq p (by omega)
      · rintro ⟨z, _⟩; exact hq i (by omega) (by rw [hq0, z])
theorem ledL_at {α : Type} (N : Nu nu) {xs : List (Option α)} (hl : xs.length = nu.length) {p q : Nat} (h : nu[p]? = some q) : (ledL nu xs).getD q none = xs.getD p none := by
  have := (led_at N hl xs.length (Nat.le_refl _)).1 p q (by rw [hl]; exact get_lt h) h
  rwa [List.take_length] at this
theorem ledL_off {α : Type} (N : Nu nu) {xs : List (Option α)} (hl : xs.length = nu.length) {q : Nat} (h : q ∉ nu) : (ledL nu xs).getD q none = none := by
  have := (led_at N hl xs.length (Nat.le_refl _)).2 q (fun p _ z => h (List.mem_of_getElem? z))
  rwa [List.take_length] at this
theorem mem_led {α : Type} (N : Nu nu) {xs : List (Option α)} (hl : xs.length = nu.length) (x : α) : some x ∈ ledL nu xs ↔ some x ∈ xs := by
  rw [mem_getD, mem_getD]
  constructor
  · rintro ⟨q, hq⟩
    by_cases z : q ∈ nu
    · obtain ⟨p, hp⟩ := List.getElem?_of_mem z
      exact ⟨p, by rw [← ledL_at N hl hp]; exact hq⟩
    · rw [ledL_off N hl z] at hq; cases hq
  · rintro ⟨p, hp⟩
    have hlt := (getD_none_of hp).1
    have : nu[p]? = some nu[p] := List.getElem?_eq_getElem (by omega)
    exact ⟨nu[p], by rw [ledL_at N hl this]; exact hp⟩
end
theorem ext_getD {α : Type} {l m : List (Option α)} (h : l.length = m.length) (e : ∀ q, l.getD q none = m.getD q none) : l = m := by
  refine List.ext_getElem? fun q => ?_
  by_cases hq : q < l.length
  · have := e q
    rw [getD_at hq, getD_at (by omega), this]
  · rw [List.getElem?_eq_none (by omega), List.getElem?_eq_none (by omega)]
theorem sorted_ext : ∀ {l m : List Nat}, l.Pairwise (· < ·) → m.Pairwise (· < ·) → (∀ x, x ∈ l ↔ x ∈ m) → l = m
  | [], [], _, _, _ => rfl
  | [], b :: m, _, _, h => absurd ((h b).mpr List.mem_cons_self) (by simp)
  | a :: l, [], _, _, h => absurd ((h a).mp List.mem_cons_self) (by simp)
  | a :: l, b :: m, hl, hm, h => by
    obtain ⟨a1, a2⟩ := List.pairwise_cons.mp hl
    obtain ⟨b1, b2⟩ := List.pairwise_cons.mp hm
    have eab : a = b := by
      rcases List.mem_cons.mp ((h a).mp List.mem_cons_self) with e | e
      · exact e
      · rcases List.mem_cons.mp ((h b).mpr List.mem_cons_self) with e' | e'
        · exact e'.symm
        · have := b1 a e; have := a1 b e'; omega
    subst eab
    congr 1
    refine sorted_ext a2 b2 fun x => ?_
    constructor
    · intro hx
      rcases List.mem_cons.mp ((h x).mp (List.mem_cons_of_mem _ hx)) with e | e
      · have := a1 x hx; omega
      · exact e
    · intro hx
      rcases List.mem_cons.mp ((h x).mpr (List.mem_cons_of_mem _ hx)) with e | e
      · have := b1 x hx; omega
      · exact e
/-! ### who can be told next -/
namespace DS
def cameL (s : DS) : List Nat := (List.range s.lev.length).filter fun p => (s.cm p).isSome
def readyL (s : DS) : List Nat := s.held.filter fun p => s.won p
def minN (a : Nat) (l : List Nat) : Nat := l.foldl min a
def wins (s : DS) : List Nat := if some 2 ∈ s.lev then [minN s.two s.readyL] else match s.readyL with
  | [] => s.cameL
  | r :: _ => (s.cameL.filter fun p => decide (p < r) && (s.sn p).isNone) ++ [r]
end DS
theorem minN_spec : ∀ (l : List Nat) (a : Nat), DS.minN a l ∈ a :: l ∧ ∀ x ∈ a :: l, DS.minN a l ≤ x
  | [], a => ⟨by simp [DS.minN], fun x hx => by rw [List.mem_singleton.mp hx]; exact Nat.le_refl _⟩
  | b :: l, a => by
    obtain ⟨h1, h2⟩ := minN_spec l (min a b)
    have e : DS.minN a (b :: l) = DS.minN (min a b) l := rfl
    rw [e]
    refine ⟨?_, fun x hx => ?_⟩
    · rcases List.mem_cons.mp h1 with z | z
      · rw [z]
        rcases Nat.le_total a b with w | w
        · rw [Nat.min_eq_left w]; simp
        · rw [Nat.min_eq_right w]; simp
      · simp [z]
    · have hm := h2 (min a b) List.mem_cons_self
      rcases List.mem_cons.mp hx with z | z
      · rw [z]; exact Nat.le_trans hm (Nat.min_le_left _ _)
      · rcases List.mem_cons.mp z with z | z
        · rw [z]; exact Nat.le_trans hm (Nat.min_le_right _ _)
        · exact h2 x (List.mem_cons_of_mem _ z)
theorem minN_of {a m : Nat} {l : List Nat} (h1 : m ∈ a :: l) (h2 : ∀ x ∈ a :: l, m ≤ x) : DS.minN a l = m := by
  obtain ⟨a1, a2⟩ := minN_spec l a
  exact Nat.le_antisymm (a2 m h1) (h2 _ a1)
def dedup (l : List Nat) : List Nat := l.foldl (fun acc x => if x ∈ acc then acc else acc ++ [x]) []
theorem dedup_snoc (l : List Nat) (x : Nat) : dedup (l ++ [x]) = if x ∈ dedup l then dedup l else dedup l ++ [x] := by
  unfold dedup; rw [List.foldl_append]; rfl
theorem take_last {l : List Nat} {n : Nat} (h : l.length = n + 1) : l = l.take n ++ [l[n]] := by
  conv => lhs; rw [← List.take_append_drop n l]
  congr 1
  rw [List.drop_eq_getElem_cons (by omega)]
  congr 1
  exact List.drop_eq_nil_of_le (by omega)
theorem dedup_len : ∀ (n : Nat) (l : List Nat), l.length = n → (dedup l).length ≤ n
  | 0, l, h => by rw [List.length_eq_zero_iff.mp h]; decide
  | n + 1, l, h => by
    have e := take_last h
    rw [e, dedup_snoc]
    have ih := dedup_len n (l.take n) (by rw [List.length_take]; omega)
    split
    · omega
    · rw [List.length_append]; show _ + 1 ≤ _; omega
theorem dedup_mem : ∀ (n : Nat) (l : List Nat), l.length = n → ∀ x ∈ dedup l, x ∈ l
  | 0, l, h => by rw [List.length_eq_zero_iff.mp h]; simp [dedup]
  | n + 1, l, h => by
    have e := take_last h
    rw [e, dedup_snoc]
    have ih := dedup_mem n (l.take n) (by rw [List.length_take]; omega)
    intro x hx
    split at hx
    · exact List.mem_append_left _ (ih x hx)
    · rcases List.mem_append.mp hx with z | z
      · exact List.mem_append_left _ (ih x z)
      · exact List.mem_append_right _ z
def spWinG (C : Addr) : Sp := fun vs H Q _ => ∃ (d : Addr) (s : DS), vs = [.ref d] ∧ DoorAt C H d s ∧ ∀ (l : Addr) H', Same H H' → H l = none → H' l = some (.lst (natV s.wins)) → Q (.ref l) H'
def spMayG (C : Addr) : Sp := fun vs H Q _ => ∃ (d : Addr) (s : DS) (cod : Nat → V) (dat : Nat → PyData) (cs : Nat → Nat), vs = [.ref d] ∧ DoorAt C H d s ∧ (∀ p v, s.cm p = some v → v = cod (cs p)) ∧ (∀ p, VAt H (cod (cs p)) (dat (cs p)) ∧ VOk 3 (dat (cs p))) ∧
  (∀ p q, PyData.eqv (dat (cs p)) (dat (cs q)) = decide (cs p = cs q)) ∧ ∀ t H', Same H H' → H' t = some (.tup ((dedup (s.wins.map cs)).map cod)) → Q (.ref t) H'
theorem wins_mem {s : DS} (W : s.WF) {p : Nat} (h : p ∈ s.wins) : p < s.lev.length ∧ s.cm p ≠ none := by
  have hheld : ∀ p ∈ s.held, p < s.lev.length ∧ s.lv p = some 1 := fun p hp => by
    have := List.mem_filter.mp hp
    exact ⟨List.mem_range.mp this.1, of_decide_eq_true this.2⟩
  have hr : ∀ p ∈ s.readyL, p < s.lev.length ∧ s.cm p ≠ none := fun p hp => by
    have := hheld p (List.mem_filter.mp hp).1
    exact ⟨this.1, W.cmv p (by rw [this.2]; simp)⟩
  have hc : ∀ p ∈ s.cameL, p < s.lev.length ∧ s.cm p ≠ none := fun p hp => by
    have := List.mem_filter.mp hp
    refine ⟨List.mem_range.mp this.1, fun z => ?_⟩
    rw [z] at this; exact absurd this.2 (by simp)
  unfold DS.wins at h
  split at h
  · rename_i h2
    rw [List.mem_singleton.mp h]
    obtain ⟨h1, _⟩ := minN_spec s.readyL s.two
    rcases List.mem_cons.mp h1 with z | z
    · rw [z]
      obtain ⟨m1, m2, _⟩ := DS.two_lev (mem_getD.mp h2)
      exact ⟨m1, W.cmv _ (by rw [m2]; simp)⟩
    · exact hr _ z
  · split at h
    · exact hc p h
    · rename_i r rs e
      rcases List.mem_append.mp h with z | z
      · exact hc p (List.mem_filter.mp z).1
      · rw [List.mem_singleton.mp z]; exact hr r (by rw [e]; exact List.mem_cons_self)
theorem wins_len {s : DS} (W : s.WF) : s.wins.length ≤ 6 := by
  have h5 := W.n5
  have hc : s.cameL.length ≤ 5 := by
    have := List.length_filter_le (fun p => (s.cm p).isSome) (List.range s.lev.length)
    rw [List.length_range] at this
    unfold DS.cameL; omega
  unfold DS.wins
  split
  · show 1 ≤ 6; decide
  · split
    · omega
    · rename_i r _ _
      rw [List.length_append]
      have := List.length_filter_le (fun p => decide (p < r) && (s.sn p).isNone) s.cameL
      show _ + 1 ≤ 6
      omega
/-! ### two doors, the one by other numbers -/
structure RelD (nm : V → V) (nu : List Nat) (s t : DS) : Prop where
  N : Nu nu
  ls : s.lev.length = nu.length
  lt : t.lev.length = 5
  Ws : s.WF
  Wt : t.WF
  lv : ∀ p q, nu[p]? = some q → t.lv q = s.lv p
  cm : ∀ p q, nu[p]? = some q → t.cm q = (s.cm p).map nm
  sn : ∀ p q, nu[p]? = some q → t.sn q = (s.sn p).map (ledL nu)
  hd : ∀ p q, nu[p]? = some q → t.hd q = (s.hd p).map nm
  offC : ∀ q, q ∉ nu → t.cm q = none
  offH : ∀ q, q ∉ nu → t.hd q = none
  snl : ∀ p l, s.sn p = some l → l.length = nu.length
  st : t.stps = s.stps
def mapT (nm : V → V) (nu : List Nat) : Told → Told
  | .level i => .level i
  | .look l => .look (ledL nu l)
  | .wait => .wait
  | .word v => .word (nm v)
section
variable {nm : V → V} {nu : List Nat} {s t : DS} {p q : Nat} {v : V}
theorem RelD.new {n : Nat} (N : Nu nu) (h1 : 1 ≤ n) (h5 : n ≤ 5) (hl : nu.length = n) : RelD nm nu (DS.new n) (DS.new 5) := by
  refine ⟨N, by simp [DS.new, hl], by simp [DS.new], .new h1 h5, .new (by decide) (by decide), ?_, ?_, ?_, ?_, ?_, ?_, ?_, rfl⟩
  · intro p q _; rw [DS.lv_new, DS.lv_new]
  · intro p q _; rw [DS.cm_new, DS.cm_new]; rfl
  · intro p q _; rw [DS.sn_new, DS.sn_new]; rfl
  · intro p q _; rw [DS.hd_new, DS.hd_new]; rfl
  · intro q _; exact DS.cm_new _ _
  · intro q _; exact DS.hd_new _ _
  · intro p l h; rw [DS.sn_new] at h; cases h
theorem RelD.offL (R : RelD nm nu s t) (h : q ∉ nu) : t.lv q = none := by
  cases e : t.lv q with
  | none => rfl
  | some x => exact absurd (R.offC q h) (R.Wt.cmv q (by rw [e]; simp))
theorem RelD.offS (R : RelD nm nu s t) (h : q ∉ nu) : t.sn q = none := by
  cases e : t.sn q with
  | none => rfl
  | some x => exact absurd (R.offL h) (R.Wt.snv q (by rw [e]; simp))
theorem RelD.lev (R : RelD nm nu s t) : t.lev = ledL nu s.lev := by
  refine ext_getD (by rw [R.lt, ledL_len]) fun q => ?_
  by_cases h : q ∈ nu
  · obtain ⟨p, hp⟩ := List.getElem?_of_mem h
    rw [ledL_at R.N R.ls hp]; exact R.lv p q hp
  · rw [ledL_off R.N R.ls h]; exact R.offL h
theorem RelD.heard (R : RelD nm nu s t) : t.heard = ledL nu (s.heard.map (Option.map nm)) := by
  have hl : (s.heard.map (Option.map nm)).length = nu.length := by rw [List.length_map, R.Ws.lh, R.ls]
  refine ext_getD (by rw [R.Wt.lh, R.lt, ledL_len]) fun q => ?_
  by_cases h : q ∈ nu
  · obtain ⟨p, hp⟩ := List.getElem?_of_mem h
    rw [ledL_at R.N hl hp]
    have e : (s.heard.map (Option.map nm)).getD p none = (s.hd p).map nm := by
      rw [List.getD_eq_getElem?_getD, List.getElem?_map]
      unfold DS.hd
      rw [List.getD_eq_getElem?_getD]
      cases s.heard[p]? <;> rfl
    rw [e]; exact R.hd p q hp
  · rw [ledL_off R.N hl h]; exact R.offH q h
theorem RelD.stg (R : RelD nm nu s t) (h : nu[p]? = some q) : t.stg q = s.stg p := by
  unfold DS.stg
  rw [R.lv p q h, R.sn p q h]
  unfold DS.stgOf
  cases s.sn p <;> rfl
theorem RelD.mem (R : RelD nm nu s t) (x : Int) : some x ∈ t.lev ↔ some x ∈ s.lev := by rw [R.lev]; exact mem_led R.N R.ls x
theorem RelD.saw (R : RelD nm nu s t) (h : nu[p]? = some q) : t.saw q = s.saw p := by
  unfold DS.saw
  rw [R.sn p q h]
  cases e : s.sn p with
  | none => rfl
  | some l => exact decide_eq_decide.mpr (mem_led R.N (R.snl p l e) 2)
theorem RelD.won (R : RelD nm nu s t) (h : nu[p]? = some q) : t.won q = s.won p := by
  unfold DS.won
  rw [R.sn p q h]
  cases e : s.sn p with
  | none => rfl
  | some l => show (!decide _) = (!decide _); rw [decide_eq_decide.mpr (mem_led R.N (R.snl p l e) 2)]
theorem RelD.wr (R : RelD nm nu s t) (h : nu[p]? = some q) : t.wr q = s.wr p := by unfold DS.wr; rw [R.saw h]
theorem RelD.at (R : RelD nm nu s t) (h : p < s.lev.length) : nu[p]? = some (nu.getD p 0) := by
  rw [R.ls] at h
  rw [List.getD_eq_getElem?_getD, List.getElem?_eq_getElem h]; rfl
theorem RelD.two (R : RelD nm nu s t) (h2 : ∃ p, s.lv p = some 2) : nu[s.two]? = some t.two := by
  obtain ⟨a1, a2, a3⟩ := DS.two_lev h2
  have hq := R.at a1
  have t2 : t.lv (nu.getD s.two 0) = some 2 := by rw [R.lv _ _ hq]; exact a2
  obtain ⟨b1, b2, b3⟩ := DS.two_lev ⟨_, t2⟩
  by_cases hm : t.two ∈ nu
  · obtain ⟨p', hp'⟩ := List.getElem?_of_mem hm
    have e2 : s.lv p' = some 2 := by rw [← R.lv p' _ hp']; exact b2
    have h3 : ¬ p' < s.two := fun z => a3 p' z e2
    have h4 : ¬ nu.getD s.two 0 < t.two := fun z => b3 _ z t2
    have h5 := R.N.mono hq hp'
    have : p' = s.two := by
      have : ¬ s.two < p' := fun z => h4 (h5.mp z)
      omega
    rw [← this]; exact hp'
  · rw [R.offL hm] at b2; cases b2
theorem RelD.told (R : RelD nm nu s t) (h : nu[p]? = some q) : t.told q = mapT nm nu (s.told p) := by
  have h4 := DS.stg_lt s p
  have e := R.stg h
  rcases (show s.stg p = 0 ∨ s.stg p = 1 ∨ s.stg p = 2 ∨ s.stg p = 3 by omega) with z | z | z | z <;> rw [z] at e
  · rw [DS.told0 z, DS.told0 e]; rfl
  · rw [DS.told1 z, DS.told1 e, R.lev]; rfl
  · rw [DS.told2 z, DS.told2 e, R.wr h]; rfl
  · rw [DS.told3 z, DS.told3 e]
    by_cases y : some 1 ∈ s.lev
    · rw [if_pos y, if_pos ((R.mem 1).mpr y)]; rfl
    · rw [if_neg y, if_neg (fun w => y ((R.mem 1).mp w))]
      have h2 := DS.ask_two R.Ws z
      obtain ⟨v, hv⟩ := DS.two_came R.Ws h2
      rw [R.cm _ _ (R.two h2), hv]; rfl
theorem RelD.ne (R : RelD nm nu s t) {p' q' : Nat} (h : nu[p]? = some q) (h' : nu[p']? = some q') : p = p' ↔ q = q' := by
  constructor
  · rintro rfl; rw [h] at h'; exact Option.some.inj h'
  · rintro rfl; exact R.N.inj h h'
theorem RelD.come (R : RelD nm nu s t) (h : nu[p]? = some q) : RelD nm nu (s.come p v) (t.come q (nm v)) := by
  have hp : p < s.came.length := by rw [R.Ws.lc, R.ls]; exact get_lt h
  have hq : q < t.came.length := by rw [R.Wt.lc, R.lt]; exact R.N.five h
  refine ⟨R.N, R.ls, R.lt, R.Ws.come, R.Wt.come, R.lv, fun p' q' h' => ?_, R.sn, R.hd, fun q' h' => ?_, R.offH, R.snl, by rw [stps_come, stps_come]; exact R.st⟩
  · rw [DS.cm_come, DS.cm_come]
    by_cases z : p = p'
    · rw [if_pos ⟨(R.ne h h').mp z, hq⟩, if_pos ⟨z, hp⟩]; rfl
    · rw [if_neg (fun w => z ((R.ne h h').mpr w.1)), if_neg (fun w => z w.1)]; exact R.cm p' q' h'
  · rw [DS.cm_come, if_neg]
    · exact R.offC q' h'
    · rintro ⟨z, _⟩; exact h' (z ▸ List.mem_of_getElem? h)
theorem RelD.step (R : RelD nm nu s t) (h : nu[p]? = some q) (hc : s.cm p ≠ none) : RelD nm nu (s.step p) (t.step q) := by
  have hc' : t.cm q ≠ none := by
    rw [R.cm p q h]
    cases e : s.cm p with
    | none => exact absurd e hc
    | some v => simp
  have hp := DS.lt_of_cm R.Ws hc
  have hq := DS.lt_of_cm R.Wt hc'
  have hps : p < s.seen.length := by rw [R.Ws.ls]; exact hp
  have hqs : q < t.seen.length := by rw [R.Wt.ls]; exact hq
  have e := R.stg h
  have h4 := DS.stg_lt s p
  have ne := fun p' q' (h' : nu[p']? = some q') => R.ne h h'
  have hdR : ∀ p' q', nu[p']? = some q' → (t.step q).hd q' = ((s.step p).hd p').map nm := fun p' q' h' => by
    rw [DS.hd_step R.Ws hc, DS.hd_step R.Wt hc']
    by_cases z : p = p' ∧ s.stg p = 3 ∧ some 1 ∉ s.lev
    · rw [if_pos z, if_pos ⟨(ne p' q' h').mp z.1, by rw [e]; exact z.2.1, fun w => z.2.2 ((R.mem 1).mp w)⟩]
      exact R.cm _ _ (R.two (DS.ask_two R.Ws z.2.1))
    · rw [if_neg z, if_neg (fun w => z ⟨(ne p' q' h').mpr w.1, by rw [← e]; exact w.2.1, fun y => w.2.2 ((R.mem 1).mpr y)⟩)]
      exact R.hd p' q' h'
  have offHR : ∀ q', q' ∉ nu → (t.step q).hd q' = none := fun q' h' => by
    rw [DS.hd_step R.Wt hc', if_neg]
    · exact R.offH q' h'
    · rintro ⟨z, _⟩; exact h' (z ▸ List.mem_of_getElem? h)
  have stR : (t.step q).stps = (s.step p).stps := by rw [stps_step, stps_step, R.st]
  refine ⟨R.N, by rw [DS.len_step]; exact R.ls, by rw [DS.len_step]; exact R.lt, R.Ws.step hc, R.Wt.step hc', fun p' q' h' => ?_, fun p' q' h' => by rw [DS.cm_step, DS.cm_step]; exact R.cm p' q' h', fun p' q' h' => ?_, hdR, fun q' h' => by rw [DS.cm_step]; exact R.offC q' h', offHR, fun p' l h' => ?_, stR⟩
  · rcases (show s.stg p = 0 ∨ s.stg p = 1 ∨ s.stg p = 2 ∨ s.stg p = 3 by omega) with z | z | z | z <;> rw [z] at e
    · rw [DS.lv_step0 z hp, DS.lv_step0 e hq]
      by_cases y : p = p'
      · rw [if_pos y, if_pos ((ne p' q' h').mp y)]
      · rw [if_neg y, if_neg (fun w => y ((ne p' q' h').mpr w))]; exact R.lv p' q' h'
    · rw [DS.lv_step1 z, DS.lv_step1 e]; exact R.lv p' q' h'
    · rw [DS.lv_step2 z hp, DS.lv_step2 e hq, R.wr h]
      by_cases y : p = p'
      · rw [if_pos y, if_pos ((ne p' q' h').mp y)]
      · rw [if_neg y, if_neg (fun w => y ((ne p' q' h').mpr w))]; exact R.lv p' q' h'
    · rw [DS.lv_step3 z, DS.lv_step3 e]; exact R.lv p' q' h'
  · by_cases z : s.stg p = 1
    · rw [DS.sn_step1 z hps, DS.sn_step1 (by rw [e]; exact z) hqs]
      by_cases y : p = p'
      · rw [if_pos y, if_pos ((ne p' q' h').mp y), R.lev]; rfl
      · rw [if_neg y, if_neg (fun w => y ((ne p' q' h').mpr w))]; exact R.sn p' q' h'
    · rw [DS.sn_stepN z, DS.sn_stepN (by rw [e]; exact z)]; exact R.sn p' q' h'
  · by_cases z : s.stg p = 1
    · rw [DS.sn_step1 z hps] at h'
      split at h'
      · cases h'; exact R.ls
      · exact R.snl p' l h'
    · rw [DS.sn_stepN z] at h'; exact R.snl p' l h'
/-- lots of players, by other numbers -/
theorem RelD.lots (R : RelD nm nu s t) {f g : Nat → Bool} (hg : ∀ q, q ∉ nu → g q = false) (h : ∀ p q, nu[p]? = some q → g q = f p) : (List.range t.lev.length).filter g = ((List.range s.lev.length).filter f).map fun p => nu.getD p 0 := by
  have rs : ∀ n, (List.range n).Pairwise (· < ·) := fun n => List.pairwise_lt_range
  refine sorted_ext ((rs _).filter _) ?_ fun x => ?_
  · rw [List.pairwise_map]
    refine List.Pairwise.imp_of_mem ?_ ((rs s.lev.length).filter f)
    intro a b ha hb hab
    have ha := List.mem_range.mp (List.mem_filter.mp ha).1
    have hb := List.mem_range.mp (List.mem_filter.mp hb).1
    exact (R.N.mono (R.at ha) (R.at hb)).mp hab
  · rw [List.mem_filter, List.mem_range, List.mem_map]
    constructor
    · rintro ⟨h1, h2⟩
      by_cases z : x ∈ nu
      · obtain ⟨p, hp⟩ := List.getElem?_of_mem z
        have hpl : p < s.lev.length := by rw [R.ls]; exact get_lt hp
        refine ⟨p, List.mem_filter.mpr ⟨List.mem_range.mpr hpl, by rw [← h p x hp]; exact h2⟩, ?_⟩
        have := R.at hpl
        rw [hp] at this; exact (Option.some.inj this).symm
      · rw [hg x z] at h2; cases h2
    · rintro ⟨p, hp, rfl⟩
      have hp' := List.mem_filter.mp hp
      have hpl := List.mem_range.mp hp'.1
      have ha := R.at hpl
      exact ⟨by rw [R.lt]; exact R.N.five ha, by rw [h p _ ha]; exact hp'.2⟩
theorem RelD.held (R : RelD nm nu s t) : t.held = s.held.map fun p => nu.getD p 0 :=
  R.lots (fun q h => by rw [R.offL h]; decide) fun p q h => by rw [R.lv p q h]
theorem RelD.cameL (R : RelD nm nu s t) : t.cameL = s.cameL.map fun p => nu.getD p 0 :=
  R.lots (fun q h => by rw [R.offC q h]; rfl) fun p q h => by rw [R.cm p q h]; cases s.cm p <;> rfl
theorem held_lt {s : DS} : ∀ p ∈ s.held, p < s.lev.length := fun p hp => List.mem_range.mp (List.mem_filter.mp hp).1
theorem RelD.readyL (R : RelD nm nu s t) : t.readyL = s.readyL.map fun p => nu.getD p 0 := by
  unfold DS.readyL
  rw [R.held, List.filter_map]
  congr 1
  refine List.filter_congr fun p hp => ?_
  exact R.won (R.at (held_lt p hp))
theorem RelD.wins (R : RelD nm nu s t) : t.wins = s.wins.map fun p => nu.getD p 0 := by
  have er := R.readyL
  have rl : ∀ p ∈ s.readyL, p < s.lev.length := fun p hp => held_lt p (List.mem_filter.mp hp).1
  unfold DS.wins
  by_cases h2 : some 2 ∈ s.lev
  · rw [if_pos h2, if_pos ((R.mem 2).mpr h2)]
    obtain ⟨m1, m2, _⟩ := DS.two_lev (mem_getD.mp h2)
    have ht : nu.getD s.two 0 = t.two := by
      have a := R.two (mem_getD.mp h2)
      have b := R.at m1
      rw [b] at a; exact Option.some.inj a
    show [_] = [nu.getD (DS.minN s.two s.readyL) 0]
    congr 1
    obtain ⟨a1, a2⟩ := minN_spec s.readyL s.two
    have lt : ∀ p ∈ s.two :: s.readyL, p < s.lev.length := fun p hp => by
      rcases List.mem_cons.mp hp with z | z
      · rw [z]; exact m1
      · exact rl p z
    refine minN_of ?_ fun x hx => ?_
    · rw [er]
      rcases List.mem_cons.mp a1 with z | z
      · rw [z, ht]; exact List.mem_cons_self
      · exact List.mem_cons_of_mem _ (List.mem_map.mpr ⟨_, z, rfl⟩)
    · have hx' : ∃ p ∈ s.two :: s.readyL, nu.getD p 0 = x := by
        rcases List.mem_cons.mp hx with z | z
        · exact ⟨s.two, List.mem_cons_self, by rw [z, ht]⟩
        · rw [er] at z
          obtain ⟨p, hp, e⟩ := List.mem_map.mp z
          exact ⟨p, List.mem_cons_of_mem _ hp, e⟩
      obtain ⟨p, hp, rfl⟩ := hx'
      have h1 := R.at (lt _ a1)
      have h3 := R.at (lt p hp)
      rcases Nat.lt_or_ge (nu.getD p 0) (nu.getD (DS.minN s.two s.readyL) 0) with z | z
      · have := (R.N.mono h3 h1).mpr z
        have := a2 p hp
        omega
      · exact z
  · rw [if_neg h2, if_neg (fun w => h2 ((R.mem 2).mp w)), er]
    cases e : s.readyL with
    | nil => exact R.cameL
    | cons r rs =>
      show (t.cameL.filter fun p => decide (p < nu.getD r 0) && (t.sn p).isNone) ++ [nu.getD r 0] = List.map _ (_ ++ [r])
      have hr := R.at (rl r (by rw [e]; exact List.mem_cons_self))
      rw [List.map_append, R.cameL, List.filter_map]
      congr 2
      refine List.filter_congr fun p hp => ?_
      have hpl := List.mem_range.mp (List.mem_filter.mp hp).1
      have ha := R.at hpl
      show (decide (nu.getD p 0 < nu.getD r 0) && (t.sn (nu.getD p 0)).isNone) = _
      rw [R.sn p _ ha, decide_eq_decide.mpr (R.N.mono ha hr).symm]
      cases s.sn p <;> rfl
end
end Fp
/-! views of a stair are a row; weavings; walks over two tuples -/
namespace Fp
open PySem PySem.Spec PyProof.Rows L2
theorem walk_zipT {K : PySem.W.Frag} {a b : Addr} {xs ys : List V} {n : Nat} (hn : n = min xs.length ys.length) : Walk (RZ.ItzT K a b) n (fun H => SqT K H a xs ∧ SqT K H b ys) (YPair (fun i => xs[i]?) (fun i => ys[i]?)) := by
  subst hn
  refine ⟨fun i _ hi q => ?_, fun _ q => ⟨xs, ys, q.1, q.2, by omega⟩, fun i H v H' _ q y => ?_⟩
  · have h1 : i < xs.length := by omega
    have h2 : i < ys.length := by omega
    exact ⟨xs, ys, xs[i], ys[i], q.1, q.2, by simp [h1], by simp [h2]⟩
  · obtain ⟨T, x, z, h1, h2, h3, h4, h5⟩ := y
    exact ⟨T, x, z, h1, h2, h3, h4 xs q.1, h5 ys q.2⟩
def Sub (l m : List Nat) : Prop := ∀ x ∈ l, x ∈ m
instance (l m : List Nat) : Decidable (Sub l m) := inferInstanceAs (Decidable (∀ x ∈ l, x ∈ m))
namespace LS
section
variable {s : LS} {p q : Nat} {l m : List Nat}
theorem below_up (s : LS) (l : Int) : (s.below l).Pairwise (· < ·) := List.Pairwise.filter _ List.pairwise_lt_range
theorem below_mono {a b : Int} (h : a ≤ b) : Sub (s.below a) (s.below b) := fun x hx => by
  obtain ⟨h1, h2⟩ := mem_below.mp hx
  refine mem_below.mpr ⟨h1, ?_⟩
  cases e : s.lv x with
  | none => rw [e] at h2; cases h2
  | some y => rw [e] at h2; have := of_decide_eq_true (show decide (y ≤ a) = true from h2); exact decide_eq_true (by omega)
/-- what is known of a view -/
structure ViewOk (s : LS) (p : Nat) (l : List Nat) : Prop where
  up : l.Pairwise (· < ·)
  self : p ∈ l
  lt : ∀ x ∈ l, x < s.n
  len : l.length ≤ 5
theorem WF.view (W : s.WF) (h : s.vi p = some l) : ViewOk s p l := by
  obtain ⟨k, h1, h2, h3⟩ := W.vil p l h
  have := W.rng p _ h1
  have := W.n5
  refine ⟨by rw [h2]; exact below_up _ _, W.self h, fun x hx => ?_, by rw [h2, h3]; omega⟩
  rw [h2] at hx
  exact (mem_below.mp hx).1
theorem WF.vlt (W : s.WF) (h : s.vi p = some l) : p < s.n := (W.view h).lt p (W.view h).self
theorem WF.fits (W : s.WF) (h : s.vi p = some l) (h' : s.vi q = some m) : (q ∈ l → Sub m l) ∧ (q ∉ l → Sub l m) := by
  obtain ⟨k, h1, h2, _⟩ := W.vil p l h
  obtain ⟨j, j1, j2, _⟩ := W.vil q m h'
  have hq : q ∈ l ↔ j ≤ k := by
    rw [h2, mem_below]
    rw [le_some j1, decide_eq_true_iff]
    exact ⟨fun z => by have := z.2; omega, fun z => ⟨W.vlt h', by omega⟩⟩
  rw [hq, h2, j2]
  exact ⟨fun z => below_mono (by omega), fun z => below_mono (by omega)⟩
def woven (s : LS) (ws : List Nat) : LS := ws.foldl (fun s p => s.step p) s
theorem woven_snoc (ws : List Nat) (p : Nat) : s.woven (ws ++ [p]) = (s.woven ws).step p := List.foldl_append
theorem n_woven : ∀ {ws : List Nat} {s : LS}, (s.woven ws).n = s.n
  | [], _ => rfl
  | p :: ws, s => (n_woven (ws := ws) (s := s.step p)).trans n_step
theorem step_none (h : s.next p = none) : s.step p = s := by unfold LS.step; rw [h]
theorem ok_woven : ∀ {ws : List Nat} {s : LS}, s.WF → s.ROk → (∀ p ∈ ws, p < s.n) → (s.woven ws).WF ∧ (s.woven ws).ROk
  | [], _, W, R, _ => ⟨W, R⟩
  | p :: ws, s, W, R, h => by
    have hp := h p List.mem_cons_self
    have R' : (s.step p).ROk := by
      by_cases z : s.next p = none
      · rw [step_none z]; exact R
      · exact R.step W hp z
    have r := ok_woven (ws := ws) (s := s.step p) (W.step hp) R' fun q hq => by rw [n_step]; exact h q (List.mem_cons_of_mem _ hq)
    exact r
theorem step_run' (W : s.WF) (hp : p < s.n) : ∃ ds, (s.step p).run = s.run ++ ds ∧ ds.length ≤ 1 := by
  by_cases z : s.next p = none
  · exact ⟨[], by rw [step_none z]; simp, by decide⟩
  · obtain ⟨dd, e, _⟩ := step_run W hp z
    exact ⟨[dd], e, Nat.le_refl _⟩
theorem set_same (W : s.WF) (hp : p < s.n) (h : s.vi p = none) : s.vw.set p none = s.vw := by
  have hl : p < s.vw.length := by rw [W.lw]; exact hp
  have e : s.vw[p] = none := by
    have := getD_at hl
    rw [List.getElem?_eq_getElem hl] at this
    have h' : s.vw.getD p none = none := h
    rw [h'] at this
    exact Option.some.inj this
  refine List.ext_getElem? fun i => ?_
  rw [List.getElem?_set]
  by_cases z : p = i
  · subst z; rw [if_pos rfl, if_pos hl, List.getElem?_eq_getElem hl, e]
  · rw [if_neg z]
end
end LS
/-! ### the law's own stair -/
def sdict (n : Int) (l1 l2 l3 : Addr) : List (Key × V) := [(.inr "many", .int n), (.inr "shown", .ref l1), (.inr "looks", .ref l2), (.inr "views", .ref l3)]
section
variable {n : Int} {l1 l2 l3 o : Addr} {H : Hp}
theorem st_merge : mergeK [] (sdict n l1 l2 l3) = sdict n l1 l2 l3 := by kernel_rfl
theorem sg_many (h : H o = some (.dK (sdict n l1 l2 l3))) : DGet H o (.str "many") (some (.int n)) := by
  have := DGet.k (k := .inr "many") h; rw [show valV (sdict n l1 l2 l3) (.inr "many") = some (.int n) by kernel_rfl] at this; exact this
theorem sg_shown (h : H o = some (.dK (sdict n l1 l2 l3))) : DGet H o (.str "shown") (some (.ref l1)) := by
  have := DGet.k (k := .inr "shown") h; rw [show valV (sdict n l1 l2 l3) (.inr "shown") = some (.ref l1) by kernel_rfl] at this; exact this
theorem sg_looks (h : H o = some (.dK (sdict n l1 l2 l3))) : DGet H o (.str "looks") (some (.ref l2)) := by
  have := DGet.k (k := .inr "looks") h; rw [show valV (sdict n l1 l2 l3) (.inr "looks") = some (.ref l2) by kernel_rfl] at this; exact this
theorem sg_views (h : H o = some (.dK (sdict n l1 l2 l3))) : DGet H o (.str "views") (some (.ref l3)) := by
  have := DGet.k (k := .inr "views") h; rw [show valV (sdict n l1 l2 l3) (.inr "views") = some (.ref l3) by kernel_rfl] at this; exact this
end
structure StIn (H : Hp) (o l1 l2 l3 : Addr) (s : LS) (vv : List V) : Prop where
  dict : H o = some (.dK (sdict (s.n : Nat) l1 l2 l3))
  shown : H l1 = some (.lst (s.lev.map lvV))
  looks : H l2 = some (.lst (s.lk.map V.bl))
  views : H l3 = some (.lst vv)
  vwP : Paired (ViewAt H) vv s.vw
  nd : [o, l1, l2, l3].Nodup
def StAt (H : Hp) (o : Addr) (L : List Addr) (s : LS) : Prop := ∃ l1 l2 l3 vv, L = [o, l1, l2, l3] ∧ StIn H o l1 l2 l3 s vv
section
variable {H H' : Hp} {o : Addr} {L S : List Addr} {s : LS}
theorem StAt.but (h : StAt H o L s) (g : But S H H') (n : ∀ x ∈ S, x ∉ L) (tk : TK H H') : StAt H' o L s := by
  obtain ⟨l1, l2, l3, vv, rfl, h⟩ := h
  have w : ∀ x ∈ [o, l1, l2, l3], x ∉ S := fun x hx m => n x m hx
  exact ⟨l1, l2, l3, vv, rfl, g _ _ (w o (by simp)) h.dict, g _ _ (w l1 (by simp)) h.shown, g _ _ (w l2 (by simp)) h.looks, g _ _ (w l3 (by simp)) h.views, pr_imp (fun _ _ => ViewAt.mono tk) h.vwP, h.nd⟩
theorem StAt.same (h : StAt H o L s) (g : Same H H') : StAt H' o L s := h.but (S := []) (.of g) (fun _ m => by cases m) (.of g)
theorem StAt.kind (h : StAt H o L s) : ∀ x ∈ L, (∃ xs, H x = some (.lst xs)) ∨ ∃ kvs, H x = some (.dK kvs) := by
  obtain ⟨l1, l2, l3, vv, rfl, h⟩ := h
  intro x hx
  simp only [List.mem_cons, List.not_mem_nil, or_false] at hx
  rcases hx with rfl | rfl | rfl | rfl
  · exact .inr ⟨_, h.dict⟩
  · exact .inl ⟨_, h.shown⟩
  · exact .inl ⟨_, h.looks⟩
  · exact .inl ⟨_, h.views⟩
theorem StAt.tk (h : StAt H o L s) (g : But L H H') : TK H H' := TK.but g fun a ha z => by
  rcases h.kind a ha with ⟨xs, e⟩ | ⟨xs, e⟩ <;> rw [e] at z <;> exact z
end
/-! ### promises -/
def spLot : Sp := fun vs H Q _ => ∃ (a : Addr) (l : List Nat), vs = [.ref a] ∧ TT H a (natV l) ∧ l.Pairwise (· < ·) ∧ l.length ≤ 5 ∧ ∀ H', Same H H' → Q (.bl true) H'
def spLies : Sp := fun vs H Q _ => ∃ (a b : Addr) (l m : List Nat), vs = [.ref a, .ref b] ∧ TT H a (natV l) ∧ TT H b (natV m) ∧ l.length ≤ 5 ∧ Sub l m ∧ ∀ H', Same H H' → Q (.bl true) H'
def spFit : Sp := fun vs H Q _ => ∃ (t u a b : Addr) (p q : Nat) (l m : List Nat), vs = [.ref t, .ref u] ∧ H t = some (.tup [.int (p : Nat), .ref a]) ∧ H u = some (.tup [.int (q : Nat), .ref b]) ∧ TT H a (natV l) ∧ TT H b (natV m) ∧ l.length ≤ 5 ∧ m.length ≤ 5 ∧
  (q ∈ l → Sub m l) ∧ (q ∉ l → Sub l m) ∧ ∀ H', Same H H' → Q (.bl true) H'
def spIsView : Sp := fun vs H Q _ => ∃ (n p : Nat) (a : Addr) (l : List Nat), vs = [.int n, .int p, .ref a] ∧ TT H a (natV l) ∧ l.Pairwise (· < ·) ∧ l.length ≤ 5 ∧ p ∈ l ∧ (∀ x ∈ l, x < n) ∧ ∀ H', Same H H' → Q (.bl true) H'
def LS.any (s : LS) : Bool := s.vw.any (·.isSome)
def spAtOnce : Sp := fun vs H Q _ => ∃ (b : Addr) (vv : List V) (s : LS), vs = [.int (s.n : Nat), .ref b] ∧ TF H b vv ∧ Paired (ViewAt H) vv s.vw ∧ s.WF ∧ ∀ H', Same H H' → Q (.bl s.any) H'
def spWeaving : Sp := fun vs H Q _ => ∃ (a : Addr) (ws : List Nat) (n : Nat), vs = [.ref a, .int n] ∧ TT H a (natV ws) ∧ (∀ p ∈ ws, p < n) ∧ ws.length ≤ 1000 ∧ ∀ H', Same H H' → Q (.bl true) H'
def spWeave (K : PySem.W.Frag) (C : Addr) : Sp := fun vs H Q _ => ∃ (d a : Addr) (ws : List Nat) (s : LS), vs = [.ref d, .ref a] ∧ LvAt K C H d s ∧ s.WF ∧ TT H a (natV ws) ∧ (∀ p ∈ ws, p < s.n) ∧ ws.length ≤ 1000 ∧ s.run.length < 10000 ∧
  ∀ t ys ds H', But [d] H H' → LvAt K C H' d (s.woven ws) → H' t = some (.tup ys) → Paired (SD K H') ys ds → (s.woven ws).run = s.run ++ ds → Q (.ref t) H'
def spLLen (K : PySem.W.Frag) (C : Addr) : Sp := fun vs H Q _ => ∃ (d : Addr) (s : LS), vs = [.ref d] ∧ LvAt K C H d s ∧ Q (.int (s.run.length : Nat)) H
def spSNext : Sp := fun vs H Q _ => ∃ (o : Addr) (L : List Addr) (p : Nat) (s : LS), vs = [.ref o, .int p] ∧ StAt H o L s ∧ s.WF ∧ p < s.n ∧ ∀ y H', Same H H' → DueAt H' y (s.next p) → Q y H'
def spSStep (K : PySem.W.Frag) : Sp := fun vs H Q _ => ∃ (o : Addr) (L : List Addr) (p : Nat) (s : LS), vs = [.ref o, .int p] ∧ StAt H o L s ∧ s.WF ∧ p < s.n ∧ s.next p ≠ none ∧
  ∀ t dd H', But L H H' → StAt H' o L (s.step p) → (s.step p).run = s.run ++ [dd] → SD K H' (.ref t) dd → Q (.ref t) H'
def spSFresh : Sp := fun vs H Q _ => ∃ n : Nat, vs = [.int n] ∧ 1 ≤ n ∧ n ≤ 5 ∧ ∀ o L H', Same H H' → (∀ x ∈ L, H x = none) → StAt H' o L (LS.new n) → Q (.ref o) H'
def spSWoven (K : PySem.W.Frag) : Sp := fun vs H Q _ => ∃ (o a : Addr) (L : List Addr) (ws : List Nat) (s : LS), vs = [.ref o, .ref a] ∧ StAt H o L s ∧ s.WF ∧ TT H a (natV ws) ∧ (∀ p ∈ ws, p < s.n) ∧ ws.length ≤ 1000 ∧
  ∀ t ys ds H', But L H H' → StAt H' o L (s.woven ws) → H' t = some (.tup ys) → Paired (SD K H') ys ds → (s.woven ws).run = s.run ++ ds → Q (.ref t) H'
def spWvg : Sp := fun vs H Q _ => ∃ (pt : Addr) (n k m : Nat), vs = [.ref pt, .int n, .int k] ∧ 1 ≤ n ∧ n ≤ 5 ∧ k ≤ 30 ∧ PotAt H pt m ∧ m < 800000 ∧ ∀ t ws H', But [pt] H H' → PotAt H' pt (m + 100) → H' t = some (.tup (natV ws)) → (∀ p ∈ ws, p < n) → ws.length ≤ 100 → Q (.ref t) H'
def spLInt : Sp := fun vs H Q _ => ∃ x a b : Int, vs = [.int x, .int a, .int b] ∧ a ≤ x ∧ x ≤ b ∧ Q (.bl true) H
def spLotOf : Sp := fun vs H Q _ => ∃ (a : Addr) (l : List Nat) (n : Nat), vs = [.ref a, .int n] ∧ TT H a (natV l) ∧ l.Pairwise (· < ·) ∧ l.length ≤ 5 ∧ (∀ x ∈ l, x < n) ∧ ∀ H', Same H H' → Q (.bl true) H'
end Fp
namespace Fp
open PySem PySem.Spec PyProof.Rows L2
structure WTx (mg : Str → Option Value) : Prop where
  isinstance : mg "isinstance" = none
  tuple : mg "tuple" = none
  all : mg "all" = none
  len : mg "len" = none
  enumerate : mg "enumerate" = none
  zip : mg "zip" = none
  c_MOST_WEAVING : ∃ t, mg "MOST_WEAVING" = some (.int 3000 t)
theorem TT.ty {K : PySem.W.Frag} {H : Hp} {a : Addr} {xs : List V} (h : TT H a xs) : TyX K H (.ref a) (.type "tuple") := by
  rcases h with h | ⟨o, h, _⟩
  · exact .base (.tup h)
  · exact .fTuple h
theorem natL (l : List Nat) : (natV l).length = l.length := by unfold natV; rw [List.length_map]
theorem natV_at {l : List Nat} {i p : Nat} (h : l[i]? = some p) : (natV l)[i]? = some (.int (p : Nat)) := by unfold natV; rw [List.getElem?_map, h]; rfl
theorem op_in_seqK {X : Cx} {K : PySem.W.Frag} (e : X.K = K := by rfl) : OpR X (compareOp .In) (rIn K false) := by subst e; exact op_in_seq
theorem nat_flat : ∀ l : List Nat, (natV l).all flatV = true
  | [] => rfl
  | a :: l => by
    show (flatV (V.int (a : Int)) && (natV l).all flatV) = true
    rw [nat_flat l]; rfl
theorem inV_nat (p : Nat) (l : List Nat) : inV (.int (p : Nat)) (natV l) = decide (p ∈ l) := by
  unfold inV natV
  rw [List.any_map, Bool.eq_iff_iff, List.any_eq_true, decide_eq_true_iff]
  have e : ∀ a b : Nat, eqV (V.int (a : Int)) (V.int (b : Int)) = true ↔ a = b := fun a b => by
    show ((a : Int) == (b : Int)) = true ↔ a = b
    rw [beq_iff_eq]; omega
  constructor
  · rintro ⟨x, hx, h⟩
    have := (e x p).mp h
    rw [← this]; exact hx
  · intro h
    exact ⟨p, h, (e p p).mpr rfl⟩
theorem inS (p : Nat) (l : List Nat) : (if false = true then !inV (.int (p : Nat)) (natV l) else inV (.int (p : Nat)) (natV l)) = decide (p ∈ l) := by rw [inV_nat]; rfl
def trues (n : Nat) : List V := (List.replicate n true).map V.bl
theorem trues_snoc (n : Nat) : trues (n + 1) = trues n ++ [.bl true] := by unfold trues; rw [List.replicate_succ', List.map_append]; rfl
theorem trues_len (n : Nat) : (trues n).length = n := by unfold trues; rw [List.length_map, List.length_replicate]
theorem trues_all (n : Nat) : (List.replicate n true).all id = true := by simp
section
variable {P : Program} {w : World} {K : PySem.W.Frag} {mg : Str → Option Value} {base : Heap} {f : Addr} {fd : FuncData} {C : Addr}
/-- a row of Trues grows by one -/
theorem grow {H0 H : Hp} {D : Addr} {n : Nat} (g : Same H0 H) (hD0 : H0 D = none) (h : H D = some (.lst (trues n))) (hn : n < 100000) : ∃ acc, H D = some (.lst acc) ∧ acc.length < sizeLine ∧ (Same H0 (upd H D (.lst (acc ++ [.bl true]))) ∧ upd H D (.lst (acc ++ [.bl true])) D = some (.lst (trues (n + 1)))) :=
  ⟨_, h, szt (by rw [trues_len]; omega), fun o u q => by rw [upd_ne (ne_of_none q hD0)]; exact g _ _ q, by rw [upd_same, trues_snoc]⟩
abbrev s_is_lot : Stmt := top 10
theorem sc_is_lot : FnScope ["value", "one", "other", "thing"] ["value"] (defScope s_is_lot) := ⟨rfl, rfl, rfl, by decide +kernel, rfl, by decide +kernel, by decide +kernel⟩
theorem ok_is_lot (F : Fun K "is_lot" "is_lot" s_is_lot f fd) (T : WTx mg) (G_is_whole : Fd P w K mg base CX0 "is_whole" 1 ["value"] spIsWhole) : FnOk P w K mg base CX0 2 f fd ["value"] spLot := by
  refine F.ok sc_is_lot (fun vs H Q E h => ?_) (fun cdv A outer s H vs Q E hr h => ?_)
  · obtain ⟨a, l, rfl, _⟩ := h
    rfl
  obtain ⟨a, l, rfl, ha, up, l5, k⟩ := h
  refine ⟨_, (pss_cons (ps_if (pt_not (pt_val (pe_callB call_isi rfl T.isinstance (by decide +kernel) (pa_cons (pv 0) (pa_cons (pe_bltn (v := .ty "tuple") rfl T.tuple boot_tuple rfl) pa_nil))))) (pss_one (ps_ret pe_bl)) pss_nil)
  (pss_cons (ps_if (pt_not (pt_val (pe_callB (cr_all rfl) rfl T.all (by decide +kernel) (pa_cons (pe_lc (own := [("thing", 3)]) (g := (gName 3)) (tt := tYes) rfl sc_is_lot.nd (pi_tup (pv 0)) (blkOk_by (own := [("thing", 3)]) (N := ["value", "one", "other", "thing"]) (sc := defScope s_is_lot) (by decide +kernel)) (fun _ _ _ _ _ => (pg_name (i := 3) sc_is_lot.nd rfl (Or.inl rfl))) (fun _ _ _ _ _ => pts_nil) (fun _ _ _ _ _ => (pe_and (pe_fd G_is_whole (hr.mono (by first | decide | omega)) rfl (pa_cons (pv 3) pa_nil)) (pe_one (pe_cmpR op_ge (pv 3) pe_int (nomark _)))))) pa_nil)))) (pss_one (ps_ret pe_bl)) pss_nil)
  (pss_one (ps_ret (pe_callB (cr_all rfl) rfl T.all (by decide +kernel) (pa_cons (pe_lc (own := [("one", 1), ("other", 2)]) (g := (gTup K 2 (gCons (gName 1) (gCons (gName 2) gNil)))) (tt := tYes) rfl sc_is_lot.nd (RZ.pi_zipA rfl T.zip (pa_cons (pv 0) (pa_cons (pe_slice sl_tupA (pv 0) (po_some pe_int) po_none) pa_nil))) (blkOk_by (own := [("one", 1), ("other", 2)]) (N := ["value", "one", "other", "thing"]) (sc := defScope s_is_lot) (by decide +kernel)) (fun _ _ _ _ _ => (pg_tup rfl (pgs_cons (pg_name (i := 1) sc_is_lot.nd rfl (Or.inl rfl)) (pgs_cons (pg_name (i := 2) sc_is_lot.nd rfl (Or.inl rfl)) pgs_nil)))) (fun _ _ _ _ _ => pts_nil) (fun _ _ _ _ _ => (pe_cmpR op_lt (pv 1) (pv 2) (nomark _)))) pa_nil)))))), ?_⟩
  refine ⟨_, rfl, _, _, _, _, true, rfl, .ty "tuple", ha.ty, by first | rfl | decide +kernel | kernel_rfl, _, rfl, iteF ?_⟩
  refine ⟨_, rfl, a, rfl, ⟨_, ha.sq⟩, fun D hD => ?_⟩
  refine lc_tup (K := K) (a := a) (xs := natV l) (fun i H' => Same H H' ∧ H' D = some (.lst (trues i))) ⟨same_new hD _, upd_same⟩ (fun i H' _ z => ha.sq.ext z.1) ?_ ?_
  · rintro i x H' hx ⟨g, h⟩
    obtain ⟨p, hp, rfl⟩ := natV_get hx
    have hi := get_lt hp
    refine ⟨rfl, ?_⟩
    unfold tYes
    refine iteT ?_
    refine ⟨_, rfl, (p : Int), rfl, _, rfl, iteT ⟨_, rfl, _, _, rfl, rfl, ?_⟩⟩
    have e := decide_eq_true (show (0 : Int) ≤ (p : Int) by omega)
    obtain ⟨acc, r1, r2, r3⟩ := grow g hD h (by omega)
    refine ⟨acc, r1, r2, ?_⟩
    show Same H (upd H' D (.lst (acc ++ [V.bl (decide ((0 : Int) ≤ (p : Int)))]))) ∧ (upd H' D (.lst (acc ++ [V.bl (decide ((0 : Int) ≤ (p : Int)))]))) D = some (.lst (trues (i + 1)))
    rw [e]
    exact r3
  rintro H1 ⟨g1, h1⟩
  rw [natL] at h1
  refine ⟨D, _, rfl, .of h1, _, rfl, ?_⟩
  rw [trues_all]
  refine iteF ?_
  have ha1 := (TK.of g1).tt ha
  have n5 : (natV l).length ≤ 5 := by rw [natL]; exact l5
  have fin : ∀ (b : Addr) (H2 : Hp), Same H H2 → SqT K H2 a (natV l) → SqT K H2 b (natV l.tail) → ∀ D2, H2 D2 = none → ∃ W : Nat → Nat → Hp → Prop, (∃ m, W 0 m (upd H2 D2 (.lst []))) ∧ ∀ i m H3, W i m H3 → ((RZ.ItzT K a b).stop i H3 ∧ Same H H3 ∧ H3 D2 = some (.lst (trues l.tail.length))) ∨ ((RZ.ItzT K a b).go i H3 ∧ ∃ Nx : Hp → Prop, (∀ H', Nx H' → ∃ m', m' < m ∧ W (i + 1) m' H') ∧ ∀ x H', (RZ.ItzT K a b).yld i H3 x H' → ∃ (T' : Addr) (p q : Nat), x = .ref T' ∧ p < q ∧ H' T' = some (.tup [.int (p : Nat), .int (q : Nat)]) ∧ ∃ acc, H' D2 = some (.lst acc) ∧ acc.length < sizeLine ∧ Nx (upd H' D2 (.lst (acc ++ [.bl true])))) := by
    intro b H2 g2 sa sb D2 hD2
    have wz := walk_zipT (K := K) (a := a) (b := b) (xs := natV l) (ys := natV l.tail) (n := l.tail.length) (by rw [natL, natL, List.length_tail]; omega)
    refine ⟨fun i m H3 => m = l.tail.length - i ∧ i ≤ l.tail.length ∧ Same H2 H3 ∧ H3 D2 = some (.lst (trues i)), ⟨_, rfl, Nat.zero_le _, same_new hD2 _, upd_same⟩, ?_⟩
    rintro i m H3 ⟨rfl, hi, g3, h3⟩
    by_cases hlt : i < l.tail.length
    · refine .inr ⟨wz.goes i H3 hlt ⟨sa.ext g3, sb.ext g3⟩, fun H4 => i + 1 ≤ l.tail.length ∧ Same H2 H4 ∧ H4 D2 = some (.lst (trues (i + 1))), fun H' z => ⟨l.tail.length - (i + 1), by omega, rfl, z.1, z.2⟩, fun x H' hy => ?_⟩
      obtain ⟨T', x1, x2, rfl, nT, rfl, e1, e2⟩ := wz.yields i H3 x H' hlt ⟨sa.ext g3, sb.ext g3⟩ hy
      have e1 : (natV l)[i]? = some x1 := e1
      have e2 : (natV l.tail)[i]? = some x2 := e2
      obtain ⟨p, hp, rfl⟩ := natV_get e1
      obtain ⟨q, hq, rfl⟩ := natV_get e2
      rw [List.getElem?_tail] at hq
      obtain ⟨hp1, hp2⟩ := List.getElem?_eq_some_iff.mp hp
      obtain ⟨hq1, hq2⟩ := List.getElem?_eq_some_iff.mp hq
      have pq := List.pairwise_iff_getElem.mp up i (i + 1) hp1 hq1 (by omega)
      have g4 := same_new nT (.tup [.int (p : Nat), .int (q : Nat)])
      refine ⟨T', p, q, rfl, by omega, upd_same, trues i, g4 _ _ h3, szt (by rw [trues_len, List.length_tail] at *; omega), hlt, fun o u ho => ?_, ?_⟩
      · rw [upd_ne (ne_of_none ho hD2)]; exact g4 _ _ (g3 _ _ ho)
      · rw [upd_same, trues_snoc]
    · have e : i = l.tail.length := by omega
      subst e
      exact .inl ⟨wz.stops H3 ⟨sa.ext g3, sb.ext g3⟩, g2.trans g3, h3⟩
  have zip : ∀ (b : Addr) (H2 : Hp), Same H H2 → SqT K H2 a (natV l) → SqT K H2 b (natV l.tail) → True := fun _ _ _ _ _ => trivial
  clear zip
  refine ⟨_, rfl, _, rfl, 1, rfl, a, natV l, rfl, ha1.sq, fun z => ?_, fun z b nb => ?_⟩
  · have el : l.tail = l := by
      have hs : HT.sIx (natV l).length 0 (some 1) = min 1 (natV l).length := HT.sIx_nat _ _ 1
      rw [hs] at z
      have : l.length = 0 := by
        have := z.1
        rw [natL] at this
        omega
      rw [List.length_eq_zero_iff.mp this]; rfl
    refine ⟨a, a, natV l, natV l, rfl, .inr ⟨ha1.sq, ha1.sq, fun D2 hD2 => ?_⟩⟩
    obtain ⟨W, w0, wn⟩ := fin a H1 g1 ha1.sq (by rw [el]; exact ha1.sq) D2 hD2
    refine ⟨W, w0, fun i m H3 hw => ?_⟩
    rcases wn i m H3 hw with ⟨s1, s2, s3⟩ | ⟨s1, Nx, s2, s3⟩
    · exact .inl ⟨s1, D2, _, rfl, .of s3, by rw [trues_all]; exact k _ s2⟩
    · refine .inr ⟨s1, Nx, s2, fun x H' hy => ?_⟩
      obtain ⟨T', p, q, rfl, pq, hT, acc, r1, r2, r3⟩ := s3 x H' hy
      refine ⟨T', _, rfl, .of hT, rfl, _, _, rfl, _, _, rfl, rfl, rfl, _, rfl, _, rfl, _, _, rfl, rfl, ?_⟩
      have e := decide_eq_true (show (p : Int) < q by omega)
      refine ⟨acc, r1, r2, ?_⟩
      show Nx (upd H' D2 (.lst (acc ++ [V.bl (decide ((p : Int) < (q : Int)))])))
      rw [e]
      exact r3
  · have ec : cutV (natV l) (some 1) none = natV l.tail := by
      unfold cutV
      have hs : HT.sIx (natV l).length 0 (some 1) = min 1 (natV l).length := HT.sIx_nat _ _ 1
      have hn : HT.sIx (natV l).length (natV l).length none = (natV l).length := rfl
      rw [hs, hn]
      unfold natV
      cases l with
      | nil => rfl
      | cons x r => simp [List.take_of_length_le]
    rw [ec]
    have g2 := same_new nb (.tup (natV l.tail))
    refine ⟨a, b, natV l, natV l.tail, rfl, .inr ⟨ha1.sq.ext g2, .of upd_same, fun D2 hD2 => ?_⟩⟩
    obtain ⟨W, w0, wn⟩ := fin b _ (g1.trans g2) (ha1.sq.ext g2) (.of upd_same) D2 hD2
    refine ⟨W, w0, fun i m H3 hw => ?_⟩
    rcases wn i m H3 hw with ⟨s1, s2, s3⟩ | ⟨s1, Nx, s2, s3⟩
    · exact .inl ⟨s1, D2, _, rfl, .of s3, by rw [trues_all]; exact k _ s2⟩
    · refine .inr ⟨s1, Nx, s2, fun x H' hy => ?_⟩
      obtain ⟨T', p, q, rfl, pq, hT, acc, r1, r2, r3⟩ := s3 x H' hy
      refine ⟨T', _, rfl, .of hT, rfl, _, _, rfl, _, _, rfl, rfl, rfl, _, rfl, _, rfl, _, _, rfl, rfl, ?_⟩
      have e := decide_eq_true (show (p : Int) < q by omega)
      refine ⟨acc, r1, r2, ?_⟩
      show Nx (upd H' D2 (.lst (acc ++ [V.bl (decide ((p : Int) < (q : Int)))])))
      rw [e]
      exact r3
end
end Fp
namespace Fp
open PySem PySem.Spec PyProof.Rows L2
section
variable {P : Program} {w : World} {K : PySem.W.Frag} {mg : Str → Option Value} {base : Heap} {f : Addr} {fd : FuncData} {C : Addr}
abbrev s_is_weaving : Stmt := top 12
theorem sc_is_weaving : FnScope ["value", "many", "thing"] ["value", "many"] (defScope s_is_weaving) := ⟨rfl, rfl, rfl, by decide +kernel, rfl, by decide +kernel, by decide +kernel⟩
theorem ok_is_weaving (F : Fun K "is_weaving" "is_weaving" s_is_weaving f fd) (T : WTx mg) (G_is_below : Fd P w K mg base CX0 "is_below" 2 ["value", "many"] spBelow) : FnOk P w K mg base CX0 3 f fd ["value", "many"] spWeaving := by
  refine F.ok sc_is_weaving (fun vs H Q E h => ?_) (fun cdv A outer s H vs Q E hr h => ?_)
  · obtain ⟨a, ws, n, rfl, _⟩ := h
    rfl
  obtain ⟨a, ws, n, rfl, ha, hlt, hl, k⟩ := h
  refine ⟨_, (pss_cons (ps_if (PW.pt (pw_or (pt_not (pt_val (pe_callB call_isi rfl T.isinstance (by decide +kernel) (pa_cons (pv 0) (pa_cons (pe_bltn (v := .ty "tuple") rfl T.tuple boot_tuple rfl) pa_nil))))) (pw_or1 (pt_cmpR op_gt (pe_callB call_len rfl T.len (by decide +kernel) (pa_cons (pv 0) pa_nil)) (pe_cI T.c_MOST_WEAVING) (nomark _))))) (pss_one (ps_ret pe_bl)) pss_nil)
  (pss_one (ps_ret (pe_callB (cr_all rfl) rfl T.all (by decide +kernel) (pa_cons (pe_lc (own := [("thing", 2)]) (g := (gName 2)) (tt := tYes) rfl sc_is_weaving.nd (pi_tup (pv 0)) (blkOk_by (own := [("thing", 2)]) (N := ["value", "many", "thing"]) (sc := defScope s_is_weaving) (by decide +kernel)) (fun _ _ _ _ _ => (pg_name (i := 2) sc_is_weaving.nd rfl (Or.inl rfl))) (fun _ _ _ _ _ => pts_nil) (fun _ _ _ _ _ => (pe_fd G_is_below (hr.mono (by first | decide | omega)) rfl (pa_cons (pv 2) (pa_cons (pv 1) pa_nil))))) pa_nil))))), ?_⟩
  refine ⟨_, rfl, _, _, _, _, true, rfl, .ty "tuple", ha.ty, by first | rfl | decide +kernel | kernel_rfl, _, rfl, iteF ?_⟩
  refine ⟨_, rfl, _, ws.length, rfl, (show LenV K (.ref a) H ws.length from .inr ⟨_, ha.sq, (natL ws).symm⟩), _, _, rfl, rfl, _, rfl, ite_no (decide_eq_false (by omega)) ?_⟩
  refine ⟨_, rfl, a, rfl, ⟨_, ha.sq⟩, fun D hD => ?_⟩
  refine lc_tup (K := K) (a := a) (xs := natV ws) (fun i H' => Same H H' ∧ H' D = some (.lst (trues i))) ⟨same_new hD _, upd_same⟩ (fun i H' _ z => ha.sq.ext z.1) ?_ ?_
  · rintro i x H' hx ⟨g, h⟩
    obtain ⟨p, hp, rfl⟩ := natV_get hx
    have hi := get_lt hp
    have e : decide ((0 : Int) ≤ (p : Int) ∧ (p : Int) < (n : Int)) = true := decide_eq_true (by have := hlt p (List.mem_of_getElem? hp); omega)
    refine ⟨rfl, _, rfl, _, rfl, (p : Int), (n : Int), rfl, ?_⟩
    rw [e]
    exact grow g hD h (by omega)
  rintro H1 ⟨g1, h1⟩
  rw [natL] at h1
  refine ⟨D, _, rfl, .of h1, ?_⟩
  rw [trues_all]
  exact k _ g1
abbrev s_lies_in : Stmt := top 14
theorem sc_lies_in : FnScope ["lot", "other", "word"] ["lot", "other"] (defScope s_lies_in) := ⟨rfl, rfl, rfl, by decide +kernel, rfl, by decide +kernel, by decide +kernel⟩
theorem ok_lies_in (F : Fun K "lies_in" "lies_in" s_lies_in f fd) (T : WTx mg) : FnOk P w K mg base CX0 1 f fd ["lot", "other"] spLies := by
  refine F.ok sc_lies_in (fun vs H Q E h => ?_) (fun cdv A outer s H vs Q E hr h => ?_)
  · obtain ⟨a, b, l, m, rfl, _⟩ := h
    rfl
  obtain ⟨a, b, l, m, rfl, ha, hb, hl, hs, k⟩ := h
  refine ⟨_, (pss_one (ps_ret (pe_callB (cr_all rfl) rfl T.all (by decide +kernel) (pa_cons (pe_lc (own := [("word", 2)]) (g := (gName 2)) (tt := tYes) rfl sc_lies_in.nd (pi_tup (pv 0)) (blkOk_by (own := [("word", 2)]) (N := ["lot", "other", "word"]) (sc := defScope s_lies_in) (by decide +kernel)) (fun _ _ _ _ _ => (pg_name (i := 2) sc_lies_in.nd rfl (Or.inl rfl))) (fun _ _ _ _ _ => pts_nil) (fun _ _ _ _ _ => (pe_cmpR op_in_seqK (pv 2) (pv 1) rfl))) pa_nil)))), ?_⟩
  refine ⟨_, rfl, a, rfl, ⟨_, ha.sq⟩, fun D hD => ?_⟩
  refine lc_tup (K := K) (a := a) (xs := natV l) (fun i H' => Same H H' ∧ H' D = some (.lst (trues i))) ⟨same_new hD _, upd_same⟩ (fun i H' _ z => ha.sq.ext z.1) ?_ ?_
  · rintro i x H' hx ⟨g, h⟩
    obtain ⟨p, hp, rfl⟩ := natV_get hx
    have hi := get_lt hp
    refine ⟨rfl, _, rfl, _, rfl, b, _, rfl, .inr ((TK.of g).tt hb).sq, rfl, nat_flat m, ?_⟩
    have e : (if false = true then !inV (.int (p : Nat)) (natV m) else inV (.int (p : Nat)) (natV m)) = true := by rw [inS]; exact decide_eq_true (hs p (List.mem_of_getElem? hp))
    rw [e]
    exact grow g hD h (by omega)
  rintro H1 ⟨g1, h1⟩
  rw [natL] at h1
  refine ⟨D, _, rfl, .of h1, ?_⟩
  rw [trues_all]
  exact k _ g1
abbrev s_fit : Stmt := top 23
theorem sc_fit : FnScope ["one", "other", "view", "beside"] ["one", "other"] (defScope s_fit) := ⟨rfl, rfl, rfl, by decide +kernel, rfl, by decide +kernel, by decide +kernel⟩
theorem ok_fit (F : Fun K "fit" "fit" s_fit f fd) (G_lies_in : Fd P w K mg base CX0 "lies_in" 1 ["lot", "other"] spLies) : FnOk P w K mg base CX0 2 f fd ["one", "other"] spFit := by
  refine F.ok sc_fit (fun vs H Q E h => ?_) (fun cdv A outer s H vs Q E hr h => ?_)
  · obtain ⟨t, u, a, b, p, q, l, m, rfl, _⟩ := h
    rfl
  obtain ⟨t, u, a, b, p, q, l, m, rfl, ht, hu, ha, hb, hl, hm, f1, f2, k⟩ := h
  refine ⟨_, (pss_cons (ps_par (i := 2) (j := 3) (by rfl) sc_fit.nd rfl rfl (by decide) rfl rfl (pa_cons (pe_ix ix_tup (pv 0) pe_int (fun _ _ => rfl)) (pa_cons (pe_ix ix_tup (pv 1) pe_int (fun _ _ => rfl)) pa_nil)) (by rfl))
  (pss_cons (ps_if (pt_cmpR op_in_seqK (pe_ix ix_tup (pv 1) pe_int (fun _ _ => rfl)) (pv 2) rfl) (pss_one (ps_ret (pe_fd G_lies_in (hr.mono (by first | decide | omega)) rfl (pa_cons (pv 3) (pa_cons (pv 2) pa_nil))))) pss_nil)
  (pss_one (ps_ret (pe_fd G_lies_in (hr.mono (by first | decide | omega)) rfl (pa_cons (pv 2) (pa_cons (pv 3) pa_nil))))))), ?_⟩
  refine ⟨_, rfl, t, _, _, _, rfl, rfl, .of ht, atI_nat (j := 1) rfl, _, rfl, u, _, _, _, rfl, rfl, .of hu, atI_nat (j := 1) rfl, _, _, rfl, ?_⟩
  refine ⟨_, rfl, u, _, _, _, rfl, rfl, .of hu, atI_nat (j := 0) rfl, _, rfl, a, _, rfl, .inr ha.sq, rfl, nat_flat l, _, rfl, ?_⟩
  rw [inS]
  by_cases hq : q ∈ l
  · rw [decide_eq_true hq]
    exact iteT ⟨_, rfl, _, rfl, b, a, m, l, rfl, hb, ha, hm, f1 hq, k⟩
  · rw [decide_eq_false hq]
    refine iteF ?_
    exact ⟨_, rfl, _, rfl, a, b, l, m, rfl, ha, hb, hl, f2 hq, k⟩
abbrev s_is_view : Stmt := top 22
theorem sc_is_view : FnScope ["many", "hand", "value"] ["many", "hand", "value"] (defScope s_is_view) := ⟨rfl, rfl, rfl, by decide +kernel, rfl, by decide +kernel, by decide +kernel⟩
theorem ok_is_view (F : Fun K "is_view" "is_view" s_is_view f fd) (G_is_lot : Fd P w K mg base CX0 "is_lot" 2 ["value"] spLot) : FnOk P w K mg base CX0 3 f fd ["many", "hand", "value"] spIsView := by
  refine F.ok sc_is_view (fun vs H Q E h => ?_) (fun cdv A outer s H vs Q E hr h => ?_)
  · obtain ⟨n, p, a, l, rfl, _⟩ := h
    rfl
  obtain ⟨n, p, a, l, rfl, ha, up, hl, hp, hn, k⟩ := h
  refine ⟨_, (pss_one (ps_ret (pe_and (pe_fd G_is_lot (hr.mono (by first | decide | omega)) rfl (pa_cons (pv 2) pa_nil)) (pe_and (pe_cmpR op_in_seqK (pv 1) (pv 2) rfl) (pe_one (pe_cmpR op_lt (pe_ix ix_tup (pv 2) (pe_un un_neg pe_int) (fun _ _ => rfl)) (pv 0) (nomark _))))))), ?_⟩
  refine ⟨_, rfl, a, l, rfl, ha, up, hl, fun H1 g1 => ?_⟩
  have ha1 := (TK.of g1).tt ha
  refine ⟨_, rfl, iteT ⟨_, rfl, _, rfl, a, _, rfl, .inr ha1.sq, rfl, nat_flat l, _, rfl, ?_⟩⟩
  rw [inS, decide_eq_true hp]
  refine iteT ?_
  rcases List.eq_nil_or_concat l with rfl | ⟨l0, z, e⟩
  · cases hp
  have e : l = l0 ++ [z] := by rw [e, List.concat_eq_append]
  have hz : z < n := hn z (by rw [e]; simp)
  have en : natV l = natV l0 ++ [.int (z : Nat)] := by rw [e]; unfold natV; rw [List.map_append]; rfl
  have hsq : SqT K H1 a (natV l0 ++ [.int (z : Nat)]) := by have := ha1.sq (K := K); rw [en] at this; exact this
  refine ⟨_, rfl, 1, rfl, a, _, _, _, rfl, rfl, hsq, atI_last _ _, _, rfl, _, _, rfl, rfl, ?_⟩
  have ez := decide_eq_true (show (z : Int) < (n : Int) by omega)
  show Q (.bl (decide ((z : Int) < (n : Int)))) H1
  rw [ez]
  exact k _ g1
end
end Fp
namespace Fp
open PySem PySem.Spec PyProof.Rows L2
def PrAt (s : LS) (H : Hp) (x : V) : Prop := ∃ (t a : Addr) (p : Nat) (l : List Nat), x = .ref t ∧ H t = some (.tup [.int (p : Nat), .ref a]) ∧ TT H a (natV l) ∧ s.vi p = some l
theorem PrAt.mono {s : LS} {H H' : Hp} (g : TK H H') {x : V} (h : PrAt s H x) : PrAt s H' x := by
  obtain ⟨t, a, p, l, rfl, h1, h2, h3⟩ := h
  exact ⟨t, a, p, l, rfl, g.t h1, g.tt h2, h3⟩
theorem any_take {α : Type} {f : α → Bool} {l : List α} {i : Nat} {y : α} (h : l[i]? = some y) : (l.take (i + 1)).any f = ((l.take i).any f || f y) := by
  have hl := List.getElem?_eq_some_iff.mp h
  obtain ⟨h1, h2⟩ := hl
  rw [List.take_succ, h]; simp
section
variable {P : Program} {w : World} {K : PySem.W.Frag} {mg : Str → Option Value} {base : Heap} {f : Addr} {fd : FuncData} {C : Addr}
abbrev s_is_at_once : Stmt := top 21
theorem sc_is_at_once : FnScope ["many", "value", "pairs", "hand", "view", "one", "other"] ["many", "value"] (defScope s_is_at_once) := ⟨rfl, rfl, rfl, by decide +kernel, rfl, by decide +kernel, by decide +kernel⟩
theorem ok_is_at_once (F : Fun K "is_at_once" "is_at_once" s_is_at_once f fd) (T : WTx mg) (G_check_many : Fd P w K mg base CX0 "check_many" 2 ["many"] spChkMany) (G_is_view : Fd P w K mg base CX0 "is_view" 3 ["many", "hand", "value"] spIsView) (G_fit : Fd P w K mg base CX0 "fit" 2 ["one", "other"] spFit) : FnOk P w K mg base CX0 4 f fd ["many", "value"] spAtOnce := by
  refine F.ok sc_is_at_once (fun vs H Q E h => ?_) (fun cdv A outer s0 H vs Q E hr h => ?_)
  · obtain ⟨b, vv, s, rfl, _⟩ := h
    rfl
  obtain ⟨b, vv, s, rfl, hb, hv, W, k⟩ := h
  refine ⟨_, (pss_cons (ps_expr (pe_fd G_check_many (hr.mono (by first | decide | omega)) rfl (pa_cons (pv 0) pa_nil)))
  (pss_cons (ps_if (PW.pt (pw_or (pt_not (pt_val (pe_callB call_isi rfl T.isinstance (by decide +kernel) (pa_cons (pv 1) (pa_cons (pe_bltn (v := .ty "tuple") rfl T.tuple boot_tuple rfl) pa_nil))))) (pw_or1 (pt_cmpR op_ne (pe_callB call_len rfl T.len (by decide +kernel) (pa_cons (pv 1) pa_nil)) (pv 0) (nomark _))))) (pss_one (ps_ret pe_bl)) pss_nil)
  (pss_cons (ps_if (pt_not (pt_val (pe_callB (cr_all rfl) rfl T.all (by decide +kernel) (pa_cons (pe_lc (own := [("hand", 3), ("view", 4)]) (g := (gTup K 2 (gCons (gName 3) (gCons (gName 4) gNil)))) (tt := tYes) rfl sc_is_at_once.nd (pi_enumT rfl T.enumerate (pa_cons (pv 1) pa_nil)) (blkOk_by (own := [("hand", 3), ("view", 4)]) (N := ["many", "value", "pairs", "hand", "view", "one", "other"]) (sc := defScope s_is_at_once) (by decide +kernel)) (fun _ _ _ _ _ => (pg_tup rfl (pgs_cons (pg_name (i := 3) sc_is_at_once.nd rfl (Or.inl rfl)) (pgs_cons (pg_name (i := 4) sc_is_at_once.nd rfl (Or.inl rfl)) pgs_nil)))) (fun _ _ _ _ _ => pts_nil) (fun _ _ _ _ _ => (pe_or (pe_cmpR op_isN (pv 4) pe_non (nomark _)) (pe_one (pe_fd G_is_view (hr.mono (by first | decide | omega)) rfl (pa_cons (pv 0) (pa_cons (pv 3) (pa_cons (pv 4) pa_nil)))))))) pa_nil)))) (pss_one (ps_ret pe_bl)) pss_nil)
  (pss_cons (ps_set (i := 2) sc_is_at_once.nd rfl (Or.inr rfl) (pe_lc (own := [("hand", 3), ("view", 4)]) (g := (gTup K 2 (gCons (gName 3) (gCons (gName 4) gNil))))  rfl sc_is_at_once.nd (pi_enumT rfl T.enumerate (pa_cons (pv 1) pa_nil)) (blkOk_by (own := [("hand", 3), ("view", 4)]) (N := ["many", "value", "pairs", "hand", "view", "one", "other"]) (sc := defScope s_is_at_once) (by decide +kernel)) (fun _ _ _ _ _ => (pg_tup rfl (pgs_cons (pg_name (i := 3) sc_is_at_once.nd rfl (Or.inl rfl)) (pgs_cons (pg_name (i := 4) sc_is_at_once.nd rfl (Or.inl rfl)) pgs_nil)))) (fun _ _ _ _ _ => (pts_one (pt_cmpR op_notN (pv 4) pe_non (nomark _)))) (fun _ _ _ _ _ => (pe_tup (pa_cons (pv 3) (pa_cons (pv 4) pa_nil))))))
  (pss_one (ps_ret (pe_and (pe_cmpR op_gt (pe_callB call_len rfl T.len (by decide +kernel) (pa_cons (pv 2) pa_nil)) pe_int (nomark _)) (pe_one (pe_callB (cr_all rfl) rfl T.all (by decide +kernel) (pa_cons (pe_lc2 (own := [("one", 5), ("other", 6)]) (vs1 := [6]) (g := gName 5) (g1 := gName 6) (tt := tYes) (tt1 := tYes) (wi1 := iList K (tVar 2)) rfl sc_is_at_once.nd (pi_list (pv 2)) (blkOk_by (own := [("one", 5), ("other", 6)]) (N := ["many", "value", "pairs", "hand", "view", "one", "other"]) (sc := defScope s_is_at_once) (by decide +kernel)) (by decide) (fun _ _ _ _ _ => (pg_name (i := 5) sc_is_at_once.nd rfl (Or.inl rfl))) (fun _ _ _ _ _ => pts_nil) (fun _ _ _ _ _ => (pi_list (pv 2))) (fun _ _ _ _ _ => (pg_name (i := 6) sc_is_at_once.nd rfl (Or.inl rfl))) (fun _ _ _ _ _ => pts_nil) (fun _ _ _ _ _ => (pe_fd G_fit (hr.mono (by first | decide | omega)) rfl (pa_cons (pv 5) (pa_cons (pv 6) pa_nil))))) pa_nil)))))))))), ?_⟩
  have n5 := W.n5
  have hvl : vv.length = s.n := by rw [pr_len hv, W.lw]
  refine ⟨_, rfl, s.n, rfl, W.n1, n5, ?_⟩
  refine ⟨_, rfl, _, _, _, _, true, rfl, .ty "tuple", (show TT H b vv from .inr hb).ty, by first | rfl | decide +kernel | kernel_rfl, _, rfl, iteF ?_⟩
  refine ⟨_, rfl, _, vv.length, rfl, (show LenV K (.ref b) H vv.length from .inr ⟨_, hb.sq, rfl⟩), _, rfl, ?_⟩
  refine ⟨rfl, _, rfl, ite_no (by rw [hvl, decide_eq_true rfl]; rfl) ?_⟩
  refine ⟨_, rfl, b, vv, rfl, hb.sq, fun D hD => ?_⟩
  refine lc_it (walk_enumT (xs := vv)) (fun i H' => Same H H' ∧ H' D = some (.lst (trues i))) ⟨same_new hD _, upd_same⟩ (fun i H' _ z => ((TK.of z.1).f hb).sq) ?_ ?_
  · rintro i y0 H1 H2 hi ⟨g1, h1⟩ ⟨T', y, rfl, hT, rfl, hy⟩
    have hi' : i < s.n := by omega
    obtain ⟨y', hy', oy⟩ := pr_at hv (show s.vw[i]? = some (s.vi i) from getD_at (by rw [W.lw]; exact hi'))
    rw [hy] at hy'
    cases hy'
    have g2 := same_new hT (.tup [.int (0 + (i : Nat)), y])
    have h2 := g2 _ _ h1
    refine ⟨T', _, rfl, .of upd_same, rfl, _, _, rfl, _, _, rfl, rfl, rfl, ?_⟩
    unfold tYes
    refine iteT ?_
    refine ⟨_, rfl, rfl, _, rfl, ?_⟩
    cases hvi : s.vi i with
    | none =>
      rw [hvi] at oy
      refine ite_yes (by rw [show y = V.non from oy]; rfl) ?_
      exact grow (g1.trans g2) hD h2 (by omega)
    | some l =>
      rw [hvi] at oy
      obtain ⟨a, rfl, ha⟩ := oy
      have vo := W.view hvi
      refine ite_no rfl ?_
      refine ⟨_, rfl, _, rfl, _, rfl, s.n, i, a, l, (by rw [Int.zero_add]; rfl), (TK.of (g1.trans g2)).tt ha, vo.up, vo.len, vo.self, vo.lt, fun H3 g3 => ?_⟩
      exact grow ((g1.trans g2).trans g3) hD (g3 _ _ h2) (by omega)
  rintro H1 ⟨g1, h1⟩
  refine ⟨D, _, rfl, .of h1, _, rfl, ?_⟩
  rw [trues_all]
  refine iteF ?_
  have hb1 := (TK.of g1).f hb
  have hv1 := pr_imp (fun _ _ => ViewAt.mono (TK.of g1)) hv
  refine ⟨_, rfl, b, vv, rfl, hb1.sq, fun D1 hD1 => ?_⟩
  refine lc_it (walk_enumT (xs := vv)) (fun i H' => Same H1 H' ∧ ∃ acc, H' D1 = some (.lst acc) ∧ acc.length ≤ i ∧ (∀ x ∈ acc, PrAt s H' x) ∧ decide (acc.length > 0) = (s.vw.take i).any (·.isSome)) ⟨same_new hD1 _, [], upd_same, Nat.le_refl _, (fun x hx => nomatch hx), rfl⟩ (fun i H' _ z => ((TK.of z.1).f hb1).sq) ?_ ?_
  · rintro i y0 H2 H3 hi ⟨g2, acc, h2, hl, hp, he⟩ ⟨T', y, rfl, hT, rfl, hy⟩
    have hi' : i < s.n := by omega
    have hwi : s.vw[i]? = some (s.vi i) := getD_at (by rw [W.lw]; exact hi')
    obtain ⟨y', hy', oy⟩ := pr_at hv1 hwi
    rw [hy] at hy'
    cases hy'
    have g3 := same_new hT (.tup [.int (0 + (i : Nat)), y])
    have h3 := g3 _ _ h2
    refine ⟨T', _, rfl, .of upd_same, rfl, _, _, rfl, _, _, rfl, rfl, rfl, ?_⟩
    refine ⟨_, rfl, rfl, _, rfl, ?_⟩
    cases hvi : s.vi i with
    | none =>
      rw [hvi] at oy
      refine ite_no (by rw [show y = V.non from oy]; rfl) ?_
      refine ⟨g2.trans g3, acc, h3, by omega, fun x hx => (hp x hx).mono (.of g3), ?_⟩
      rw [any_take hwi, hvi, ← he]; simp
    | some l =>
      rw [hvi] at oy
      obtain ⟨a, rfl, ha⟩ := oy
      refine ite_yes rfl ?_
      refine ⟨_, rfl, _, rfl, szl (by show 2 ≤ _; decide), fun t nt => ?_⟩
      have g4 := same_new nt (.tup [.int (0 + (i : Nat)), .ref a])
      have h4 := g4 _ _ h3
      have g14 : Same H1 _ := (g2.trans g3).trans g4
      refine ⟨acc, h4, szt (by omega), fun o u ho => ?_, acc ++ [.ref t], upd_same, by rw [List.length_append]; exact Nat.succ_le_succ hl, fun x hx => ?_, ?_⟩
      · rw [upd_ne (ne_of_none ho hD1)]; exact g14 _ _ ho
      · have tk : TK _ (upd (upd (upd H2 T' (.tup [.int (0 + (i : Nat)), .ref a])) t (.tup [.int (0 + (i : Nat)), .ref a])) D1 (.lst (acc ++ [.ref t]))) := TK.put h4 fun z => z
        rcases List.mem_append.mp hx with z | z
        · exact ((hp x z).mono (.of (g3.trans g4))).mono tk
        · rw [List.mem_singleton.mp z]
          refine ⟨t, a, i, l, rfl, ?_, tk.tt ((TK.of g14).tt ha), hvi⟩
          have : upd (upd H2 T' (.tup [.int (0 + (i : Nat)), .ref a])) t (.tup [.int (0 + (i : Nat)), .ref a]) t = some (.tup [.int (i : Nat), .ref a]) := by rw [upd_same, Int.zero_add]
          exact tk.t this
      · rw [any_take hwi, hvi, List.length_append]; simp
  rintro H2 ⟨g2, acc, h2, hl, hp, he⟩
  rw [show vv.length = s.vw.length by rw [hvl, W.lw], List.take_length] at he
  have he : decide (acc.length > 0) = s.any := he
  have eI : decide ((0 : Int) < (acc.length : Int)) = s.any := by rw [← he]; exact decide_eq_decide.mpr (by omega)
  refine ⟨_, rfl, _, acc.length, rfl, (show LenV K (.ref D1) H2 acc.length from .inl ⟨_, .of h2, rfl⟩), _, _, rfl, rfl, _, rfl, ?_⟩
  refine ite2 (fun z => ?_) (fun z => ?_)
  rotate_left
  · rw [show s.any = false by rw [← eI]; simpa using z] at k
    exact k _ (g1.trans g2)
  have ea : s.any = true := by rw [← eI]; exact z
  rw [ea] at k
  have acn : acc.length ≤ 5 := by omega
  refine ⟨_, rfl, D1, rfl, ⟨_, .of h2⟩, fun D3 hD3 => ?_⟩
  have w1 := walk_list (K := K) (a := D1) (xs := acc)
  refine ⟨fun i m H' => m = acc.length - i ∧ i ≤ acc.length ∧ Same H2 H' ∧ H' D3 = some (.lst (trues (i * acc.length))), ⟨_, rfl, Nat.zero_le _, same_new hD3 _, by rw [Nat.zero_mul]; exact upd_same⟩, ?_⟩
  rintro i m H3 ⟨rfl, hi, g3, h3⟩
  by_cases hlt : i < acc.length
  rotate_left
  · have e : i = acc.length := by omega
    subst e
    refine .inl ⟨w1.stops H3 (.of (g3 _ _ h2)), D3, _, rfl, .of h3, ?_⟩
    rw [trues_all]
    exact k _ ((g1.trans g2).trans g3)
  refine .inr ⟨w1.goes i H3 hlt (.of (g3 _ _ h2)), fun H' => i + 1 ≤ acc.length ∧ Same H2 H' ∧ H' D3 = some (.lst (trues ((i + 1) * acc.length))), fun H' z => ⟨acc.length - (i + 1), by omega, rfl, z.1, z.2⟩, fun x H' hy => ?_⟩
  obtain ⟨rfl, hx⟩ := w1.yields i H3 x H' hlt (.of (g3 _ _ h2)) hy
  refine ⟨rfl, ?_⟩
  unfold tYes
  refine iteT ⟨_, rfl, D1, rfl, ⟨_, .of (g3 _ _ h2)⟩, ?_⟩
  refine ⟨fun j m H' => m = acc.length - j ∧ j ≤ acc.length ∧ Same H2 H' ∧ H' D3 = some (.lst (trues (i * acc.length + j))), ⟨_, rfl, Nat.zero_le _, g3, h3⟩, ?_⟩
  rintro j m H4 ⟨rfl, hj, g4, h4⟩
  by_cases hjt : j < acc.length
  rotate_left
  · have e : j = acc.length := by omega
    subst e
    exact .inl ⟨w1.stops H4 (.of (g4 _ _ h2)), hlt, g4, by rw [h4, Nat.succ_mul]⟩
  refine .inr ⟨w1.goes j H4 hjt (.of (g4 _ _ h2)), fun H' => j + 1 ≤ acc.length ∧ Same H2 H' ∧ H' D3 = some (.lst (trues (i * acc.length + (j + 1)))), fun H' z => ⟨acc.length - (j + 1), by omega, rfl, z.1, z.2⟩, fun y H' hy => ?_⟩
  obtain ⟨rfl, hyy⟩ := w1.yields j H4 y H' hjt (.of (g4 _ _ h2)) hy
  refine ⟨rfl, ?_⟩
  refine iteT ?_
  obtain ⟨t, a, p, l, rfl, t1, t2, t3⟩ := (hp x (List.mem_of_getElem? hx)).mono (.of g4)
  obtain ⟨u, c, q, m, rfl, u1, u2, u3⟩ := (hp y (List.mem_of_getElem? hyy)).mono (.of g4)
  have ft := W.fits t3 u3
  refine ⟨_, rfl, _, rfl, t, u, a, c, p, q, l, m, rfl, t1, u1, t2, u2, (W.view t3).len, (W.view u3).len, ft.1, ft.2, fun H5 g5 => ?_⟩
  have : i * acc.length ≤ 25 := by have := Nat.mul_le_mul (show i ≤ 5 by omega) acn; omega
  obtain ⟨ac, r1, r2, r3⟩ := grow (g4.trans g5) hD3 (g5 _ _ h4) (by omega)
  exact ⟨ac, r1, r2, hjt, r3.1, r3.2⟩
end
end Fp
namespace Fp
open PySem PySem.Spec PyProof.Rows L2
theorem LS.wf_woven : ∀ {ws : List Nat} {s : LS}, s.WF → (∀ p ∈ ws, p < s.n) → (s.woven ws).WF
  | [], _, W, _ => W
  | p :: ws, s, W, h => LS.wf_woven (ws := ws) (s := s.step p) (W.step (h p List.mem_cons_self)) fun q hq => by rw [LS.n_step]; exact h q (List.mem_cons_of_mem _ hq)
theorem LvAt.put {K : PySem.W.Frag} {C : Addr} {H : Hp} {d D : Addr} {s : LS} {xs ys : List V} (h : LvAt K C H d s) (hD : H D = some (.lst xs)) : LvAt K C (upd H D (.lst ys)) d s := by
  refine h.off (S := [D]) ((But.refl _ H).put (by simp)) (TK.put hD fun z => z) fun x hx => ?_
  rw [List.mem_singleton.mp hx]
  refine ⟨fun z => ?_, fun z => by rw [z] at hD; cases hD⟩
  obtain ⟨dx, fs, e, _⟩ := h.ob
  rw [← z, hD] at e
  cases e
section
variable {P : Program} {w : World} {K : PySem.W.Frag} {mg : Str → Option Value} {base : Heap} {f : Addr} {fd : FuncData} {C : Addr}
abbrev s_Levels_len : Stmt := inClass (top 19) 2
theorem sc_Levels_len : FnScope ["self"] ["self"] (defScope s_Levels_len) := ⟨rfl, rfl, rfl, by decide +kernel, rfl, by decide +kernel, by decide +kernel⟩
theorem ok_Levels_len (F : Fun K "__len__" "Levels.__len__" s_Levels_len f fd) (T : WTx mg) (hC : LC K C) : FnOk P w K mg base CX0 1 f fd ["self"] (spLLen K C) := by
  refine F.ok sc_Levels_len (fun vs H Q E h => ?_) (fun cdv A outer s H vs Q E hr h => ?_)
  · obtain ⟨d, s, rfl, _⟩ := h
    rfl
  obtain ⟨d, s, rfl, hD, k⟩ := h
  refine ⟨_, (pss_one (ps_ret (pe_callB call_len rfl T.len (by decide +kernel) (pa_cons (pe_fld (pv 0) rfl) pa_nil)))), ?_⟩
  obtain ⟨dx, a, b, r, e, vv, rv, D⟩ := hD
  exact ⟨_, rfl, d, C, dx, _, _, rfl, D.obj, hC.cl, hC.nR, l_run, _, s.run.length, rfl, (show LenV K (.ref r) H s.run.length from .inr ⟨_, .of D.run, (pr_len D.runP).symm⟩), k⟩
abbrev s_Levels_weave : Stmt := inClass (top 19) 6
theorem sc_Levels_weave : FnScope ["self", "weaving", "hand"] ["self", "weaving"] (defScope s_Levels_weave) := ⟨rfl, rfl, rfl, by decide +kernel, rfl, by decide +kernel, by decide +kernel⟩
theorem ok_Levels_weave (F : Fun K "weave" "Levels.weave" s_Levels_weave f fd) (T : PTx mg) (hC : LC K C) (G_is_weaving : Fd P w K mg base CX0 "is_weaving" 3 ["value", "many"] spWeaving) (M_next : Md P w K mg base CX0 C "next" 3 ["self", "hand"] (spLNext K C)) (M_step : Md P w K mg base CX0 C "step" 4 ["self", "hand"] (spLStep K C)) : FnOk P w K mg base CX0 5 f fd ["self", "weaving"] (spWeave K C) := by
  refine F.ok sc_Levels_weave (fun vs H Q E h => ?_) (fun cdv A outer s0 H vs Q E hr h => ?_)
  · obtain ⟨d, a, ws, s, rfl, _⟩ := h
    rfl
  obtain ⟨d, a, ws, s, rfl, hL, W, ha, hws, hwl, hrl, k⟩ := h
  refine ⟨_, (pss_cons (ps_if (pt_not (pt_val (pe_fd G_is_weaving (hr.mono (by first | decide | omega)) rfl (pa_cons (pv 1) (pa_cons (pe_fld (pv 0) rfl) pa_nil))))) (pss_one (ps_no)) pss_nil)
  (pss_one (ps_ret (pe_callTy call_tuple_of rfl T.tuple (by decide +kernel) (pa_cons (pe_lc (own := [("hand", 2)]) (g := (gName 2))  rfl sc_Levels_weave.nd (pi_tup (pv 1)) (blkOk_by (own := [("hand", 2)]) (N := ["self", "weaving", "hand"]) (sc := defScope s_Levels_weave) (by decide +kernel)) (fun _ _ _ _ _ => (pg_name (i := 2) sc_Levels_weave.nd rfl (Or.inl rfl))) (fun _ _ _ _ _ => (pts_one (pt_cmpR op_notN (pe_md (pv 0) hC.cl M_next (hr.mono (by first | decide | omega)) (pa_cons (pv 2) pa_nil)) pe_non (nomark _)))) (fun _ _ _ _ _ => (pe_md (pv 0) hC.cl M_step (hr.mono (by first | decide | omega)) (pa_cons (pv 2) pa_nil)))) pa_nil))))), ?_⟩
  have hL0 := hL
  obtain ⟨dx, la, lb, r, e, vv, rv, D⟩ := hL0
  refine ⟨_, rfl, _, rfl, d, C, dx, _, _, rfl, D.obj, hC.cl, hC.nM, l_many, a, ws, s.n, rfl, ha, hws, hwl, fun H1 g1 => ⟨_, rfl, iteF ?_⟩⟩
  have ha1 := (TK.of g1).tt ha
  have L1 := hL.same g1
  refine ⟨_, rfl, a, rfl, ⟨_, ha1.sq⟩, fun A0 hA0 => ?_⟩
  have hd1 : A0 ≠ d := fun z => by obtain ⟨_, _, o, _⟩ := L1.ob; rw [← z, hA0] at o; cases o
  refine lc_tup (K := K) (a := a) (xs := natV ws) (fun i H' => But [d] H1 H' ∧ LvAt K C H' d (s.woven (ws.take i)) ∧ ∃ acc ds, H' A0 = some (.lst acc) ∧ acc.length ≤ i ∧ Paired (SD K H') acc ds ∧ (s.woven (ws.take i)).run = s.run ++ ds)
    ⟨.of (same_new hA0 _), L1.same (same_new hA0 _), [], [], upd_same, Nat.le_refl _, .nil, by simp [LS.woven]⟩ (fun i H' _ z => ((L1.tk z.1).tt ha1).sq) ?_ ?_
  · rintro i x H' hx ⟨b1, Li, acc, ds, hA, hl, hp, er⟩
    obtain ⟨p, hpp, rfl⟩ := natV_get hx
    have hi := get_lt hpp
    have hps : p < s.n := hws p (List.mem_of_getElem? hpp)
    have Wi : (s.woven (ws.take i)).WF := LS.wf_woven W fun q hq => hws q (List.mem_of_mem_take hq)
    have hpn : p < (s.woven (ws.take i)).n := by rw [LS.n_woven]; exact hps
    have es : s.woven (ws.take (i + 1)) = (s.woven (ws.take i)).step p := by rw [List.take_succ, hpp]; exact LS.woven_snoc _ _
    have rl : (s.woven (ws.take i)).run.length < 100000 := by rw [er, List.length_append, ← pr_len hp]; omega
    rw [es]
    obtain ⟨dx1, fs1, ob1, nn1, ns1, _⟩ := Li.ob
    refine ⟨rfl, _, rfl, d, dx1, fs1, rfl, ob1, nn1, _, rfl, d, p, _, rfl, Li, Wi, hpn, fun y H2 g2 hy => ⟨rfl, _, rfl, ?_⟩⟩
    have L2' := Li.same g2
    have hA2 := g2 _ _ hA
    cases hn : (s.woven (ws.take i)).next p with
    | none =>
      rw [hn] at hy
      rw [show y = .non from hy]
      refine ite_no rfl ?_
      rw [LS.step_none hn]
      exact ⟨b1.trans (.of g2), L2', acc, ds, hA2, by omega, SDs.mono hp (.of g2), er⟩
    | some du =>
      have hne : (s.woven (ws.take i)).next p ≠ none := by rw [hn]; simp
      have hyn : (!decide (y = .non)) = true := by
        rw [hn] at hy
        cases du with
        | wr l => obtain ⟨t, rfl, _⟩ := hy; rfl
        | look => obtain ⟨t, rfl, _⟩ := hy; rfl
      refine ite_yes hyn ?_
      obtain ⟨dx2, fs2, ob2, nn2, ns2, _⟩ := L2'.ob
      refine ⟨_, rfl, d, dx2, fs2, rfl, ob2, ns2, _, rfl, d, p, _, rfl, L2', Wi, hpn, hne, rl, fun y3 dd H3 b3 L3 er3 hy3 => ?_⟩
      have hA3 := b3.at hA2 (by simpa using hd1)
      have tk : TK H' H3 := (TK.of g2).trans (L2'.tk b3)
      have tk2 : TK H3 (upd H3 A0 (.lst (acc ++ [y3]))) := TK.put hA3 fun z => z
      refine ⟨acc, hA3, szt (by omega), fun c o hc q => ?_, L3.put hA3, acc ++ [y3], ds ++ [dd], upd_same, by rw [List.length_append]; exact Nat.succ_le_succ hl, SDs.mono (pr_snoc hy3 (SDs.mono hp tk)) tk2, by rw [er3, er, List.append_assoc]⟩
      rw [upd_ne (ne_of_none q hA0)]
      exact ((b1.trans (.of g2)).trans b3) c o hc q
  rintro H2 ⟨b2, Lw, acc, ds, hA, hl, hp, er⟩
  rw [natL] at Lw hl er
  rw [List.take_length] at Lw er
  refine ⟨A0, _, rfl, .inl ⟨.of hA, fun t nt => ?_⟩⟩
  have gt := same_new nt (.tup acc)
  exact k t acc ds _ (((But.of g1).trans b2).trans (.of gt)) (Lw.same gt) upd_same (SDs.mono hp (.of gt)) er
end
end Fp
namespace Fp
open PySem PySem.Spec PyProof.Rows L2
structure LTx (mg : Str → Option Value) : Prop where
  len : mg "len" = none
  int : mg "int" = none
  sum : mg "sum" = none
  abs : mg "abs" = none
  list : mg "list" = none
  tuple : mg "tuple" = none
  range : mg "range" = none
  max : mg "max" = none
  min : mg "min" = none
  repr : mg "repr" = none
  all : mg "all" = none
  enumerate : mg "enumerate" = none
theorem modNat'' : True := trivial
theorem atI0 {α : Type} {l : List α} {v : α} (h : l[0]? = some v) : atI l 0 = some v := atI_nat (j := 0) h
section
variable {P : Program} {w : World} {K : PySem.W.Frag} {mg : Str → Option Value} {base : Heap} {f : Addr} {fd : FuncData} {C : Addr}
abbrev s_law_take : Stmt := top 26
theorem sc_law_take : FnScope ["pot", "upto", "digit", "prime", "blend"] ["pot", "upto"] (defScope s_law_take) := ⟨rfl, rfl, rfl, by decide +kernel, rfl, by decide +kernel, by decide +kernel⟩
theorem ok_law_take (F : Fun K "_law_take" "_law_take" s_law_take f fd) (T : LTx mg) : FnOk P w K mg base CX0 1 f fd ["pot", "upto"] spTake := by
  refine F.ok sc_law_take (fun vs H Q E h => ?_) (fun cdv A outer s H vs Q E hr h => ?_)
  · obtain ⟨p, u, n, rfl, _⟩ := h
    rfl
  obtain ⟨p, u, n, rfl, h0, h1, hn, hP, q⟩ := h
  obtain ⟨a, b, c, hp, hb0, hb1, hc0, hc1⟩ := hP
  refine ⟨_, (pss_cons (ps_if (pt_cmpR op_gt (pe_ix ix_list (pv 0) pe_int (fun _ _ => rfl)) pe_int (nomark _)) (pss_cons (ps_set (i := 2) sc_law_take.nd rfl (Or.inl rfl) (pe_op op_mod (pe_callTy call_int1 rfl T.int (by decide +kernel) (pa_cons (pe_ix ix_list (pv 0) pe_int (fun _ _ => rfl)) pa_nil)) (pv 1)))
  (pss_cons (ps_asg (pe_op op_fdiv (pe_ix ix_list (pv 0) pe_int (fun _ _ => rfl)) (pv 1)) (pg_sub (pv 0) pe_int set_list))
  (pss_one (ps_ret (pv 2))))) pss_nil)
  (pss_cons (ps_asg (pe_op op_add (pe_ix ix_list (pv 0) pe_int (fun _ _ => rfl)) pe_int) (pg_sub (pv 0) pe_int set_list))
  (pss_cons (ps_set (i := 3) sc_law_take.nd rfl (Or.inl rfl) (pe_ix ix_list (pe_lst (pa_cons pe_int (pa_cons pe_int (pa_cons pe_int (pa_cons pe_int (pa_cons pe_int pa_nil)))))) (pe_op op_mod (pe_callTy call_int1 rfl T.int (by decide +kernel) (pa_cons (pe_ix ix_list (pv 0) pe_int (fun _ _ => rfl)) pa_nil)) pe_int) (fun _ _ => rfl)))
  (pss_cons (ps_set (i := 4) sc_law_take.nd rfl (Or.inl rfl) (pe_op op_mod (pe_callTy call_int1 rfl T.int (by decide +kernel) (pa_cons (pe_op op_pow (pe_callTy call_int1 rfl T.int (by decide +kernel) (pa_cons (pe_op op_add (pe_op op_add (pe_ix ix_list (pv 0) pe_int (fun _ _ => rfl)) (pe_op op_mul (pe_op op_mul pe_int (pe_ix ix_list (pv 0) pe_int (fun _ _ => rfl))) (pe_ix ix_list (pv 0) pe_int (fun _ _ => rfl)))) pe_int) pa_nil)) pe_int) pa_nil)) (pv 3)))
  (pss_one (ps_ret (pe_op op_mod (pe_callTy call_int1 rfl T.int (by decide +kernel) (pa_cons (pe_op op_fdiv (pe_op op_mul (pv 4) (pe_op op_add (pe_op op_mod (pe_callTy call_int1 rfl T.int (by decide +kernel) (pa_cons (pv 4) pa_nil)) pe_int) (pe_op op_mul pe_int (pe_ix ix_list (pv 0) pe_int (fun _ _ => rfl))))) pe_int) pa_nil)) (pv 1)))))))), ?_⟩
  refine ⟨_, rfl, p, _, _, _, rfl, rfl, .of hp, rfl, _, _, rfl, rfl, _, rfl, ?_⟩
  refine ite2 (fun ca => ?_) (fun ca => ?_)
  · refine ⟨_, rfl, p, _, _, _, rfl, rfl, .of hp, rfl, .inl ⟨_, rfl, _, rfl, _, _, rfl, rfl, h0, ?_⟩⟩
    refine ⟨_, rfl, p, _, _, _, rfl, rfl, .of hp, rfl, _, rfl, _, _, rfl, rfl, ⟨h0, by omega⟩, ?_⟩
    refine ⟨_, rfl, p, _, _, _, rfl, rfl, hp, rfl, ?_⟩
    refine ⟨_, rfl, ?_⟩
    obtain ⟨d, hd, hd2⟩ := modNat a h0
    show Q (V.int (a % u)) _
    rw [hd]
    refine q d _ hd2 ((But.refl _ H).put (by simp)) ?_
    exact ⟨a / u, b, c, upd_same, hb0, hb1, hc0, by omega⟩
  · refine ⟨_, rfl, p, _, _, _, rfl, rfl, .of hp, rfl, _, _, rfl, rfl, ?_⟩
    refine ⟨_, rfl, p, _, _, _, rfl, rfl, hp, rfl, ?_⟩
    have hp1 : upd H p (.lst [V.int a, V.int b, V.int (c + 1)]) p = some (.lst [V.int a, V.int b, V.int (c + 1)]) := upd_same
    have g1 : But [p] H (upd H p (.lst [V.int a, V.int b, V.int (c + 1)])) := (But.refl _ H).put (by simp)
    refine ⟨(by show 5 ≤ sizeLine; decide), fun l hl => ?_⟩
    have g2 := g1.new (o := .lst [V.int 2147483647, V.int 2147483629, V.int 2147483587, V.int 2147483579, V.int 2147483563]) hl
    have np : p ≠ l := ne_of_none hp1 hl
    have hp2 : upd (upd H p (.lst [V.int a, V.int b, V.int (c + 1)])) l (.lst [V.int 2147483647, V.int 2147483629, V.int 2147483587, V.int 2147483579, V.int 2147483563]) p = some (.lst [V.int a, V.int b, V.int (c + 1)]) := by
      rw [upd_ne np]; exact hp1
    obtain ⟨i5, hi5, hi5b⟩ := modNat (c + 1) (show (0 : Int) < 5 by decide)
    obtain ⟨pr, hpr, hpr0, hpr1⟩ : ∃ pr : Int, ([V.int 2147483647, V.int 2147483629, V.int 2147483587, V.int 2147483579, V.int 2147483563] : List V)[i5]? = some (.int pr) ∧ 0 < pr ∧ pr < 2147483648 := by
      have : i5 < 5 := by omega
      match i5, this with
      | 0, _ => exact ⟨_, rfl, by decide, by decide⟩
      | 1, _ => exact ⟨_, rfl, by decide, by decide⟩
      | 2, _ => exact ⟨_, rfl, by decide, by decide⟩
      | 3, _ => exact ⟨_, rfl, by decide, by decide⟩
      | 4, _ => exact ⟨_, rfl, by decide, by decide⟩
    refine ⟨_, rfl, p, _, _, _, rfl, rfl, .of hp2, rfl, .inl ⟨_, rfl, _, _, rfl, rfl, (by show (0 : Int) < 5; decide), ?_⟩⟩
    refine ⟨l, _, (c + 1) % 5, _, rfl, rfl, .of upd_same, (by rw [hi5]; exact atI_nat hpr), ?_⟩
    refine ⟨_, rfl, p, _, _, _, rfl, rfl, .of hp2, rfl, _, rfl, p, _, _, _, rfl, rfl, .of hp2, rfl, _, _, rfl, rfl, .inl (by constructor <;> decide), ?_⟩
    refine ⟨_, rfl, p, _, _, _, rfl, rfl, .of hp2, rfl, _, _, rfl, rfl, .inr (by constructor <;> omega), _, _, rfl, rfl, _, _, rfl, rfl, .inl ⟨_, rfl, _, _, rfl, rfl, ⟨by decide, by decide, ?_⟩, .inl ⟨_, rfl, ?_⟩⟩⟩
    · have hq := sq_le 99859 (c := c + 1) (by omega) (by omega)
      generalize 99859 * (c + 1) * (c + 1) = z at hq ⊢
      omega
    refine ⟨_, rfl, _, _, rfl, rfl, hpr0, ?_⟩
    obtain ⟨bl, hbl, hbl2⟩ := modNat ((b + 99859 * (c + 1) * (c + 1) + 1147) ^ 3) hpr0
    refine ⟨_, rfl, _, rfl, .inl ⟨_, rfl, _, _, rfl, rfl, (by show (0 : Int) < 10641; decide), ?_⟩⟩
    refine ⟨_, rfl, p, _, _, _, rfl, rfl, .of hp2, rfl, _, _, rfl, rfl, .inl (by constructor <;> decide), _, _, rfl, rfl, _, _, rfl, rfl, .inl ?_, ?_⟩
    · show -(2 ^ 64) < (b + 99859 * (c + 1) * (c + 1) + 1147) ^ (Int.toNat 3) % pr ∧ (b + 99859 * (c + 1) * (c + 1) + 1147) ^ (Int.toNat 3) % pr < 2 ^ 64
      have e3 : Int.toNat 3 = 3 := rfl
      rw [e3, hbl]; constructor <;> omega
    refine ⟨_, _, rfl, rfl, ⟨by decide, by decide⟩, .inl ⟨_, rfl, _, rfl, _, _, rfl, rfl, h0, ?_⟩⟩
    refine (fun (z : ∀ x : Int, Q (.int (x % u)) (upd (upd H p (.lst [V.int a, V.int b, V.int (c + 1)])) l (.lst [V.int 2147483647, V.int 2147483629, V.int 2147483587, V.int 2147483579, V.int 2147483563]))) => z _) (fun x => ?_)
    obtain ⟨d, hd, hd2⟩ := modNat x h0
    rw [hd]
    exact q d _ hd2 g2 ⟨a, b, c + 1, hp2, hb0, hb1, by omega, by omega⟩
abbrev s_law_of : Stmt := top 27
theorem sc_law_of : FnScope ["pot", "some"] ["pot", "some"] (defScope s_law_of) := ⟨rfl, rfl, rfl, by decide +kernel, rfl, by decide +kernel, by decide +kernel⟩
theorem ok_law_of (F : Fun K "_law_of" "_law_of" s_law_of f fd) (T : LTx mg) (G_law_take : Fd P w K mg base CX0 "_law_take" 1 ["pot", "upto"] spTake) : FnOk P w K mg base CX0 2 f fd ["pot", "some"] (spOf K) := by
  refine F.ok sc_law_of (fun vs H Q E h => ?_) (fun cdv A outer s H vs Q E hr h => ?_)
  · obtain ⟨p, q, xs, n, rfl, _⟩ := h
    rfl
  obtain ⟨p, q, xs, n, rfl, hS, hne, hx, hx1, hn, hP, k⟩ := h
  refine ⟨_, (pss_one (ps_ret (pe_ix ix_list (pv 1) (pe_fd G_law_take (hr.mono (by first | decide | omega)) rfl (pa_cons (pv 0) (pa_cons (pe_callB call_len rfl T.len (by decide +kernel) (pa_cons (pv 1) pa_nil)) pa_nil))) (fun _ _ => rfl)))), ?_⟩
  have hpos : 0 < xs.length := List.length_pos_iff.mpr hx
  refine ⟨_, rfl, _, rfl, _, rfl, _, xs.length, rfl, .inl ⟨xs, hS, rfl⟩, p, _, n, rfl, by omega, by omega, hn, hP, fun d H' hd g hP' => ?_⟩
  have hdl : d < xs.length := by omega
  refine ⟨q, xs, _, xs[d], rfl, rfl, g.seq hS (by simpa using hne), atI_nat (by simp [hdl]), ?_⟩
  exact k d _ H' (by simp [hdl]) g hP'
abbrev s_law_cells : Stmt := top 28
theorem sc_law_cells : FnScope ["script", "limit"] ["script", "limit"] (defScope s_law_cells) := ⟨rfl, rfl, rfl, by decide +kernel, rfl, by decide +kernel, by decide +kernel⟩
theorem ok_law_cells (F : Fun K "_law_cells" "_law_cells" s_law_cells f fd) (T : LTx mg) : FnOk P w K mg base CX0 1 f fd ["script", "limit"] (spCells K) := by
  refine F.ok sc_law_cells (fun vs H Q E h => ?_) (fun cdv A outer s H vs Q E hr h => ?_)
  · obtain ⟨p, xs, m, rfl, _⟩ := h
    rfl
  obtain ⟨p, xs, m, rfl, hS, hl, hm, k⟩ := h
  refine ⟨_, (pss_one (ps_ret (pe_listRg rfl rfl T.list (prg_1 rfl T.range (pe_callB (call_max2 rfl) rfl T.max (by decide +kernel) (pa_cons pe_int (pa_cons (pe_callB (call_min2 rfl) rfl T.min (by decide +kernel) (pa_cons (pv 1) (pa_cons (pe_callB call_len rfl T.len (by decide +kernel) (pa_cons (pv 0) pa_nil)) pa_nil))) pa_nil))))))), ?_⟩
  refine ⟨_, rfl, _, rfl, _, xs.length, rfl, .inl ⟨_, hS, (List.length_map _).symm⟩, _, _, rfl, _, _, rfl, ?_⟩
  generalize hz : (if (if (xs.length : Int) < (m : Int) then (xs.length : Int) else (m : Int)) > 1 then (if (xs.length : Int) < (m : Int) then (xs.length : Int) else (m : Int)) else 1) = z
  have hz1 : 0 ≤ z ∧ z < 1000 := by subst hz; split <;> (try split) <;> omega
  refine ⟨z, rfl, .of_le (by omega) (by omega) (by omega) (by omega), fun l hln => ?_⟩
  refine k l _ z.toNat (by omega) (same_new hln _) hln ?_
  rw [upd_same]
  unfold rgV
  rw [show (z - 0).toNat = z.toNat by omega]
  simp
abbrev s_law_pot : Stmt := top 25
theorem sc_law_pot : FnScope ["script", "place", "cell", "own", "small"] ["script", "place"] (defScope s_law_pot) := ⟨rfl, rfl, rfl, by decide +kernel, rfl, by decide +kernel, by decide +kernel⟩
theorem ok_law_pot (F : Fun K "_law_pot" "_law_pot" s_law_pot f fd) (T : LTx mg) : FnOk P w K mg base CX0 1 f fd ["script", "place"] (spPot K) := by
  refine F.ok sc_law_pot (fun vs H Q E h => ?_) (fun cdv A outer s H vs Q E hr h => ?_)
  · obtain ⟨p, xs, m, rfl, _⟩ := h
    rfl
  obtain ⟨p, xs, m, rfl, hS, hl, hm, k⟩ := h
  refine ⟨_, (C8.pss_cut (ps_set (i := 2) sc_law_pot.nd rfl (Or.inl rfl) (pe_ifExp (pt_cmpR op_lt (pv 1) (pe_callB call_len rfl T.len (by decide +kernel) (pa_cons (pv 0) pa_nil)) (nomark _)) (pe_ix ix_list (pv 0) (pv 1) (fun _ _ => rfl)) (pe_op op_add (pe_op op_add (pe_op op_mod (pe_callTy call_int1 rfl T.int (by decide +kernel) (pa_cons (pe_callB (cr_sum rfl) rfl T.sum (by decide +kernel) (pa_cons (pe_slice sl_list (pv 0) po_none (po_some pe_int)) pa_nil)) pa_nil)) pe_int) (pe_op op_mul pe_int (pv 1))) pe_int)))
  (pss_cons (ps_set (i := 3) sc_law_pot.nd rfl (Or.inl rfl) (pe_op op_mul (pe_op op_mod (pe_callTy call_int1 rfl T.int (by decide +kernel) (pa_cons (pe_callB call_abs rfl T.abs (by decide +kernel) (pa_cons (pv 2) pa_nil)) pa_nil)) (pe_op op_powB (pe_op op_pow pe_int pe_int) pe_int)) (pe_callTy call_int1 rfl T.int (by decide +kernel) (pa_cons (pe_cmpR op_ge (pe_callB call_abs rfl T.abs (by decide +kernel) (pa_cons (pv 2) pa_nil)) (pe_op op_pow pe_int pe_int) (nomark _)) pa_nil))))
  (pss_cons (ps_set (i := 4) sc_law_pot.nd rfl (Or.inl rfl) (pe_op op_mod (pe_callTy call_int1 rfl T.int (by decide +kernel) (pa_cons (pv 2) pa_nil)) pe_int))
  (pss_one (ps_ret (pe_lst (pa_cons (pv 3) (pa_cons (pe_op op_mod (pe_callTy call_int1 rfl T.int (by decide +kernel) (pa_cons (pe_op op_add (pe_op op_add (pe_op op_mul (pv 4) pe_int) (pe_op op_mul (pe_op op_mul pe_int (pv 1)) (pv 1))) pe_int) pa_nil)) pe_int) (pa_cons pe_int pa_nil))))))))), ?_⟩
  refine ⟨fun σ H1 => ∃ c : Int, σ = [some (.ref p), some (.int m), some (.int c), none, none] ∧ Same H H1, ?_, ?_⟩
  · refine ⟨_, rfl, _, rfl, _, xs.length, rfl, .inl ⟨_, hS, (List.length_map _).symm⟩, _, _, rfl, rfl, _, rfl, ?_⟩
    refine ite2 (fun c => ?_) (fun c => ?_)
    · have c' : m < xs.length := by have := of_decide_eq_true c; omega
      refine ⟨_, rfl, _, rfl, p, _, _, _, rfl, rfl, hS, atI_nat (by rw [List.getElem?_map, List.getElem?_eq_getElem c']; rfl), ?_⟩
      exact ⟨_, rfl, Same.refl _⟩
    · refine ⟨_, rfl, 1, rfl, p, _, rfl, hS, fun l hln => ?_⟩
      have hcut : cutV (xs.map V.int) none (some 1) = (xs.take 1).map V.int := by
        have e1 : HT.sIx (xs.map V.int).length 0 none = 0 := rfl
        have e2 := HT.sIx_nat (xs.map V.int).length (xs.map V.int).length 1
        unfold cutV
        rw [e1, show ((1 : Int)) = ((1 : Nat) : Int) from rfl, e2, List.length_map, List.drop_zero, ← List.map_take]
        cases xs <;> simp
      refine ⟨l, xs.take 1, rfl, .of (by rw [hcut]; exact upd_same), .inl ⟨_, rfl, _, _, rfl, rfl, (by show (0 : Int) < 1000003; decide), ?_⟩⟩
      refine ⟨_, rfl, _, _, rfl, rfl, .inl (by constructor <;> decide), _, _, rfl, rfl, _, _, rfl, rfl, ?_⟩
      exact ⟨_, rfl, same_new hln _⟩
  · rintro σ H1 ⟨c, rfl, g⟩
    refine ⟨_, rfl, _, rfl, .inl ⟨_, rfl, _, _, rfl, rfl, ⟨by decide, by decide, by decide⟩, ?_⟩⟩
    refine ⟨_, _, rfl, rfl, ⟨by decide, bits_ok 200 (by decide +kernel) (by decide) (by decide)⟩, ?_⟩
    refine ⟨_, _, rfl, rfl, (by show (0 : Int) < ((10 : Int) ^ Int.toNat 60) ^ Int.toNat 5; decide +kernel), ?_⟩
    refine ⟨_, rfl, _, rfl, _, _, rfl, rfl, ⟨by decide, by decide, by decide⟩, _, _, rfl, rfl, .inr ⟨_, rfl, _, _, rfl, rfl, .inr (b01 _), ?_⟩⟩
    refine ⟨_, rfl, .inl ⟨_, rfl, _, _, rfl, rfl, (by show (0 : Int) < 2305843009213693951; decide), ?_⟩⟩
    obtain ⟨sm, hs1, hs2⟩ := modNat c (u := 2305843009213693951) (by decide)
    refine ⟨_, rfl, _, rfl, _, _, rfl, rfl, .inr (by constructor <;> decide), _, rfl, _, _, rfl, rfl, .inl (by constructor <;> decide), _, rfl, _, _, rfl, rfl, .inr (by constructor <;> omega), ?_⟩
    refine ⟨_, _, rfl, rfl, _, _, rfl, rfl, .inl ⟨_, rfl, _, _, rfl, rfl, (by show (0 : Int) < 2305843009213693921; decide), ?_⟩⟩
    refine ⟨(by show 3 ≤ sizeLine; decide), fun l hln => ?_⟩
    refine k l _ (fun b o q => same_new hln _ b o (g b o q)) (g.free hln) ?_
    refine ⟨_, _, 0, upd_same, ?_, ?_, Int.le_refl 0, Int.le_refl 0⟩
    · exact Int.emod_nonneg _ (by decide)
    · exact Int.lt_trans (Int.emod_lt_of_pos _ (by decide)) (by decide)
end
end Fp
namespace Fp
open PySem PySem.Spec PyProof.Rows L2
section
variable {P : Program} {w : World} {K : PySem.W.Frag} {mg : Str → Option Value} {base : Heap} {f : Addr} {fd : FuncData} {C : Addr}
abbrev s_law_int : Stmt := top 29
theorem sc_law_int : FnScope ["value", "low", "high"] ["value", "low", "high"] (defScope s_law_int) := ⟨rfl, rfl, rfl, by decide +kernel, rfl, by decide +kernel, by decide +kernel⟩
theorem ok_law_int (F : Fun K "_law_int" "_law_int" s_law_int f fd) (T : PTx mg) : FnOk P w K mg base CX0 1 f fd ["value", "low", "high"] spLInt := by
  refine F.ok sc_law_int (fun vs H Q E h => ?_) (fun cdv A outer s H vs Q E hr h => ?_)
  · obtain ⟨x, a, b, rfl, _⟩ := h
    rfl
  obtain ⟨x, a, b, rfl, h1, h2, q⟩ := h
  refine ⟨_, (pss_one (ps_ret (pe_and (pe_callB call_isi rfl T.isinstance (by decide +kernel) (pa_cons (pv 0) (pa_cons (pe_bltn (v := .ty "int") rfl T.int boot_int rfl) pa_nil))) (pe_and (pe_not (pe_callB call_isi rfl T.isinstance (by decide +kernel) (pa_cons (pv 0) (pa_cons (pe_bltn (v := .ty "bool") rfl T.bool boot_bool rfl) pa_nil)))) (pe_one (pe_chain op_le op_le (pv 1) (pv 0) (pv 2))))))), ?_⟩
  refine ⟨_, rfl, _, _, _, _, true, rfl, .ty "int", .base (.int x), by first | rfl | decide +kernel | kernel_rfl, _, rfl, iteT ⟨_, rfl, _, _, _, _, false, rfl, .ty "bool", .base (.int x), by first | rfl | decide +kernel | kernel_rfl, _, rfl, _, rfl, iteT ?_⟩⟩
  refine ⟨_, rfl, _, rfl, _, _, rfl, rfl, _, rfl, ite_yes (decide_eq_true h1) ⟨_, rfl, _, _, rfl, rfl, ?_⟩⟩
  show Q (.bl (decide (x ≤ b))) H
  rw [decide_eq_true h2]
  exact q
abbrev s_law_fresh : Stmt := top 30
theorem sc_law_fresh : FnScope ["many"] ["many"] (defScope s_law_fresh) := ⟨rfl, rfl, rfl, by decide +kernel, rfl, by decide +kernel, by decide +kernel⟩
theorem ok_law_fresh (F : Fun K "_law_fresh" "_law_fresh" s_law_fresh f fd) : FnOk P w K mg base CX0 1 f fd ["many"] spSFresh := by
  refine F.ok sc_law_fresh (fun vs H Q E h => ?_) (fun cdv A outer s H vs Q E hr h => ?_)
  · obtain ⟨n, rfl, _⟩ := h
    rfl
  obtain ⟨n, rfl, h1, h5, k⟩ := h
  refine ⟨_, (pss_one (ps_ret (pe_disp (pps_cons pe_str (pv 0) (pps_cons pe_str (pe_op op_rep (pe_lst (pa_cons pe_non pa_nil)) (pv 0)) (pps_cons pe_str (pe_op op_rep (pe_lst (pa_cons pe_bl pa_nil)) (pv 0)) (pps_cons pe_str (pe_op op_rep (pe_lst (pa_cons pe_non pa_nil)) (pv 0)) pps_nil)))) (by rfl) (by rfl) (by simp) (by decide)))), ?_⟩
  have rep : ∀ (H1 : Hp) (v : V) (Q1 : V → Hp → Prop), (∀ l H', Same H1 H' → H1 l = none → H' l = some (.lst (List.replicate n v)) → Q1 (.ref l) H') → tOp rRep (tLst (tCons (tC v) tNil)) (tVar 0) [some (.int n)] H1 Q1 := by
    intro H1 v Q1 hq
    refine ⟨szl (by show 1 ≤ _; decide), fun t nt => ⟨_, rfl, t, n, [v], rfl, rfl, upd_same, by omega, by omega, szl (by show 1 * _ ≤ _; omega), fun l nl => ?_⟩⟩
    refine hq l _ ((same_new nt _).trans (same_new nl _)) ((same_new nt _).free nl) ?_
    rw [upd_same]
    simp
  refine fun o no => ⟨_, rfl, ?_⟩
  refine rep _ _ _ fun l1 H1 g1 n1 h1 => rep _ _ _ fun l2 H2 g2 n2 h2 => rep _ _ _ fun l3 H3 g3 n3 h3 => ?_
  have g0 := same_new no (.dK [])
  have ho5 : H3 o = some (.dK []) := g3 _ _ (g2 _ _ (g1 _ _ upd_same))
  refine ⟨ho5, sdict n l1 l2 l3, rfl, by show 4 ≤ 15; decide, ?_⟩
  rw [st_merge]
  have gs : Same H (upd H3 o (.dK (sdict n l1 l2 l3))) := fun a u e => by
    rw [upd_ne (ne_of_none e no)]; exact g3 _ _ (g2 _ _ (g1 _ _ (g0 _ _ e)))
  have ol : ∀ {l : Addr} {xs : List V}, H3 l = some (.lst xs) → l ≠ o := fun h z => by rw [z, ho5] at h; cases h
  have a1 := g3 _ _ (g2 _ _ h1)
  have a2 := g3 _ _ h2
  have m2 : H l2 = none := g0.free (g1.free n2)
  have m3 : H l3 = none := g0.free (g1.free (g2.free n3))
  have d12 : l1 ≠ l2 := ne_of_none h1 n2
  have d13 : l1 ≠ l3 := ne_of_none (g2 _ _ h1) n3
  have d23 : l2 ≠ l3 := ne_of_none h2 n3
  have hn : (LS.new n).n = n := by simp [LS.new, LS.n]
  refine k o [o, l1, l2, l3] _ gs (fun x hx => ?_) ⟨l1, l2, l3, List.replicate n .non, rfl, by rw [upd_same, hn], ?_, ?_, by rw [upd_ne (ol h3)]; exact h3, pr_rep (show ViewAt _ .non none from rfl) n, ?_⟩
  · simp only [List.mem_cons, List.not_mem_nil, or_false] at hx
    rcases hx with rfl | rfl | rfl | rfl
    · exact no
    · exact g0.free n1
    · exact m2
    · exact m3
  · rw [upd_ne (ol a1), a1]; show _ = some (HO.lst ((List.replicate n (none : Lv)).map lvV)); rw [List.map_replicate]; rfl
  · rw [upd_ne (ol a2), a2]; show _ = some (HO.lst ((List.replicate n false).map V.bl)); rw [List.map_replicate]
  · simp only [List.nodup_cons, List.mem_cons, List.not_mem_nil, or_false, not_or, not_false_eq_true, List.nodup_nil, and_true]
    exact ⟨⟨(ol a1).symm, (ol a2).symm, (ol h3).symm⟩, ⟨d12, d13⟩, d23⟩
abbrev s_law_next : Stmt := top 31
theorem sc_law_next : FnScope ["stair", "hand", "shown"] ["stair", "hand"] (defScope s_law_next) := ⟨rfl, rfl, rfl, by decide +kernel, rfl, by decide +kernel, by decide +kernel⟩
theorem ok_law_next (F : Fun K "_law_next" "_law_next" s_law_next f fd) : FnOk P w K mg base CX0 1 f fd ["stair", "hand"] spSNext := by
  refine F.ok sc_law_next (fun vs H Q E h => ?_) (fun cdv A outer s0 H vs Q E hr h => ?_)
  · obtain ⟨o, L, p, s, rfl, _⟩ := h
    rfl
  obtain ⟨o, L, p, s, rfl, hS, W, hp, k⟩ := h
  refine ⟨_, (pss_cons (ps_if (pt_cmpR op_notN (pe_ix ix_list (pe_dget (hu_of hr) (pv 0) pe_str (fun _ _ => rfl)) (pv 1) (fun _ _ => rfl)) pe_non (nomark _)) (pss_one (ps_ret pe_non)) pss_nil)
  (pss_cons (ps_set (i := 2) sc_law_next.nd rfl (Or.inl rfl) (pe_ix ix_list (pe_dget (hu_of hr) (pv 0) pe_str (fun _ _ => rfl)) (pv 1) (fun _ _ => rfl)))
  (pss_one (ps_ret (pe_ifExp (pt_val (pe_ix ix_list (pe_dget (hu_of hr) (pv 0) pe_str (fun _ _ => rfl)) (pv 1) (fun _ _ => rfl))) (pe_tup (pa_cons pe_str pa_nil)) (pe_tup (pa_cons pe_str (pa_cons (pe_op op_sub (pe_ifExp (pt_cmpR op_isN (pv 2) pe_non (nomark _)) (pe_op op_add (pe_dget (hu_of hr) (pv 0) pe_str (fun _ _ => rfl)) pe_int) (pv 2)) pe_int) pa_nil)))))))), ?_⟩
  obtain ⟨l1, l2, l3, vv, rfl, D⟩ := hS
  obtain ⟨xv, hxv, ov⟩ := pr_at D.vwP (show s.vw[p]? = some (s.vi p) from getD_at (by rw [W.lw]; exact hp))
  refine ⟨_, rfl, o, _, rfl, sg_views D.dict, _, rfl, l3, _, _, _, rfl, rfl, .of D.views, atI_nat hxv, rfl, _, rfl, ?_⟩
  rw [ov.is]
  unfold LS.next at k
  cases hv : s.vi p with
  | some v => rw [hv] at k; exact iteT (k _ _ (.refl _) rfl)
  | none =>
    rw [hv] at k
    refine iteF ?_
    have hlev : (s.lev.map lvV)[p]? = some (lvV (s.lv p)) := by rw [List.getElem?_map, show s.lev[p]? = some (s.lv p) from getD_at hp]; rfl
    refine ⟨_, rfl, o, _, rfl, sg_shown D.dict, _, rfl, l1, _, _, _, rfl, rfl, .of D.shown, atI_nat hlev, ?_⟩
    have hlk : (s.lk.map V.bl)[p]? = some (.bl (s.lo p)) := by
      have hl : p < s.lk.length := by rw [W.ll]; exact hp
      rw [List.getElem?_map, List.getElem?_eq_getElem hl]
      unfold LS.lo
      rw [List.getD_eq_getElem?_getD, List.getElem?_eq_getElem hl]; rfl
    refine ⟨_, rfl, o, _, rfl, sg_looks D.dict, _, rfl, l2, _, _, _, rfl, rfl, .of D.looks, atI_nat hlk, _, rfl, ?_⟩
    cases hk : s.lo p with
    | true =>
      rw [hk] at k
      refine iteT ⟨szl (by show 1 ≤ _; decide), fun t nt => ?_⟩
      exact k _ _ (same_new nt _) ⟨t, rfl, upd_same⟩
    | false =>
      rw [hk] at k
      refine iteF ?_
      refine ⟨_, rfl, rfl, _, rfl, ?_⟩
      cases hl : s.lv p with
      | none =>
        rw [hl] at k
        refine iteT ⟨_, rfl, o, _, rfl, sg_many D.dict, _, _, rfl, rfl, _, _, rfl, rfl, szl (by show 2 ≤ _; decide), fun t nt => ?_⟩
        refine k _ _ (same_new nt _) ⟨t, rfl, ?_⟩
        rw [upd_same]
        show some (HO.tup [.str "write", .int (((s.n : Nat) : Int) + 1 - 1)]) = some (HO.tup [.str "write", .int (s.n : Nat)])
        rw [show ((s.n : Nat) : Int) + 1 - 1 = (s.n : Nat) by omega]
      | some x =>
        rw [hl] at k
        refine iteF ⟨_, rfl, _, _, rfl, rfl, szl (by show 2 ≤ _; decide), fun t nt => ?_⟩
        exact k _ _ (same_new nt _) ⟨t, rfl, upd_same⟩
end
end Fp
namespace Fp
open PySem PySem.Spec PyProof.Rows L2
theorem StIn.same {H H' : Hp} {o l1 l2 l3 : Addr} {s : LS} {vv : List V} (h : StIn H o l1 l2 l3 s vv) (g : Same H H') : StIn H' o l1 l2 l3 s vv :=
  ⟨g _ _ h.dict, g _ _ h.shown, g _ _ h.looks, g _ _ h.views, pr_imp (fun _ _ => ViewAt.mono (.of g)) h.vwP, h.nd⟩
section
variable {P : Program} {w : World} {K : PySem.W.Frag} {mg : Str → Option Value} {base : Heap} {f : Addr} {fd : FuncData} {C : Addr}
abbrev s_law_step : Stmt := top 32
theorem sc_law_step : FnScope ["stair", "hand", "kind", "shown", "below", "at", "level"] ["stair", "hand"] (defScope s_law_step) := ⟨rfl, rfl, rfl, by decide +kernel, rfl, by decide +kernel, by decide +kernel⟩
theorem ok_law_step (F : Fun K "_law_step" "_law_step" s_law_step f fd) (T : PTx mg) (G_law_next : Fd P w K mg base CX0 "_law_next" 1 ["stair", "hand"] spSNext) : FnOk P w K mg base CX0 2 f fd ["stair", "hand"] (spSStep K) := by
  refine F.ok sc_law_step (fun vs H Q E h => ?_) (fun cdv A outer s0 H vs Q E hr h => ?_)
  · obtain ⟨o, L, p, s, rfl, _⟩ := h
    rfl
  obtain ⟨o, L, p, s, rfl, hS, W, hp, hnx, k⟩ := h
  refine ⟨_, (pss_cons (ps_asg (pe_tup (pa_cons (pe_ix ix_tup (pe_fd G_law_next (hr.mono (by first | decide | omega)) rfl (pa_cons (pv 0) (pa_cons (pv 1) pa_nil))) pe_int (fun _ _ => rfl)) (pa_cons (pe_dget (hu_of hr) (pv 0) pe_str (fun _ _ => rfl)) pa_nil))) (pg_tup rfl (pgs_cons (pg_name (i := 2) sc_law_step.nd rfl (Or.inl rfl)) (pgs_cons (pg_name (i := 3) sc_law_step.nd rfl (Or.inr rfl)) pgs_nil))))
  (pss_cons (ps_if (pt_cmpR op_eq (pv 2) pe_str (nomark _)) (pss_cons (ps_asg (pe_ix ix_tup (pe_fd G_law_next (hr.mono (by first | decide | omega)) rfl (pa_cons (pv 0) (pa_cons (pv 1) pa_nil))) pe_int (fun _ _ => rfl)) (pg_sub (pv 3) (pv 1) set_list))
  (pss_cons (ps_asg pe_bl (pg_sub (pe_dget (hu_of hr) (pv 0) pe_str (fun _ _ => rfl)) (pv 1) set_list))
  (pss_one (ps_ret (pe_tup (pa_cons (pv 1) (pa_cons pe_str (pa_cons (pe_ix ix_listK (pv 3) (pv 1) (fun _ _ => rfl)) pa_nil)))))))) pss_nil)
  (pss_cons (ps_set (i := 4) sc_law_step.nd rfl (Or.inl rfl) (pe_callTy call_tuple_of rfl T.tuple (by decide +kernel) (pa_cons (pe_lc (own := [("at", 5), ("level", 6)]) (g := (gTup K 2 (gCons (gName 5) (gCons (gName 6) gNil))))  rfl sc_law_step.nd (pi_enum rfl T.enumerate (pa_cons (pv 3) pa_nil)) (blkOk_by (own := [("at", 5), ("level", 6)]) (N := ["stair", "hand", "kind", "shown", "below", "at", "level"]) (sc := defScope s_law_step) (by decide +kernel)) (fun _ _ _ _ _ => (pg_tup rfl (pgs_cons (pg_name (i := 5) sc_law_step.nd rfl (Or.inl rfl)) (pgs_cons (pg_name (i := 6) sc_law_step.nd rfl (Or.inl rfl)) pgs_nil)))) (fun _ _ _ _ _ => (pts_one (PW.pt (pw_and (pt_cmpR op_notN (pv 6) pe_non (nomark _)) (pw_and1 (pt_cmpR op_le (pv 6) (pe_ix ix_listK (pv 3) (pv 1) (fun _ _ => rfl)) (nomark _))))))) (fun _ _ _ _ _ => (pv 5))) pa_nil)))
  (pss_cons (ps_asg pe_bl (pg_sub (pe_dget (hu_of hr) (pv 0) pe_str (fun _ _ => rfl)) (pv 1) set_list))
  (pss_cons (ps_if (pt_cmpR op_ge (pe_callB call_len rfl T.len (by decide +kernel) (pa_cons (pv 4) pa_nil)) (pe_ix ix_listK (pv 3) (pv 1) (fun _ _ => rfl)) (nomark _)) (pss_one (ps_asg (pv 4) (pg_sub (pe_dget (hu_of hr) (pv 0) pe_str (fun _ _ => rfl)) (pv 1) set_list))) pss_nil)
  (pss_one (ps_ret (pe_tup (pa_cons (pv 1) (pa_cons pe_str (pa_cons (pe_callTy call_tuple_of rfl T.tuple (by decide +kernel) (pa_cons (pv 3) pa_nil)) pa_nil))))))))))), ?_⟩
  obtain ⟨l1, l2, l3, vv, rfl, D⟩ := hS
  have nd := D.nd
  simp only [List.nodup_cons, List.mem_cons, List.not_mem_nil, or_false, not_or, not_false_eq_true, List.nodup_nil, and_true] at nd
  obtain ⟨⟨o1, o2, o3⟩, ⟨d12, d13⟩, d23⟩ := nd
  have n5 := W.n5
  have hvl : vv.length = s.n := by rw [pr_len D.vwP, W.lw]
  have hvi : s.vi p = none := Classical.byContradiction fun z => hnx (LS.next_none.mpr z)
  have hkl : p < s.lk.length := by rw [W.ll]; exact hp
  refine ⟨_, rfl, _, rfl, o, _, p, s, rfl, ⟨l1, l2, l3, vv, rfl, D⟩, W, hp, fun y H1 g1 hy => ?_⟩
  obtain ⟨du, hdu⟩ : ∃ du, s.next p = some du := by
    cases q : s.next p with
    | none => exact absurd q hnx
    | some du => exact ⟨du, rfl⟩
  rw [hdu] at hy
  cases du with
  | wr l =>
    have estep : s.step p = s.wrote p l := by simp only [LS.step, hdu]
    obtain ⟨ty, rfl, hty⟩ := hy
    have D1 := D.same g1
    refine ⟨ty, _, _, _, rfl, rfl, .of hty, atI_nat (j := 0) rfl, _, rfl, o, _, rfl, sg_shown D1.dict, szl (by show 2 ≤ _; decide), fun tt ntt => ?_⟩
    have g2 := same_new ntt (.tup [.str "write", .ref l1])
    refine ⟨tt, _, rfl, .of upd_same, rfl, _, _, rfl, _, _, rfl, rfl, ?_⟩
    refine ⟨_, rfl, rfl, _, rfl, iteT ?_⟩
    refine ⟨_, rfl, _, rfl, o, _, p, s, rfl, ⟨l1, l2, l3, vv, rfl, D1.same g2⟩, W, hp, fun y H3 g3 hy => ?_⟩
    rw [hdu] at hy
    obtain ⟨ty2, rfl, hty2⟩ := hy
    have D3 := (D1.same g2).same g3
    refine ⟨ty2, _, _, _, rfl, rfl, .of hty2, atI_nat (j := 1) rfl, _, rfl, _, rfl, l1, _, p, p, rfl, rfl, D3.shown, ixn (by rw [List.length_map]; exact hp), ?_⟩
    have e1 : upd H3 l1 (.lst ((s.lev.map lvV).set p (.int l))) l1 = some (.lst ((s.lev.map lvV).set p (.int l))) := upd_same
    refine ⟨_, rfl, o, _, rfl, sg_looks (by rw [upd_ne o1]; exact D3.dict), _, rfl, l2, _, p, p, rfl, rfl, by rw [upd_ne (Ne.symm d12)]; exact D3.looks, ixn (by rw [List.length_map]; exact hkl), ?_⟩
    refine ⟨_, rfl, _, rfl, _, rfl, l1, _, _, .int l, rfl, rfl, .of (by rw [upd_ne d12]; exact e1), atI_nat (by rw [List.getElem?_set, if_pos rfl, if_pos (by rw [List.length_map]; exact hp)]), szl (by show 3 ≤ _; decide), fun t nt => ?_⟩
    have gt := same_new nt (.tup [.int (p : Nat), .str "write", .int l])
    have b0 : But [o, l1, l2, l3] H H3 := .of ((g1.trans g2).trans g3)
    have tk1 := TK.put (u := .lst ((s.lev.map lvV).set p (.int l))) D3.shown (fun z => z)
    have tk2 := TK.put (H := upd H3 l1 (.lst ((s.lev.map lvV).set p (.int l)))) (o := .lst (s.lk.map V.bl)) (u := .lst ((s.lk.map V.bl).set p (.bl true))) (by rw [upd_ne (Ne.symm d12)]; exact D3.looks) (fun z => z)
    have b2 := (b0.put (p := l1) (o := .lst ((s.lev.map lvV).set p (.int l))) (by simp)).put (p := l2) (o := .lst ((s.lk.map V.bl).set p (.bl true))) (by simp)
    refine k t _ _ (b2.trans (.of gt)) (StAt.same ⟨l1, l2, l3, vv, rfl, ?_⟩ gt) (by rw [estep]; rfl) (fun H' g => .tup (.of (g.t upd_same)) (.cons (.int _) (.cons (.str _) (.cons (.int _) .nil))))
    have en : (s.step p).n = s.n := LS.n_step
    rw [estep] at en ⊢
    refine ⟨by rw [upd_ne o2, upd_ne o1, en]; exact D3.dict, ?_, ?_, by rw [upd_ne (Ne.symm d23), upd_ne (Ne.symm d13)]; exact D3.views, pr_imp (fun _ _ => ViewAt.mono (tk1.trans tk2)) D3.vwP, D.nd⟩
    · rw [upd_ne d12, upd_same]; show _ = some (HO.lst ((s.lev.set p (some l)).map lvV)); rw [List.map_set]; rfl
    · rw [upd_same]; show _ = some (HO.lst ((s.lk.set p true).map V.bl)); rw [List.map_set]
  | look =>
    have estep : s.step p = s.looked p := by simp only [LS.step, hdu]
    obtain ⟨ty, rfl, hty⟩ := hy
    have D1 := D.same g1
    have hlo : s.lo p = true := by
      unfold LS.next at hdu
      rw [hvi] at hdu
      cases q : s.lo p with
      | true => rfl
      | false => rw [q] at hdu; cases hdu
    obtain ⟨x, hx⟩ : ∃ x, s.lv p = some x := by
      cases q : s.lv p with
      | none => exact absurd q (W.lkl p hlo)
      | some x => exact ⟨x, rfl⟩
    have ho : s.own p = x := by unfold LS.own; rw [hx]; rfl
    have hlev : (s.lev.map lvV)[p]? = some (.int x) := by rw [List.getElem?_map, show s.lev[p]? = some (s.lv p) from getD_at hp, hx]; rfl
    refine ⟨ty, _, _, _, rfl, rfl, .of hty, atI_nat (j := 0) rfl, _, rfl, o, _, rfl, sg_shown D1.dict, szl (by show 2 ≤ _; decide), fun tt ntt => ?_⟩
    have g2 := same_new ntt (.tup [.str "look", .ref l1])
    refine ⟨tt, _, rfl, .of upd_same, rfl, _, _, rfl, _, _, rfl, rfl, ?_⟩
    refine ⟨_, rfl, rfl, _, rfl, iteF ?_⟩
    have D2 := D1.same g2
    refine ⟨_, rfl, l1, _, rfl, .of D2.shown, fun D0 hD0 => ?_⟩
    have hll : (s.lev.map lvV).length = s.n := by rw [List.length_map]; rfl
    refine lc_it (walk_enum (xs := s.lev.map lvV)) (fun i H' => Same _ H' ∧ H' D0 = some (.lst (natV ((List.range i).filter fun q => LS.le (s.lv q) x)))) ⟨same_new hD0 _, upd_same⟩ (fun i H' _ z => .of (z.1 _ _ D2.shown)) ?_ ?_
    · rintro i y0 H3 H4 hi ⟨g3, h3⟩ ⟨T', i0, y, rfl, hT, rfl, ei, hy⟩
      cases ei
      have hi' : i < s.n := by rw [← hll]; exact hi
      have hy : (s.lev.map lvV)[i]? = some y := hy
      have ey : y = lvV (s.lv i) := by
        rw [List.getElem?_map, show s.lev[i]? = some (s.lv i) from getD_at hi'] at hy
        exact (Option.some.inj hy).symm
      subst ey
      have g4 := same_new hT (.tup [.int (i : Nat), lvV (s.lv i)])
      refine ⟨T', _, rfl, .of upd_same, rfl, _, _, rfl, _, _, rfl, rfl, rfl, ?_⟩
      have es : List.range (i + 1) = List.range i ++ [i] := List.range_succ
      have no : LS.le (s.lv i) x = false → Same _ (upd H3 T' (.tup [.int (i : Nat), lvV (s.lv i)])) ∧ upd H3 T' (.tup [.int (i : Nat), lvV (s.lv i)]) D0 = some (.lst (natV ((List.range (i + 1)).filter fun q => LS.le (s.lv q) x))) := fun z => by
        refine ⟨g3.trans g4, ?_⟩
        rw [es, List.filter_append]
        simp only [List.filter_cons, z, List.filter_nil, List.append_nil, Bool.false_eq_true, if_false]
        exact g4 _ _ h3
      refine ⟨_, rfl, rfl, _, rfl, ?_⟩
      cases hli : s.lv i with
      | none =>
        refine ite_no rfl ?_
        have := no (by rw [hli]; rfl)
        rw [hli] at this; exact this
      | some z =>
        rw [hli] at no g4
        refine ite_yes rfl ⟨_, rfl, _, rfl, _, rfl, l1, _, _, _, rfl, rfl, .of (g4 _ _ (g3 _ _ D2.shown)), atI_nat hlev, _, _, rfl, rfl, _, rfl, ?_⟩
        refine ite2 (fun w => ?_) (fun w => ?_)
        · refine ⟨_, rfl, _, g4 _ _ h3, szt ?_, fun o u hq => ?_, ?_⟩
          · unfold natV
            rw [List.length_map]
            have := List.length_filter_le (fun q => LS.le (s.lv q) x) (List.range i)
            rw [List.length_range] at this
            omega
          · rw [upd_ne (ne_of_none hq hD0)]; exact g4 _ _ (g3 _ _ hq)
          · rw [upd_same, es, List.filter_append]
            have wl : LS.le (s.lv i) x = true := by rw [hli]; exact w
            simp only [List.filter_cons, wl, if_true, List.filter_nil]
            unfold natV
            rw [List.map_append]
            rfl
        · have wl : LS.le (some z) x = false := by
            show decide (z ≤ x) = false
            simpa using w
          exact no wl
    rintro H3 ⟨g3, h3⟩
    rw [hll] at h3
    have h3 : H3 D0 = some (.lst (natV (s.below x))) := h3
    refine ⟨D0, _, rfl, .inl ⟨.of h3, fun bt nbt => ?_⟩⟩
    have gb := same_new nbt (.tup (natV (s.below x)))
    have hbt : upd H3 bt (.tup (natV (s.below x))) bt = some (.tup (natV (s.below x))) := upd_same
    have D4 := (D2.same g3).same gb
    have b4 : But [o, l1, l2, l3] H (upd H3 bt (.tup (natV (s.below x)))) := .of (((g1.trans g2).trans g3).trans gb)
    generalize upd H3 bt (.tup (natV (s.below x))) = H4 at hbt D4 b4
    refine ⟨_, rfl, o, _, rfl, sg_looks D4.dict, _, rfl, l2, _, p, p, rfl, rfl, D4.looks, ixn (by rw [List.length_map]; exact hkl), ?_⟩
    have tk5 := TK.put (u := .lst ((s.lk.map V.bl).set p (.bl false))) D4.looks (fun z => z)
    have b5 := b4.put (p := l2) (o := .lst ((s.lk.map V.bl).set p (.bl false))) (by simp)
    have e5 : upd H4 l2 (.lst ((s.lk.map V.bl).set p (.bl false))) l2 = some (.lst ((s.lk.map V.bl).set p (.bl false))) := upd_same
    have c5 : ∀ {l : Addr} {u : HO}, l ≠ l2 → H4 l = some u → upd H4 l2 (.lst ((s.lk.map V.bl).set p (.bl false))) l = some u := fun ne h => by rw [upd_ne ne]; exact h
    have f5 := c5 o2 D4.dict
    have s5 := c5 d12 D4.shown
    have v5 := c5 (Ne.symm d23) D4.views
    have w5 := pr_imp (fun _ _ => ViewAt.mono tk5) D4.vwP
    have t5 := tk5.t hbt
    generalize upd H4 l2 (.lst ((s.lk.map V.bl).set p (.bl false))) = H5 at tk5 b5 e5 f5 s5 v5 w5 t5
    refine ⟨_, rfl, _, (s.below x).length, rfl, (show LenV K (.ref bt) H5 (s.below x).length from .inr ⟨_, .of t5, (natL _).symm⟩), _, rfl, _, rfl, l1, _, _, _, rfl, rfl, .of s5, atI_nat hlev, _, _, rfl, rfl, _, rfl, ?_⟩
    have en : (s.step p).n = s.n := LS.n_step
    -- the end: views told
    have fin : ∀ (vv' : List V) (H6 : Hp), But [o, l1, l2, l3] H H6 → H6 o = some (.dK (sdict (s.n : Nat) l1 l2 l3)) → H6 l1 = some (.lst (s.lev.map lvV)) → H6 l2 = some (.lst ((s.lk.map V.bl).set p (.bl false))) → H6 l3 = some (.lst vv') → Paired (ViewAt H6) vv' (s.vw.set p (s.seen p)) → ∀ σ : L2.St, σ[1]? = some (some (.int (p : Nat))) → σ[3]? = some (some (.ref l1)) → True := fun _ _ _ _ _ _ _ _ _ _ _ => trivial
    clear fin
    have fin : ∀ (vv' : List V) (H6 : Hp) (r t : Addr), But [o, l1, l2, l3] H H6 → H6 o = some (.dK (sdict (s.n : Nat) l1 l2 l3)) → H6 l1 = some (.lst (s.lev.map lvV)) → H6 l2 = some (.lst ((s.lk.map V.bl).set p (.bl false))) → H6 l3 = some (.lst vv') → Paired (ViewAt H6) vv' (s.vw.set p (s.seen p)) → H6 r = none → upd H6 r (.tup (s.lev.map lvV)) t = none → Q (.ref t) (upd (upd H6 r (.tup (s.lev.map lvV))) t (.tup [.int (p : Nat), .str "look", .ref r])) := by
      intro vv' H6 r t b6 f6 s6 k6 v6 w6 nr nt
      have gr := same_new nr (.tup (s.lev.map lvV))
      have gt := same_new nt (.tup [.int (p : Nat), .str "look", .ref r])
      have hr' : upd (upd H6 r (.tup (s.lev.map lvV))) t (.tup [.int (p : Nat), .str "look", .ref r]) r = some (.tup (s.lev.map lvV)) := gt _ _ upd_same
      refine k t _ _ (b6.trans (.of (gr.trans gt))) (StAt.same ⟨l1, l2, l3, vv', rfl, ?_⟩ (gr.trans gt)) (by rw [estep]; rfl) (fun H' g => .tup (.of (g.t upd_same)) (.cons (.int _) (.cons (.str _) (.cons (.tup (.of (g.t hr')) (lv_dp s.lev)) .nil))))
      rw [estep] at en ⊢
      refine ⟨by rw [en]; exact f6, s6, ?_, v6, w6, D.nd⟩
      rw [k6]; show _ = some (HO.lst ((s.lk.set p false).map V.bl)); rw [List.map_set]
    have hseen : s.seen p = if x ≤ (s.below x).length then some (s.below x) else none := by unfold LS.seen; rw [ho]
    refine ite2 (fun z => ?_) (fun z => ?_)
    · have z' := of_decide_eq_true z
      rw [if_pos (by omega)] at hseen
      refine ⟨_, rfl, _, rfl, o, _, rfl, sg_views f5, _, rfl, l3, _, p, p, rfl, rfl, v5, ixn (by rw [hvl]; exact hp), ?_⟩
      have tk6 := TK.put (u := .lst (vv.set p (.ref bt))) v5 (fun z => z)
      refine ⟨_, rfl, _, rfl, l1, _, rfl, .inl ⟨.of (by rw [upd_ne d13]; exact s5), fun r nr => ?_⟩⟩
      refine ⟨szl (by show 3 ≤ _; decide), fun t nt => ?_⟩
      refine fin (vv.set p (.ref bt)) _ r t (b5.put (by simp)) (by rw [upd_ne o3]; exact f5) (by rw [upd_ne d13]; exact s5) (by rw [upd_ne d23]; exact e5) upd_same ?_ nr nt
      rw [hseen]
      exact pr_set (show ViewAt _ (.ref bt) (some (s.below x)) from ⟨bt, rfl, tk6.tt (.inl t5)⟩) p (pr_imp (fun _ _ => ViewAt.mono tk6) w5)
    · have z' : ¬ (x ≤ (s.below x).length) := fun y => z (decide_eq_true (by omega))
      rw [if_neg z'] at hseen
      refine ⟨_, rfl, _, rfl, l1, _, rfl, .inl ⟨.of s5, fun r nr => ?_⟩⟩
      refine ⟨szl (by show 3 ≤ _; decide), fun t nt => ?_⟩
      refine fin vv H5 r t b5 f5 s5 e5 v5 ?_ nr nt
      rw [hseen, LS.set_same W hp hvi]
      exact w5
end
end Fp
namespace Fp
open PySem PySem.Spec PyProof.Rows L2
section
variable {P : Program} {w : World} {K : PySem.W.Frag} {mg : Str → Option Value} {base : Heap} {f : Addr} {fd : FuncData} {C : Addr}
abbrev s_law_woven : Stmt := top 33
theorem sc_law_woven : FnScope ["stair", "weaving", "found", "hand"] ["stair", "weaving"] (defScope s_law_woven) := ⟨rfl, rfl, rfl, by decide +kernel, rfl, by decide +kernel, by decide +kernel⟩
theorem ok_law_woven (F : Fun K "_law_woven" "_law_woven" s_law_woven f fd) (T : PTx mg) (G_law_next : Fd P w K mg base CX0 "_law_next" 1 ["stair", "hand"] spSNext) (G_law_step : Fd P w K mg base CX0 "_law_step" 2 ["stair", "hand"] (spSStep K)) : FnOk P w K mg base CX0 3 f fd ["stair", "weaving"] (spSWoven K) := by
  refine F.ok sc_law_woven (fun vs H Q E h => ?_) (fun cdv A outer s0 H vs Q E hr h => ?_)
  · obtain ⟨o, a, L, ws, s, rfl, _⟩ := h
    rfl
  obtain ⟨o, a, L, ws, s, rfl, hS, W, ha, hws, hwl, k⟩ := h
  refine ⟨_, (pss_cons (ps_set (i := 2) sc_law_woven.nd rfl (Or.inl rfl) (pe_lst pa_nil))
  (pss_cons (ps_for PassesOwn.never rfl (pi_tup (pv 1)) (pg_name (i := 3) sc_law_woven.nd rfl (Or.inl rfl)) (pss_one (ps_expr (pe_bm PySem.F.plainAttrs_list PySem.F.slot_list_extend PySem.F.type_list_extend mt_extend (pv 2) (pa_cons (pe_ifExp (pt_cmpR op_notN (pe_fd G_law_next (hr.mono (by first | decide | omega)) rfl (pa_cons (pv 0) (pa_cons (pv 3) pa_nil))) pe_non (nomark _)) (pe_lst (pa_cons (pe_fd G_law_step (hr.mono (by first | decide | omega)) rfl (pa_cons (pv 0) (pa_cons (pv 3) pa_nil))) pa_nil)) (pe_lst pa_nil)) pa_nil)))))
  (pss_one (ps_ret (pe_callTy call_tuple_of rfl T.tuple (by decide +kernel) (pa_cons (pv 2) pa_nil)))))), ?_⟩
  have hx : ∀ x ∈ L, ∃ u, H x = some u := fun x hx => by
    rcases hS.kind x hx with ⟨xs, e⟩ | ⟨xs, e⟩ <;> exact ⟨_, e⟩
  refine ⟨szl (by decide), fun A0 nA => ?_⟩
  have g0 := same_new nA (.lst [])
  have A0L : A0 ∉ L := fun m => by obtain ⟨u, e⟩ := hx A0 m; rw [nA] at e; cases e
  have tkS : ∀ {H'}, But L H H' → TK H H' := fun g => hS.tk g
  refine ⟨_, rfl, a, rfl, ⟨_, ((TK.of g0).tt ha).sq⟩, ?_⟩
  refine for_tup (K := K) (a := a) (xs := natV ws) (fun i σ H' => ∃ u3, σ = [some (.ref o), some (.ref a), some (.ref A0), u3] ∧ But L H H' ∧ StAt H' o L (s.woven (ws.take i)) ∧ ∃ acc ds, H' A0 = some (.lst acc) ∧ acc.length ≤ i ∧ Paired (SD K H') acc ds ∧ (s.woven (ws.take i)).run = s.run ++ ds)
    ⟨_, rfl, .of g0, hS.same g0, [], [], upd_same, Nat.le_refl _, .nil, by simp [LS.woven]⟩ (fun i σ H' _ z => by obtain ⟨_, _, b1, _⟩ := z; exact ((tkS b1).tt ha).sq) ?_ ?_
  · rintro i x σ H' hx' ⟨u3, rfl, b1, Si, acc, ds, hA, hl, hp, er⟩
    obtain ⟨p, hpp, rfl⟩ := natV_get hx'
    have hi := get_lt hpp
    have hps : p < s.n := hws p (List.mem_of_getElem? hpp)
    have Wi : (s.woven (ws.take i)).WF := LS.wf_woven W fun q hq => hws q (List.mem_of_mem_take hq)
    have hpn : p < (s.woven (ws.take i)).n := by rw [LS.n_woven]; exact hps
    have es : s.woven (ws.take (i + 1)) = (s.woven (ws.take i)).step p := by rw [List.take_succ, hpp]; exact LS.woven_snoc _ _
    rw [es]
    have put : ∀ {H2 : Hp} {s2 : LS} {xs ys : List V}, StAt H2 o L s2 → H2 A0 = some (.lst xs) → StAt (upd H2 A0 (.lst ys)) o L s2 := fun S2 e =>
      S2.but (S := [A0]) ((But.refl _ _).put (by simp)) (fun x hx => by rw [List.mem_singleton.mp hx]; exact A0L) (TK.put e fun z => z)
    have bput : ∀ {H2 : Hp} {ys : List V}, But L H H2 → But L H (upd H2 A0 (.lst ys)) := fun b c u hc q => by rw [upd_ne (ne_of_none q nA)]; exact b c u hc q
    refine ⟨_, rfl, .inl ⟨rfl, _, .of hA⟩, _, rfl, _, rfl, o, L, p, _, rfl, Si, Wi, hpn, fun y H1 g1 hy => ⟨rfl, _, rfl, ?_⟩⟩
    have S1 := Si.same g1
    have hA1 := g1 _ _ hA
    have hp1 := SDs.mono hp (.of g1)
    cases hn : (s.woven (ws.take i)).next p with
    | none =>
      rw [hn] at hy
      rw [show y = .non from hy]
      refine ite_no rfl ⟨szl (by decide), fun lt nl => ⟨A0, lt, acc, [], rfl, rfl, same_new nl _ _ _ hA1, upd_same, szl (by rw [List.length_nil]; omega), ?_⟩⟩
      rw [LS.step_none hn]
      have gl := same_new nl (.lst [])
      have tk := TK.put (u := .lst (acc ++ [])) (gl _ _ hA1) (fun z => z)
      exact ⟨_, rfl, bput ((b1.trans (.of g1)).trans (.of gl)), put (S1.same gl) (gl _ _ hA1), acc, ds, by rw [upd_same, List.append_nil], by omega, SDs.mono (SDs.mono hp1 (.of gl)) tk, er⟩
    | some du =>
      have hne : (s.woven (ws.take i)).next p ≠ none := by rw [hn]; simp
      have hyn : (!decide (y = .non)) = true := by
        rw [hn] at hy
        cases du with
        | wr l => obtain ⟨t, rfl, _⟩ := hy; rfl
        | look => obtain ⟨t, rfl, _⟩ := hy; rfl
      refine ite_yes hyn ?_
      refine ⟨_, rfl, _, rfl, o, L, p, _, rfl, S1, Wi, hpn, hne, fun t dd H2 b2 S2 er2 sd2 => ⟨szl (by show 1 ≤ _; decide), fun lt nl => ?_⟩⟩
      have gl := same_new nl (.lst [.ref t])
      have hA2 := gl _ _ (b2.at hA1 A0L)
      refine ⟨A0, lt, acc, [.ref t], rfl, rfl, hA2, upd_same, szl (by show acc.length + 1 ≤ _; omega), ?_⟩
      have tk : TK H1 H2 := S1.tk b2
      have tk2 := TK.put (u := .lst (acc ++ [.ref t])) hA2 (fun z => z)
      have tk3 := (TK.of gl).trans tk2
      exact ⟨_, rfl, bput (((b1.trans (.of g1)).trans b2).trans (.of gl)), put (S2.same gl) hA2, acc ++ [.ref t], ds ++ [dd], upd_same, by rw [List.length_append]; exact Nat.succ_le_succ hl, SDs.mono (pr_snoc sd2 (SDs.mono hp1 tk)) tk3, by rw [er2, er, List.append_assoc]⟩
  · rintro σ H' ⟨u3, rfl, b1, Si, acc, ds, hA, hl, hp, er⟩
    rw [natL] at Si hl er
    rw [List.take_length] at Si er
    refine ⟨_, rfl, A0, _, rfl, .inl ⟨.of hA, fun t nt => ?_⟩⟩
    have gt := same_new nt (.tup acc)
    exact k t acc ds _ (b1.trans (.of gt)) (Si.same gt) upd_same (SDs.mono hp (.of gt)) er
abbrev s_law_is_lot_of : Stmt := top 35
theorem sc_law_is_lot_of : FnScope ["value", "many", "one", "other"] ["value", "many"] (defScope s_law_is_lot_of) := ⟨rfl, rfl, rfl, by decide +kernel, rfl, by decide +kernel, by decide +kernel⟩
theorem ok_law_is_lot_of (F : Fun K "_law_is_lot_of" "_law_is_lot_of" s_law_is_lot_of f fd) (T : WTx mg) (G_law_int : Fd P w K mg base CX0 "_law_int" 1 ["value", "low", "high"] spLInt) : FnOk P w K mg base CX0 2 f fd ["value", "many"] spLotOf := by
  refine F.ok sc_law_is_lot_of (fun vs H Q E h => ?_) (fun cdv A outer s H vs Q E hr h => ?_)
  · obtain ⟨a, l, n, rfl, _⟩ := h
    rfl
  obtain ⟨a, l, n, rfl, ha, up, l5, hn, k⟩ := h
  refine ⟨_, (pss_cons (ps_if (PW.pt (pw_or (pt_not (pt_val (pe_callB call_isi rfl T.isinstance (by decide +kernel) (pa_cons (pv 0) (pa_cons (pe_bltn (v := .ty "tuple") rfl T.tuple boot_tuple rfl) pa_nil))))) (pw_or1 (pt_not (pt_val (pe_callB (cr_all rfl) rfl T.all (by decide +kernel) (pa_cons (pe_lc (own := [("one", 2)]) (g := (gName 2)) (tt := tYes) rfl sc_law_is_lot_of.nd (pi_tup (pv 0)) (blkOk_by (own := [("one", 2)]) (N := ["value", "many", "one", "other"]) (sc := defScope s_law_is_lot_of) (by decide +kernel)) (fun _ _ _ _ _ => (pg_name (i := 2) sc_law_is_lot_of.nd rfl (Or.inl rfl))) (fun _ _ _ _ _ => pts_nil) (fun _ _ _ _ _ => (pe_fd G_law_int (hr.mono (by first | decide | omega)) rfl (pa_cons (pv 2) (pa_cons pe_int (pa_cons (pe_op op_sub (pv 1) pe_int) pa_nil)))))) pa_nil))))))) (pss_one (ps_ret pe_bl)) pss_nil)
  (pss_one (ps_ret (pe_callB (cr_all rfl) rfl T.all (by decide +kernel) (pa_cons (pe_lc (own := [("one", 2), ("other", 3)]) (g := (gTup K 2 (gCons (gName 2) (gCons (gName 3) gNil)))) (tt := tYes) rfl sc_law_is_lot_of.nd (RZ.pi_zipA rfl T.zip (pa_cons (pv 0) (pa_cons (pe_slice sl_tupA (pv 0) (po_some pe_int) po_none) pa_nil))) (blkOk_by (own := [("one", 2), ("other", 3)]) (N := ["value", "many", "one", "other"]) (sc := defScope s_law_is_lot_of) (by decide +kernel)) (fun _ _ _ _ _ => (pg_tup rfl (pgs_cons (pg_name (i := 2) sc_law_is_lot_of.nd rfl (Or.inl rfl)) (pgs_cons (pg_name (i := 3) sc_law_is_lot_of.nd rfl (Or.inl rfl)) pgs_nil)))) (fun _ _ _ _ _ => pts_nil) (fun _ _ _ _ _ => (pe_cmpR op_lt (pv 2) (pv 3) (nomark _)))) pa_nil))))), ?_⟩
  refine ⟨_, rfl, _, _, _, _, true, rfl, .ty "tuple", ha.ty, by first | rfl | decide +kernel | kernel_rfl, _, rfl, iteF ?_⟩
  refine ⟨_, rfl, a, rfl, ⟨_, ha.sq⟩, fun D hD => ?_⟩
  refine lc_tup (K := K) (a := a) (xs := natV l) (fun i H' => Same H H' ∧ H' D = some (.lst (trues i))) ⟨same_new hD _, upd_same⟩ (fun i H' _ z => ha.sq.ext z.1) ?_ ?_
  · rintro i x H' hx ⟨g, h⟩
    obtain ⟨p, hp, rfl⟩ := natV_get hx
    have hi := get_lt hp
    have hpn := hn p (List.mem_of_getElem? hp)
    refine ⟨rfl, ?_⟩
    unfold tYes
    refine iteT ?_
    exact ⟨_, rfl, _, rfl, _, _, rfl, rfl, (p : Int), 0, (n : Int) - 1, rfl, by omega, by omega, grow g hD h (by omega)⟩
  rintro H1 ⟨g1, h1⟩
  rw [natL] at h1
  refine ⟨D, _, rfl, .of h1, _, rfl, ?_⟩
  rw [trues_all]
  refine iteF ?_
  have ha1 := (TK.of g1).tt ha
  have n5 : (natV l).length ≤ 5 := by rw [natL]; exact l5
  have fin : ∀ (b : Addr) (H2 : Hp), Same H H2 → SqT K H2 a (natV l) → SqT K H2 b (natV l.tail) → ∀ D2, H2 D2 = none → ∃ W : Nat → Nat → Hp → Prop, (∃ m, W 0 m (upd H2 D2 (.lst []))) ∧ ∀ i m H3, W i m H3 → ((RZ.ItzT K a b).stop i H3 ∧ Same H H3 ∧ H3 D2 = some (.lst (trues l.tail.length))) ∨ ((RZ.ItzT K a b).go i H3 ∧ ∃ Nx : Hp → Prop, (∀ H', Nx H' → ∃ m', m' < m ∧ W (i + 1) m' H') ∧ ∀ x H', (RZ.ItzT K a b).yld i H3 x H' → ∃ (T' : Addr) (p q : Nat), x = .ref T' ∧ p < q ∧ H' T' = some (.tup [.int (p : Nat), .int (q : Nat)]) ∧ ∃ acc, H' D2 = some (.lst acc) ∧ acc.length < sizeLine ∧ Nx (upd H' D2 (.lst (acc ++ [.bl true])))) := by
    intro b H2 g2 sa sb D2 hD2
    have wz := walk_zipT (K := K) (a := a) (b := b) (xs := natV l) (ys := natV l.tail) (n := l.tail.length) (by rw [natL, natL, List.length_tail]; omega)
    refine ⟨fun i m H3 => m = l.tail.length - i ∧ i ≤ l.tail.length ∧ Same H2 H3 ∧ H3 D2 = some (.lst (trues i)), ⟨_, rfl, Nat.zero_le _, same_new hD2 _, upd_same⟩, ?_⟩
    rintro i m H3 ⟨rfl, hi, g3, h3⟩
    by_cases hlt : i < l.tail.length
    · refine .inr ⟨wz.goes i H3 hlt ⟨sa.ext g3, sb.ext g3⟩, fun H4 => i + 1 ≤ l.tail.length ∧ Same H2 H4 ∧ H4 D2 = some (.lst (trues (i + 1))), fun H' z => ⟨l.tail.length - (i + 1), by omega, rfl, z.1, z.2⟩, fun x H' hy => ?_⟩
      obtain ⟨T', x1, x2, rfl, nT, rfl, e1, e2⟩ := wz.yields i H3 x H' hlt ⟨sa.ext g3, sb.ext g3⟩ hy
      have e1 : (natV l)[i]? = some x1 := e1
      have e2 : (natV l.tail)[i]? = some x2 := e2
      obtain ⟨p, hp, rfl⟩ := natV_get e1
      obtain ⟨q, hq, rfl⟩ := natV_get e2
      rw [List.getElem?_tail] at hq
      obtain ⟨hp1, hp2⟩ := List.getElem?_eq_some_iff.mp hp
      obtain ⟨hq1, hq2⟩ := List.getElem?_eq_some_iff.mp hq
      have pq := List.pairwise_iff_getElem.mp up i (i + 1) hp1 hq1 (by omega)
      have g4 := same_new nT (.tup [.int (p : Nat), .int (q : Nat)])
      refine ⟨T', p, q, rfl, by omega, upd_same, trues i, g4 _ _ h3, szt (by rw [trues_len, List.length_tail] at *; omega), hlt, fun o u ho => ?_, ?_⟩
      · rw [upd_ne (ne_of_none ho hD2)]; exact g4 _ _ (g3 _ _ ho)
      · rw [upd_same, trues_snoc]
    · have e : i = l.tail.length := by omega
      subst e
      exact .inl ⟨wz.stops H3 ⟨sa.ext g3, sb.ext g3⟩, g2.trans g3, h3⟩
  have zip : ∀ (b : Addr) (H2 : Hp), Same H H2 → SqT K H2 a (natV l) → SqT K H2 b (natV l.tail) → True := fun _ _ _ _ _ => trivial
  clear zip
  refine ⟨_, rfl, _, rfl, 1, rfl, a, natV l, rfl, ha1.sq, fun z => ?_, fun z b nb => ?_⟩
  · have el : l.tail = l := by
      have hs : HT.sIx (natV l).length 0 (some 1) = min 1 (natV l).length := HT.sIx_nat _ _ 1
      rw [hs] at z
      have : l.length = 0 := by
        have := z.1
        rw [natL] at this
        omega
      rw [List.length_eq_zero_iff.mp this]; rfl
    refine ⟨a, a, natV l, natV l, rfl, .inr ⟨ha1.sq, ha1.sq, fun D2 hD2 => ?_⟩⟩
    obtain ⟨W, w0, wn⟩ := fin a H1 g1 ha1.sq (by rw [el]; exact ha1.sq) D2 hD2
    refine ⟨W, w0, fun i m H3 hw => ?_⟩
    rcases wn i m H3 hw with ⟨s1, s2, s3⟩ | ⟨s1, Nx, s2, s3⟩
    · exact .inl ⟨s1, D2, _, rfl, .of s3, by rw [trues_all]; exact k _ s2⟩
    · refine .inr ⟨s1, Nx, s2, fun x H' hy => ?_⟩
      obtain ⟨T', p, q, rfl, pq, hT, acc, r1, r2, r3⟩ := s3 x H' hy
      refine ⟨T', _, rfl, .of hT, rfl, _, _, rfl, _, _, rfl, rfl, rfl, _, rfl, _, rfl, _, _, rfl, rfl, ?_⟩
      have e := decide_eq_true (show (p : Int) < q by omega)
      refine ⟨acc, r1, r2, ?_⟩
      show Nx (upd H' D2 (.lst (acc ++ [V.bl (decide ((p : Int) < (q : Int)))])))
      rw [e]
      exact r3
  · have ec : cutV (natV l) (some 1) none = natV l.tail := by
      unfold cutV
      have hs : HT.sIx (natV l).length 0 (some 1) = min 1 (natV l).length := HT.sIx_nat _ _ 1
      have hn : HT.sIx (natV l).length (natV l).length none = (natV l).length := rfl
      rw [hs, hn]
      unfold natV
      cases l with
      | nil => rfl
      | cons x r => simp [List.take_of_length_le]
    rw [ec]
    have g2 := same_new nb (.tup (natV l.tail))
    refine ⟨a, b, natV l, natV l.tail, rfl, .inr ⟨ha1.sq.ext g2, .of upd_same, fun D2 hD2 => ?_⟩⟩
    obtain ⟨W, w0, wn⟩ := fin b _ (g1.trans g2) (ha1.sq.ext g2) (.of upd_same) D2 hD2
    refine ⟨W, w0, fun i m H3 hw => ?_⟩
    rcases wn i m H3 hw with ⟨s1, s2, s3⟩ | ⟨s1, Nx, s2, s3⟩
    · exact .inl ⟨s1, D2, _, rfl, .of s3, by rw [trues_all]; exact k _ s2⟩
    · refine .inr ⟨s1, Nx, s2, fun x H' hy => ?_⟩
      obtain ⟨T', p, q, rfl, pq, hT, acc, r1, r2, r3⟩ := s3 x H' hy
      refine ⟨T', _, rfl, .of hT, rfl, _, _, rfl, _, _, rfl, rfl, rfl, _, rfl, _, rfl, _, _, rfl, rfl, ?_⟩
      have e := decide_eq_true (show (p : Int) < q by omega)
      refine ⟨acc, r1, r2, ?_⟩
      show Nx (upd H' D2 (.lst (acc ++ [V.bl (decide ((p : Int) < (q : Int)))])))
      rw [e]
      exact r3
end
end Fp
namespace Fp
open PySem PySem.Spec PyProof.Rows L2
section
variable {P : Program} {w : World} {K : PySem.W.Frag} {mg : Str → Option Value} {base : Heap} {f : Addr} {fd : FuncData} {C : Addr}
abbrev s_law_weaving : Stmt := top 34
theorem sc_law_weaving : FnScope ["pot", "many", "steps", "pool", "found", "lap", "hand", "times"] ["pot", "many", "steps"] (defScope s_law_weaving) := ⟨rfl, rfl, rfl, by decide +kernel, rfl, by decide +kernel, by decide +kernel⟩
theorem ok_law_weaving (F : Fun K "_law_weaving" "_law_weaving" s_law_weaving f fd) (T : LTx mg) (G_law_take : Fd P w K mg base CX0 "_law_take" 1 ["pot", "upto"] spTake) (G_law_of : Fd P w K mg base CX0 "_law_of" 2 ["pot", "some"] (spOf K)) : FnOk P w K mg base CX0 3 f fd ["pot", "many", "steps"] spWvg := by
  refine F.ok sc_law_weaving (fun vs H Q E h => ?_) (fun cdv A outer s0 H vs Q E hr h => ?_)
  · obtain ⟨pt, n, k, m, rfl, _⟩ := h
    rfl
  obtain ⟨pt, n, k, m, rfl, h1, h5, hk, hP, hm, q⟩ := h
  refine ⟨_, (pss_cons (ps_par (i := 3) (j := 4) (by rfl) sc_law_weaving.nd rfl rfl (by decide) rfl rfl (pa_cons (pe_op op_cat (pe_listRg rfl rfl T.list (prg_1 rfl T.range (pv 1))) (pe_op op_rep (pe_lst (pa_cons (pe_fd G_law_take (hr.mono (by first | decide | omega)) rfl (pa_cons (pv 0) (pa_cons (pv 1) pa_nil))) pa_nil)) pe_int)) (pa_cons (pe_lst pa_nil) pa_nil)) (by rfl))
  (pss_cons (ps_for PassesOwn.never rfl (pi_range1 rfl T.range (pa_cons (pv 2) pa_nil)) (pg_name (i := 5) sc_law_weaving.nd rfl (Or.inl rfl)) (pss_cons (ps_par (i := 6) (j := 7) (by rfl) sc_law_weaving.nd rfl rfl (by decide) rfl rfl (pa_cons (pe_fd G_law_of (hr.mono (by first | decide | omega)) rfl (pa_cons (pv 0) (pa_cons (pv 3) pa_nil))) (pa_cons (pe_fd G_law_of (hr.mono (by first | decide | omega)) rfl (pa_cons (pv 0) (pa_cons (pe_lst (pa_cons pe_int (pa_cons pe_int (pa_cons pe_int (pa_cons pe_int pa_nil))))) pa_nil))) pa_nil)) (by rfl))
  (pss_one (ps_expr (pe_bm PySem.F.plainAttrs_list PySem.F.slot_list_extend PySem.F.type_list_extend mt_extend (pv 4) (pa_cons (pe_op op_rep (pe_lst (pa_cons (pv 6) pa_nil)) (pv 7)) pa_nil))))))
  (pss_one (ps_ret (pe_callTy call_tuple_of rfl T.tuple (by decide +kernel) (pa_cons (pe_slice sl_list (pv 4) po_none (po_some (pv 2))) pa_nil)))))), ?_⟩
  refine ⟨_, rfl, n, rfl, .of_le (by omega) (by omega) (by omega) (by omega), fun lr nlr => ?_⟩
  have er : rgV 0 (n : Nat) = natV (List.range n) := by
    unfold rgV natV
    rw [show ((n : Nat) - (0 : Int)).toNat = n by omega]
    exact List.map_congr_left fun i _ => by rw [Int.zero_add]
  rw [er]
  have g1 := same_new nlr (.lst (natV (List.range n)))
  have npr : pt ≠ lr := fun z => hP.ne0 (by rw [z]; exact nlr)
  have hP1 := hP.but (.of (S := []) g1) (by simp)
  refine ⟨_, rfl, _, rfl, pt, n, m, rfl, by omega, by omega, by omega, hP1, fun d H2 hd g2 hP2 => ⟨szl (by show 1 ≤ _; decide), fun ls nls => ?_⟩⟩
  have g3 := same_new nls (.lst [.int (d : Nat)])
  have hlr2 : H2 lr = some (.lst (natV (List.range n))) := g2.at upd_same (by simpa using Ne.symm npr)
  refine ⟨ls, 2, [.int (d : Nat)], rfl, rfl, upd_same, by decide, by decide, szl (by show 1 * 2 ≤ _; decide), fun lx nlx => ?_⟩
  have g4 := same_new nlx (.lst (List.replicate (2 : Int).toNat [V.int (d : Nat)]).flatten)
  have lrn : (natV (List.range n)).length = n := by rw [natL, List.length_range]
  refine ⟨lr, lx, natV (List.range n), _, rfl, rfl, g4 _ _ (g3 _ _ hlr2), upd_same, szl (by rw [lrn]; show n + 2 ≤ _; omega), fun pl npl => ?_⟩
  have epl : natV (List.range n) ++ (List.replicate (2 : Int).toNat [V.int (d : Nat)]).flatten = natV (List.range n ++ [d, d]) := by unfold natV; rw [List.map_append]; rfl
  rw [epl]
  have g5 := same_new npl (.lst (natV (List.range n ++ [d, d])))
  refine ⟨szl (by decide), fun fo nfo => ⟨_, _, rfl, ?_⟩⟩
  have g6 := same_new nfo (.lst [])
  have pool : ∀ x ∈ List.range n ++ [d, d], x < n := fun x hx => by
    simp only [List.mem_append, List.mem_range, List.mem_cons, List.not_mem_nil, or_false] at hx
    omega
  have pll : (natV (List.range n ++ [d, d])).length = n + 2 := by rw [natL, List.length_append, List.length_range]; rfl
  have b6 : But [pt] H _ := ((((But.of g1).trans g2).trans (.of g3)).trans (.of g4)).trans ((But.of g5).trans (.of g6))
  have hP6 := hP2.but (.of (S := []) (((g3.trans g4).trans g5).trans g6)) (by simp)
  have b5 : But [pt] H _ := ((((But.of g1).trans g2).trans (.of g3)).trans (.of g4)).trans (.of g5)
  have hP4 := hP2.but (.of (S := []) (g3.trans g4)) (by simp)
  have hP5 := hP4.but (.of (S := []) g5) (by simp)
  have npl' : pl ≠ pt := fun z => hP4.ne0 (by rw [← z]; exact npl)
  have nfp : fo ≠ pt := fun z => hP5.ne0 (by rw [← z]; exact nfo)
  have nfl : fo ≠ pl := fun z => by rw [z, upd_same] at nfo; cases nfo
  have Hfo : H fo = none := b5.free hP5.ne0 nfo
  have hpl6 := g6 pl (.lst (natV (List.range n ++ [d, d]))) upd_same
  refine ⟨_, rfl, _, rfl, by omega, by omega, for_range (lo := 0) (n := k) (fun i σ H' => ∃ u5 u6 u7 fl, σ = [some (.ref pt), some (.int n), some (.int k), some (.ref pl), some (.ref fo), u5, u6, u7] ∧ But [pt] H H' ∧ H' pl = some (.lst (natV (List.range n ++ [d, d]))) ∧ H' fo = some (.lst (natV fl)) ∧ (∀ p ∈ fl, p < n) ∧ fl.length ≤ 3 * i ∧ PotAt H' pt (m + 1 + 2 * i)) ?_ ?_ ?_⟩
  · exact ⟨_, _, _, [], rfl, b6, hpl6, upd_same, fun p hp => (nomatch hp), Nat.le_refl _, hP6⟩
  · rintro i σ H' hi ⟨u5, u6, u7, fl, rfl, b1, hpl, hfo, hfl, hll, hPi⟩
    refine ⟨_, rfl, _, rfl, pt, pl, _, m + 1 + 2 * i, rfl, .of hpl, npl', (fun z => by rw [z] at pll; exact absurd pll (by simp)), by omega, by omega, hPi, fun d1 v1 H2 hv1 g2 hP2 => ?_⟩
    obtain ⟨h, hh, rfl⟩ := natV_get hv1
    have hhn := pool h (List.mem_of_getElem? hh)
    have hfo2 := g2.at hfo (by simpa using nfp)
    have hpl2 := g2.at hpl (by simpa using npl')
    refine ⟨_, rfl, szl (by show 4 ≤ _; decide), fun l4 n4 => ?_⟩
    have n4p : l4 ≠ pt := fun z => hP2.ne0 (by rw [← z]; exact n4)
    have ga := same_new n4 (.lst [.int 1, .int 1, .int 2, .int 3])
    refine ⟨pt, l4, _, m + 1 + 2 * i + 1, rfl, .of upd_same, n4p, (fun z => by simp at z), by show 4 < 1000000; decide, by omega, hP2.but (.of (S := []) ga) (by simp), fun d2 v2 H3 hv2 g3 hP3 => ⟨_, _, rfl, ?_⟩⟩
    obtain ⟨t, rfl, t1, t3⟩ : ∃ t : Nat, v2 = .int (t : Nat) ∧ 1 ≤ t ∧ t ≤ 3 := by
      rcases d2 with _ | _ | _ | _ | d2
      · exact ⟨1, (Option.some.inj hv2).symm, by decide, by decide⟩
      · exact ⟨1, (Option.some.inj hv2).symm, by decide, by decide⟩
      · exact ⟨2, (Option.some.inj hv2).symm, by decide, by decide⟩
      · exact ⟨3, (Option.some.inj hv2).symm, by decide, by decide⟩
      · cases hv2
    have hfo3 := g3.at (ga _ _ hfo2) (by simpa using nfp)
    have hpl3 := g3.at (ga _ _ hpl2) (by simpa using npl')
    refine ⟨_, rfl, .inl ⟨rfl, _, .of hfo3⟩, _, rfl, szl (by show 1 ≤ _; decide), fun l5 n5 => ⟨_, rfl, l5, t, [.int (h : Nat)], rfl, rfl, upd_same, by omega, by omega, szl (by show 1 * _ ≤ _; omega), fun l6 n6 => ?_⟩⟩
    have gb := same_new n5 (.lst [.int (h : Nat)])
    have gc := same_new n6 (.lst (List.replicate (t : Int).toNat [V.int (h : Nat)]).flatten)
    have er : (List.replicate (t : Int).toNat [V.int (h : Nat)]).flatten = natV (List.replicate t h) := by
      unfold natV
      rw [show (t : Int).toNat = t by omega, List.map_replicate]
      simp
    refine ⟨fo, l6, natV fl, _, rfl, rfl, gc _ _ (gb _ _ hfo3), upd_same, szl (by rw [er, natL, natL, List.length_replicate]; omega), ?_⟩
    rw [er] at gc ⊢
    have b3 : But [pt] H _ := ((((b1.trans g2).trans (.of ga)).trans g3).trans (.of gb)).trans (.of gc)
    refine ⟨_, _, _, fl ++ List.replicate t h, rfl, ?_, ?_, ?_, ?_, ?_, ?_⟩
    · intro c u hc e
      rw [upd_ne (ne_of_none e Hfo)]
      exact b3 c u hc e
    · rw [upd_ne (Ne.symm nfl)]; exact gc _ _ (gb _ _ hpl3)
    · rw [upd_same]; unfold natV; rw [List.map_append]
    · intro p hp
      rcases List.mem_append.mp hp with z | z
      · exact hfl p z
      · rw [List.eq_of_mem_replicate z]; exact hhn
    · rw [List.length_append, List.length_replicate]; omega
    · exact ((hP3.but (.of (S := []) (gb.trans gc)) (by simp)).but (S := [fo]) ((But.refl _ _).put (by simp)) (by simpa using Ne.symm nfp)).mono (by omega)
  · rintro σ H' ⟨u5, u6, u7, fl, rfl, b1, hpl, hfo, hfl, hll, hPi⟩
    refine ⟨_, rfl, _, rfl, _, rfl, fo, natV fl, rfl, .of hfo, fun p np => ?_⟩
    have hs0 : HT.sIx (natV fl).length 0 none = 0 := rfl
    have hs1 : HT.sIx (natV fl).length (natV fl).length (some (k : Int)) = min k (natV fl).length := HT.sIx_nat _ _ k
    have ec : cutV (natV fl) none (some (k : Int)) = natV (fl.take (min k fl.length)) := by
      unfold cutV
      rw [hs0, hs1, natL]
      unfold natV
      simp [List.map_take]
    rw [ec]
    have ga := same_new np (.lst (natV (fl.take (min k fl.length))))
    refine ⟨p, _, rfl, .inl ⟨.of upd_same, fun t nt => ?_⟩⟩
    have gb := same_new nt (.tup (natV (fl.take (min k fl.length))))
    refine q t (fl.take (min k fl.length)) _ (b1.trans (.of (ga.trans gb))) ?_ upd_same (fun p hp => hfl p (List.mem_of_mem_take hp)) (by rw [List.length_take]; omega)
    exact (hPi.but (.of (S := []) (ga.trans gb)) (by simp)).mono (by omega)
end
end Fp
namespace Fp
open PySem PySem.Spec PyProof.Rows L2
theorem sub_all (l m : List Nat) : (l.map fun x => decide (x ∈ m)).all id = decide (Sub l m) := by
  rw [Bool.eq_iff_iff, List.all_eq_true, decide_eq_true_iff]
  unfold Sub
  simp
theorem any_none (s : LS) : (s.vw.map (·.isNone)).all id = !s.any := by
  unfold LS.any
  induction s.vw with
  | nil => rfl
  | cons a l ih =>
    rw [List.map_cons, List.all_cons, List.any_cons, ih]
    cases a <;> simp
/-- a row of truths grows by one -/
theorem growB {α : Type} {H0 H : Hp} {D : Addr} {l : List α} {f : α → Bool} {i : Nat} {x : α} (g : Same H0 H) (hD0 : H0 D = none) (h : H D = some (.lst (((l.take i).map f).map V.bl))) (hx : l[i]? = some x) (hs : i < 100000) :
    ∃ acc, H D = some (.lst acc) ∧ acc.length < sizeLine ∧ (Same H0 (upd H D (.lst (acc ++ [.bl (f x)]))) ∧ upd H D (.lst (acc ++ [.bl (f x)])) D = some (.lst (((l.take (i + 1)).map f).map V.bl))) :=
  ⟨_, h, szt (by rw [List.length_map, List.length_map, List.length_take]; omega), fun o u q => by rw [upd_ne (ne_of_none q hD0)]; exact g _ _ q, by rw [upd_same, List.take_succ, hx, List.map_append, List.map_append]; rfl⟩
section
variable {P : Program} {w : World} {K : PySem.W.Frag} {mg : Str → Option Value} {base : Heap} {f : Addr} {fd : FuncData} {C : Addr}
abbrev s_law_is_row : Stmt := top 36
theorem sc_law_is_row : FnScope ["many", "value", "there", "one", "other", "is_within", "hand", "view"] ["many", "value"] (defScope s_law_is_row) := ⟨rfl, rfl, rfl, by decide +kernel, rfl, by decide +kernel, by decide +kernel⟩
theorem ok_law_is_row (F : Fun K "_law_is_row" "_law_is_row" s_law_is_row f fd) (T : PTx mg) (G_law_is_lot_of : Fd P w K mg base CX0 "_law_is_lot_of" 2 ["value", "many"] spLotOf) : FnOk P w K mg base CX0 3 f fd ["many", "value"] spAtOnce := by
  refine F.ok sc_law_is_row (fun vs H Q E h => ?_) (fun cdv A outer s0 H vs Q E hr h => ?_)
  · obtain ⟨b, vv, s, rfl, _⟩ := h
    rfl
  obtain ⟨b, vv, s, rfl, hb, hv, W, k⟩ := h
  refine ⟨_, (pss_cons (ps_if (PW.pt (pw_or (pt_not (pt_val (pe_callB call_isi rfl T.isinstance (by decide +kernel) (pa_cons (pv 1) (pa_cons (pe_bltn (v := .ty "tuple") rfl T.tuple boot_tuple rfl) pa_nil))))) (pw_or (pt_cmpR op_ne (pe_callB call_len rfl T.len (by decide +kernel) (pa_cons (pv 1) pa_nil)) (pv 0) (nomark _)) (pw_or1 (pt_val (pe_callB (cr_all rfl) rfl T.all (by decide +kernel) (pa_cons (pe_lc (own := [("view", 7)]) (g := (gName 7)) (tt := tYes) rfl sc_law_is_row.nd (pi_tup (pv 1)) (blkOk_by (own := [("view", 7)]) (N := ["many", "value", "there", "one", "other", "is_within", "hand", "view"]) (sc := defScope s_law_is_row) (by decide +kernel)) (fun _ _ _ _ _ => (pg_name (i := 7) sc_law_is_row.nd rfl (Or.inl rfl))) (fun _ _ _ _ _ => pts_nil) (fun _ _ _ _ _ => (pe_cmpR op_isN (pv 7) pe_non (nomark _)))) pa_nil))))))) (pss_one (ps_ret pe_bl)) pss_nil)
  (pss_cons (ps_setLc (i := 2) (own := [("hand", 6), ("view", 7)]) (g := (gTup K 2 (gCons (gName 6) (gCons (gName 7) gNil))))  rfl sc_law_is_row.nd rfl rfl (sw_true rfl rfl rfl (by decide +kernel)) (pi_enumT rfl T.enumerate (pa_cons (pv 1) pa_nil)) (blkOk_by (own := [("hand", 6), ("view", 7)]) (N := ["many", "value", "there", "one", "other", "is_within", "hand", "view"]) (sc := defScope s_law_is_row) (by decide +kernel)) (fun _ _ _ _ _ => (pg_tup rfl (pgs_cons (pg_name (i := 6) sc_law_is_row.nd rfl (Or.inl rfl)) (pgs_cons (pg_name (i := 7) sc_law_is_row.nd rfl (Or.inl rfl)) pgs_nil)))) (fun _ _ _ _ _ => (pts_one (pt_cmpR op_notN (pv 7) pe_non (nomark _)))) (fun _ _ _ _ _ => (pv 6)))
  (pss_cons (ps_if (pt_not (pt_val (pe_callB (cr_all rfl) rfl T.all (by decide +kernel) (pa_cons (pe_lc (own := [("hand", 6)]) (g := (gName 6)) (tt := tYes) rfl sc_law_is_row.nd (pi_list (pv 2)) (blkOk_by (own := [("hand", 6)]) (N := ["many", "value", "there", "one", "other", "is_within", "hand", "view"]) (sc := defScope s_law_is_row) (by decide +kernel)) (fun _ _ _ _ _ => (pg_name (i := 6) sc_law_is_row.nd rfl (Or.inl rfl))) (fun _ _ _ _ _ => pts_nil) (fun _ _ _ _ _ => (pe_and (pe_fd G_law_is_lot_of (hr.mono (by first | decide | omega)) rfl (pa_cons (pe_ix ix_tupK (pv 1) (pv 6) (fun _ _ => rfl)) (pa_cons (pv 0) pa_nil))) (pe_one (pe_cmpR op_in_seqK (pv 6) (pe_ix ix_tupK (pv 1) (pv 6) (fun _ _ => rfl)) rfl))))) pa_nil)))) (pss_one (ps_ret pe_bl)) pss_nil)
  (pss_cons (ps_for PassesOwn.never rfl (pi_list (pv 2)) (pg_name (i := 3) sc_law_is_row.nd rfl (Or.inr rfl)) (pss_one (ps_for PassesOwn.never rfl (pi_list (pv 2)) (pg_name (i := 4) sc_law_is_row.nd rfl (Or.inr rfl)) (pss_cons (ps_set (i := 5) sc_law_is_row.nd rfl (Or.inl rfl) (pe_callB (cr_all rfl) rfl T.all (by decide +kernel) (pa_cons (pe_lc (own := [("hand", 6)]) (g := (gName 6)) (tt := tYes) rfl sc_law_is_row.nd (pi_tup (pe_ix ix_tup (pv 1) (pv 3) (fun _ _ => rfl))) (blkOk_by (own := [("hand", 6)]) (N := ["many", "value", "there", "one", "other", "is_within", "hand", "view"]) (sc := defScope s_law_is_row) (by decide +kernel)) (fun _ _ _ _ _ => (pg_name (i := 6) sc_law_is_row.nd rfl (Or.inl rfl))) (fun _ _ _ _ _ => pts_nil) (fun _ _ _ _ _ => (pe_cmpR op_in_seqK (pv 6) (pe_ix ix_tupK (pv 1) (pv 4) (fun _ _ => rfl)) rfl))) pa_nil)))
  (pss_cons (ps_if (PW.pt (pw_and (pt_not (pt_val (pv 5))) (pw_and1 (pt_not (pt_val (pe_callB (cr_all rfl) rfl T.all (by decide +kernel) (pa_cons (pe_lc (own := [("hand", 6)]) (g := (gName 6)) (tt := tYes) rfl sc_law_is_row.nd (pi_tup (pe_ix ix_tup (pv 1) (pv 4) (fun _ _ => rfl))) (blkOk_by (own := [("hand", 6)]) (N := ["many", "value", "there", "one", "other", "is_within", "hand", "view"]) (sc := defScope s_law_is_row) (by decide +kernel)) (fun _ _ _ _ _ => (pg_name (i := 6) sc_law_is_row.nd rfl (Or.inl rfl))) (fun _ _ _ _ _ => pts_nil) (fun _ _ _ _ _ => (pe_cmpR op_in_seqK (pv 6) (pe_ix ix_tupK (pv 1) (pv 3) (fun _ _ => rfl)) rfl))) pa_nil))))))) (pss_one (ps_ret pe_bl)) pss_nil)
  (pss_one (ps_if (PW.pt (pw_and (pt_cmpR op_in_seqK (pv 3) (pe_ix ix_tupK (pv 1) (pv 4) (fun _ _ => rfl)) rfl) (pw_and1 (pt_not (pt_val (pv 5)))))) (pss_one (ps_ret pe_bl)) pss_nil)))))))
  (pss_one (ps_ret pe_bl)))))), ?_⟩
  have n5 := W.n5
  have hvl : vv.length = s.n := by rw [pr_len hv, W.lw]
  refine ⟨_, rfl, _, _, _, _, true, rfl, .ty "tuple", (show TT H b vv from .inr hb).ty, by first | rfl | decide +kernel | kernel_rfl, _, rfl, iteF ?_⟩
  refine ⟨_, rfl, _, vv.length, rfl, (show LenV K (.ref b) H vv.length from .inr ⟨_, hb.sq, rfl⟩), _, rfl, ?_⟩
  refine ⟨rfl, _, rfl, ite_no (by rw [hvl, decide_eq_true rfl]; rfl) ?_⟩
  refine ⟨_, rfl, b, rfl, ⟨_, hb.sq⟩, fun D hD => ?_⟩
  refine lc_tup (K := K) (a := b) (xs := vv) (fun i H' => Same H H' ∧ H' D = some (.lst (((s.vw.take i).map (·.isNone)).map V.bl))) ⟨same_new hD _, upd_same⟩ (fun i H' _ z => ((TK.of z.1).f hb).sq) ?_ ?_
  · rintro i x H' hx ⟨g1, h1⟩
    have hi' : i < s.n := by have := get_lt hx; omega
    have hwi : s.vw[i]? = some (s.vi i) := getD_at (by rw [W.lw]; exact hi')
    obtain ⟨y', hy', oy⟩ := pr_at hv hwi
    rw [hx] at hy'
    cases hy'
    refine ⟨rfl, ?_⟩
    unfold tYes
    refine iteT ⟨_, rfl, rfl, ?_⟩
    rw [oy.is]
    refine ⟨_, h1, szt (by rw [List.length_map, List.length_map, List.length_take]; omega), fun o u ho => ?_, ?_⟩
    · rw [upd_ne (ne_of_none ho hD)]; exact g1 _ _ ho
    · rw [upd_same, List.take_succ, hwi, List.map_append, List.map_append]; rfl
  rintro H1 ⟨g1, h1⟩
  rw [show vv.length = s.vw.length by rw [hvl, W.lw], List.take_length] at h1
  refine ⟨D, _, rfl, .of h1, _, rfl, ?_⟩
  rw [any_none]
  cases ha : s.any with
  | false =>
    rw [ha] at k
    exact iteT (k _ g1)
  | true =>
  rw [ha] at k
  refine iteF ?_
  have hb1 := (TK.of g1).f hb
  refine ⟨_, rfl, b, vv, rfl, hb1.sq, fun D1 hD1 => ?_⟩
  refine lc_it (walk_enumT (xs := vv)) (fun i H' => Same H1 H' ∧ H' D1 = some (.lst (natV ((List.range i).filter fun q => (s.vi q).isSome)))) ⟨same_new hD1 _, upd_same⟩ (fun i H' _ z => ((TK.of z.1).f hb1).sq) ?_ ?_
  · rintro i y0 H2 H3 hi ⟨g2, h2⟩ ⟨T', y, rfl, hT, rfl, hy⟩
    have hi' : i < s.n := by omega
    have hwi : s.vw[i]? = some (s.vi i) := getD_at (by rw [W.lw]; exact hi')
    obtain ⟨y', hy', oy⟩ := pr_at hv hwi
    rw [hy] at hy'
    cases hy'
    have g3 := same_new hT (.tup [.int (0 + (i : Nat)), y])
    have h3 := g3 _ _ h2
    refine ⟨T', _, rfl, .of upd_same, rfl, _, _, rfl, _, _, rfl, rfl, rfl, ?_⟩
    refine ⟨_, rfl, rfl, _, rfl, ?_⟩
    have es : List.range (i + 1) = List.range i ++ [i] := List.range_succ
    cases hvi : s.vi i with
    | none =>
      rw [hvi] at oy
      refine ite_no (by rw [show y = V.non from oy]; rfl) ⟨g2.trans g3, ?_⟩
      rw [es, List.filter_append, h3]
      simp [hvi]
    | some l =>
      rw [hvi] at oy
      obtain ⟨a, rfl, _⟩ := oy
      refine ite_yes rfl ⟨_, rfl, _, h3, szt ?_, fun o u ho => ?_, ?_⟩
      · rw [natL]
        have := List.length_filter_le (fun q => (s.vi q).isSome) (List.range i)
        rw [List.length_range] at this
        omega
      · rw [upd_ne (ne_of_none ho hD1)]; exact (g2.trans g3) _ _ ho
      · rw [upd_same, es, List.filter_append]
        simp only [List.filter_cons, hvi, Option.isSome_some, if_true, List.filter_nil]
        unfold natV
        rw [List.map_append, Int.zero_add]
        rfl
  rintro H2 ⟨g2, h2⟩
  rw [hvl] at h2
  generalize hTH : (List.range s.n).filter (fun q => (s.vi q).isSome) = TH at h2
  have hth : ∀ p ∈ TH, p < s.n ∧ ∃ l, s.vi p = some l := fun p hp => by
    rw [← hTH, List.mem_filter, List.mem_range] at hp
    exact ⟨hp.1, Option.isSome_iff_exists.mp hp.2⟩
  have thl : TH.length ≤ 5 := by
    rw [← hTH]
    have := List.length_filter_le (fun q => (s.vi q).isSome) (List.range s.n)
    rw [List.length_range] at this
    omega
  have G2 : Same H H2 := g1.trans g2
  have vat : ∀ {H' : Hp}, Same H2 H' → ∀ {p : Nat} {l : List Nat}, p < s.n → s.vi p = some l → ∃ a, vv[p]? = some (.ref a) ∧ TT H' a (natV l) := fun g p l hp hl => by
    obtain ⟨y, hy, oy⟩ := pr_at hv (show s.vw[p]? = some (s.vi p) from getD_at (by rw [W.lw]; exact hp))
    rw [hl] at oy
    obtain ⟨a, rfl, ha⟩ := oy
    exact ⟨a, hy, (TK.of (G2.trans g)).tt ha⟩
  have hb2 : ∀ {H' : Hp}, Same H2 H' → SqT K H' b vv := fun g => ((TK.of (G2.trans g)).f hb).sq
  refine ⟨_, rfl, D1, rfl, ⟨_, .of h2⟩, fun D3 hD3 => ?_⟩
  refine lc_list (K := K) (a := D1) (xs := natV TH) (fun i H' => Same H2 H' ∧ H' D3 = some (.lst (trues i))) ⟨same_new hD3 _, upd_same⟩ (fun i H' _ z => .of (z.1 _ _ h2)) ?_ ?_
  · rintro i x H' hx ⟨g, h⟩
    obtain ⟨p, hp, rfl⟩ := natV_get hx
    have hi := get_lt hp
    obtain ⟨hps, l, hl⟩ := hth p (List.mem_of_getElem? hp)
    obtain ⟨a, hva, hta⟩ := vat g hps hl
    have vo := W.view hl
    refine ⟨rfl, ?_⟩
    unfold tYes
    refine iteT ?_
    refine ⟨_, rfl, _, rfl, b, vv, _, _, rfl, rfl, hb2 g, atI_nat hva, _, rfl, a, l, s.n, rfl, hta, vo.up, vo.len, vo.lt, fun H3 g3 => ⟨_, rfl, iteT ?_⟩⟩
    refine ⟨_, rfl, _, rfl, _, rfl, b, vv, _, _, rfl, rfl, hb2 (g.trans g3), atI_nat hva, a, natV l, rfl, .inr ((TK.of g3).tt hta).sq, rfl, nat_flat l, ?_⟩
    rw [inS, decide_eq_true vo.self]
    exact grow (g.trans g3) hD3 (g3 _ _ h) (by omega)
  rintro H3 ⟨g3, h3⟩
  rw [natL] at h3
  refine ⟨D3, _, rfl, .of h3, _, rfl, ?_⟩
  rw [trues_all]
  refine iteF ?_
  refine ⟨_, rfl, D1, rfl, ⟨_, .of (g3 _ _ h2)⟩, ?_⟩
  refine for_list (K := K) (a := D1) (xs := natV TH) (fun i σ H' => ∃ u3 u4 u5, σ = [some (.int (s.n : Nat)), some (.ref b), some (.ref D1), u3, u4, u5, none, none] ∧ Same H2 H') ⟨_, _, _, rfl, g3⟩ (fun i σ H' _ z => by obtain ⟨_, _, _, _, g⟩ := z; exact .of (g _ _ h2)) ?_ ?_
  rotate_left
  · rintro σ H' ⟨_, _, _, rfl, g⟩
    exact k _ (G2.trans g)
  rintro i x σ H4 hx ⟨u3, u4, u5, rfl, g4⟩
  obtain ⟨p, hp, rfl⟩ := natV_get hx
  obtain ⟨hps, l, hl⟩ := hth p (List.mem_of_getElem? hp)
  refine ⟨_, rfl, D1, rfl, ⟨_, .of (g4 _ _ h2)⟩, ?_⟩
  refine for_list (K := K) (a := D1) (xs := natV TH) (fun j σ H' => ∃ u4 u5, σ = [some (.int (s.n : Nat)), some (.ref b), some (.ref D1), some (.int (p : Nat)), u4, u5, none, none] ∧ Same H2 H') ⟨_, _, rfl, g4⟩ (fun i σ H' _ z => by obtain ⟨_, _, _, g⟩ := z; exact .of (g _ _ h2)) ?_ ?_
  rotate_left
  · rintro σ H' ⟨_, _, rfl, g⟩
    exact ⟨_, _, _, rfl, g⟩
  rintro j y σ H5 hy ⟨u4, u5, rfl, g5⟩
  obtain ⟨q, hq, rfl⟩ := natV_get hy
  obtain ⟨hqs, m, hm⟩ := hth q (List.mem_of_getElem? hq)
  have ft := W.fits hm hl
  have vl := W.view hl
  have vm := W.view hm
  obtain ⟨a, hva, hta⟩ := vat g5 hps hl
  refine ⟨_, rfl, _, rfl, b, vv, _, _, rfl, rfl, hb2 g5, atI_nat hva, a, rfl, ⟨_, hta.sq⟩, fun D5 hD5 => ?_⟩
  refine lc_tup (K := K) (a := a) (xs := natV l) (fun i H' => Same H5 H' ∧ H' D5 = some (.lst (((l.take i).map fun x => decide (x ∈ m)).map V.bl))) ⟨same_new hD5 _, upd_same⟩ (fun i H' _ z => ((TK.of z.1).tt hta).sq) ?_ ?_
  · rintro i' x' H' hx' ⟨g, h⟩
    obtain ⟨c, hc, rfl⟩ := natV_get hx'
    have hi := get_lt hc
    have hlen := vl.len
    obtain ⟨e, hve, hte⟩ := vat (g5.trans g) hqs hm
    refine ⟨rfl, ?_⟩
    unfold tYes
    refine iteT ⟨_, rfl, _, rfl, _, rfl, b, vv, _, _, rfl, rfl, hb2 (g5.trans g), atI_nat hve, e, natV m, rfl, .inr hte.sq, rfl, nat_flat m, ?_⟩
    rw [inS]
    exact growB g hD5 h hc (by omega)
  rintro H6 ⟨g6, h6⟩
  rw [natL, List.take_length] at h6
  refine ⟨D5, _, rfl, .of h6, ?_⟩
  rw [sub_all]
  -- the second test, from any heap
  have fin : ∀ (Ed : Ends) H7, Same H2 H7 → (∀ H', Same H2 H' → Ed.nx [some (.int (s.n : Nat)), some (.ref b), some (.ref D1), some (.int (p : Nat)), some (.int (q : Nat)), some (.bl (decide (Sub l m))), none, none] H') → tIfS (tAnd (tTest (tOp (rIn K false) (tVar 3) (tOp (rIxT K) (tVar 1) (tVar 4)))) (tNot (tB (tVar 5)))) (tRet (tC (V.bl false))) tNext Ed [some (.int (s.n : Nat)), some (.ref b), some (.ref D1), some (.int (p : Nat)), some (.int (q : Nat)), some (.bl (decide (Sub l m))), none, none] H7 := by
    intro Ed H7 g7 hE
    obtain ⟨e, hve, hte⟩ := vat g7 hqs hm
    refine ⟨_, rfl, _, rfl, _, rfl, b, vv, _, _, rfl, rfl, hb2 g7, atI_nat hve, e, natV m, rfl, .inr hte.sq, rfl, nat_flat m, _, rfl, ?_⟩
    rw [inS]
    by_cases hpm : p ∈ m
    · rw [decide_eq_true hpm]
      refine iteT ⟨_, rfl, _, rfl, ?_⟩
      rw [decide_eq_true (ft.1 hpm)] at hE ⊢
      exact iteF (hE _ g7)
    · rw [decide_eq_false hpm]
      exact iteF (iteF (hE _ g7))
  have g26 : Same H2 H6 := g5.trans g6
  refine ⟨_, rfl, _, rfl, ?_⟩
  by_cases hs : Sub l m
  · rw [decide_eq_true hs] at fin ⊢
    refine iteF (iteF ?_)
    exact fin _ _ g26 fun H' g => ⟨_, _, rfl, g⟩
  · have hpm : p ∉ m := fun z => hs (ft.1 z)
    have hml := ft.2 hpm
    rw [decide_eq_false hs] at fin ⊢
    refine iteT ?_
    obtain ⟨e, hve, hte⟩ := vat g26 hqs hm
    refine ⟨_, rfl, _, rfl, b, vv, _, _, rfl, rfl, hb2 g26, atI_nat hve, e, rfl, ⟨_, hte.sq⟩, fun D7 hD7 => ?_⟩
    refine lc_tup (K := K) (a := e) (xs := natV m) (fun i H' => Same H6 H' ∧ H' D7 = some (.lst (((m.take i).map fun x => decide (x ∈ l)).map V.bl))) ⟨same_new hD7 _, upd_same⟩ (fun i H' _ z => ((TK.of z.1).tt hte).sq) ?_ ?_
    · rintro i' x' H' hx' ⟨g, h⟩
      obtain ⟨c, hc, rfl⟩ := natV_get hx'
      have hi := get_lt hc
      have hlen := vm.len
      obtain ⟨a', hva', hta'⟩ := vat (g26.trans g) hps hl
      refine ⟨rfl, ?_⟩
      unfold tYes
      refine iteT ⟨_, rfl, _, rfl, _, rfl, b, vv, _, _, rfl, rfl, hb2 (g26.trans g), atI_nat hva', a', natV l, rfl, .inr hta'.sq, rfl, nat_flat l, ?_⟩
      rw [inS]
      exact growB g hD7 h hc (by omega)
    rintro H8 ⟨g8, h8⟩
    rw [natL, List.take_length] at h8
    refine ⟨D7, _, rfl, .of h8, _, rfl, ?_⟩
    rw [sub_all, decide_eq_true hml]
    refine iteF ?_
    exact fin _ _ (g26.trans g8) fun H' g => ⟨_, _, rfl, g⟩
end
end Fp
namespace Fp
open PySem PySem.Spec PyProof.Rows L2
structure MTx (mg : Str → Option Value) : Prop extends LTx mg where
  any : mg "any" = none
theorem Sm.bl (b : Bool) : Sm 1 0 (.bool b) := ⟨by simp [PyData.showable], by simp [PyData.canLay0], by simp [PyData.leavesShort], by simp [PyData.bulk], by simp [PyData.depth]⟩
def dueD : Option Due → PyData
  | none => .none
  | some (.wr l) => .tuple [.str "write", .int l]
  | some .look => .tuple [.str "look"]
theorem due_sd {K : PySem.W.Frag} {H : Hp} {y : V} {o : Option Due} (h : DueAt H y o) : SD K H y (dueD o) := fun H' g => by
  cases o with
  | none => rw [show y = V.non from h]; exact .non
  | some du =>
    cases du with
    | wr l => obtain ⟨t, rfl, ht⟩ := h; exact .tup (.of (g.t ht)) (.cons (.str _) (.cons (.int _) .nil))
    | look => obtain ⟨t, rfl, ht⟩ := h; exact .tup (.of (g.t ht)) (.cons (.str _) .nil)
theorem due_sm {s : LS} {p : Nat} (W : s.WF) : Sm 2 30 (dueD (s.next p)) := by
  have n5 := W.n5
  have wl : ∀ l : Int, -9999 ≤ l → l ≤ 9999 → Sm 2 30 (.tuple [.str "write", .int l]) := fun l h1 h2 =>
    (Sms.tup (.cons (sm_word "write" (by decide +kernel)) (.cons ((Sm.int h1 h2).mono (Nat.le_refl 1) (Nat.zero_le 0)) (Sms.nil (n := 0))))).mono (by decide) (by decide)
  have lo : Sm 2 30 (.tuple [.str "look"]) := (Sms.tup (.cons (sm_word "look" (by decide +kernel)) (Sms.nil (n := 0)))).mono (by decide) (by decide)
  unfold LS.next
  cases s.vi p with
  | some v => exact Sm.non.mono (by decide) (by decide)
  | none =>
    cases s.lo p with
    | true => exact lo
    | false =>
      cases e : s.lv p with
      | none => exact wl (s.n : Nat) (by omega) (by omega)
      | some x => have := W.rng p x e; exact wl (x - 1) (by omega) (by omega)
theorem lev_sm {s : LS} (W : s.WF) : Sm 2 5 (.tuple (s.lev.map lvD)) := by
  have sl : Sms 1 5 (s.lev.map lvD) := by
    refine (Sms.all (k := 1) (n := 0) fun d hd => ?_).mono (Nat.le_refl _) (by rw [List.length_map]; have := W.n5; unfold LS.n at this; omega)
    obtain ⟨x, hx, rfl⟩ := List.mem_map.mp hd
    cases x with
    | none => exact Sm.non
    | some i => have := W.levs.2 i hx; exact Sm.int (by omega) (by omega)
  exact sl.tup
theorem vws_sm {s : LS} (W : s.WF) : Sm 3 60 (.tuple (s.vw.map vwD)) := (Sms.all (vw_sm W)).tup.mono (by decide) (by rw [List.length_map, W.lw]; have := W.n5; omega)
theorem run_sm {r : List PyData} (h : ∀ d ∈ r, Sm 4 60 d) (hl : r.length ≤ 1000) : Sm 5 70000 (.tuple r) := (Sms.all h).tup.mono (by decide) (by omega)
theorem LS.run_woven : ∀ {ws : List Nat} {s : LS}, s.WF → (∀ p ∈ ws, p < s.n) → (s.woven ws).run.length ≤ s.run.length + ws.length
  | [], s, _, _ => Nat.le_refl _
  | p :: ws, s, W, h => by
    have hp := h p List.mem_cons_self
    have ih := LS.run_woven (ws := ws) (s := s.step p) (W.step hp) fun q hq => by rw [LS.n_step]; exact h q (List.mem_cons_of_mem _ hq)
    obtain ⟨ds, e, hl⟩ := LS.step_run' W hp
    rw [e, List.length_append] at ih
    show ((s.step p).woven ws).run.length ≤ _
    rw [List.length_cons]
    omega
structure R27 (K : PySem.W.Frag) (C : Addr) (H0 : Hp) (pt d o : Addr) (L : List Addr) (N : Nat) (H : Hp) (s1 s2 : LS) (m : Nat) : Prop where
  fr : But [pt] H0 H
  pot : PotAt H pt m
  p0 : H0 pt ≠ none
  d0 : H0 d = none
  l0 : ∀ x ∈ L, H0 x = none
  lv : LvAt K C H d s1
  st : StAt H o L s2
  wf1 : s1.WF
  wf2 : s2.WF
  n1 : s1.n = N
  n2 : s2.n = N
section
variable {K : PySem.W.Frag} {C : Addr} {H0 H H' : Hp} {pt d o : Addr} {L : List Addr} {N m m' : Nat} {s1 s2 s' : LS}
theorem LvAt.potoff (h : LvAt K C H d s1) (hp : PotAt H pt m) (g : But [pt] H H') : LvAt K C H' d s1 := by
  obtain ⟨ys, hy⟩ := hp.there
  refine h.off g (hp.tk g) fun x hx => ?_
  rw [List.mem_singleton.mp hx]
  refine ⟨fun z => ?_, by rw [hy]; simp⟩
  obtain ⟨dx, fs, e, _⟩ := h.ob
  rw [z, e] at hy; cases hy
theorem LvAt.staoff (h : LvAt K C H d s1) (S : StAt H o L s2) (g : But L H H') : LvAt K C H' d s1 := by
  refine h.off g (S.tk g) fun x hx => ?_
  obtain ⟨dx, fs, e, _⟩ := h.ob
  rcases S.kind x hx with ⟨xs, q⟩ | ⟨xs, q⟩
  · exact ⟨(fun z => by rw [z, e] at q; cases q), (by rw [q]; simp)⟩
  · exact ⟨(fun z => by rw [z, e] at q; cases q), (by rw [q]; simp)⟩
theorem R27.ptd (R : R27 K C H0 pt d o L N H s1 s2 m) : pt ≠ d := fun z => R.p0 (by rw [z]; exact R.d0)
theorem R27.ptl (R : R27 K C H0 pt d o L N H s1 s2 m) : pt ∉ L := fun z => R.p0 (R.l0 _ z)
theorem R27.dl (R : R27 K C H0 pt d o L N H s1 s2 m) : d ∉ L := fun z => by
  obtain ⟨dx, fs, e, _⟩ := R.lv.ob
  rcases R.st.kind d z with ⟨xs, q⟩ | ⟨xs, q⟩ <;> rw [e] at q <;> cases q
theorem R27.same (R : R27 K C H0 pt d o L N H s1 s2 m) (g : Same H H') : R27 K C H0 pt d o L N H' s1 s2 m :=
  ⟨R.fr.trans (.of g), R.pot.but (.of (S := []) g) (by simp), R.p0, R.d0, R.l0, R.lv.same g, R.st.same g, R.wf1, R.wf2, R.n1, R.n2⟩
theorem R27.take (R : R27 K C H0 pt d o L N H s1 s2 m) (g : But [pt] H H') (hp : PotAt H' pt m') : R27 K C H0 pt d o L N H' s1 s2 m' :=
  ⟨R.fr.trans g, hp, R.p0, R.d0, R.l0, R.lv.potoff R.pot g, R.st.but g (fun x hx => by rw [List.mem_singleton.mp hx]; exact R.ptl) (R.pot.tk g), R.wf1, R.wf2, R.n1, R.n2⟩
theorem R27.up (R : R27 K C H0 pt d o L N H s1 s2 m) (hm : m ≤ m') : R27 K C H0 pt d o L N H s1 s2 m' :=
  ⟨R.fr, R.pot.mono hm, R.p0, R.d0, R.l0, R.lv, R.st, R.wf1, R.wf2, R.n1, R.n2⟩
theorem R27.weave (R : R27 K C H0 pt d o L N H s1 s2 m) (g : But [d] H H') (h : LvAt K C H' d s') (W : s'.WF) (n : s'.n = N) : R27 K C H0 pt d o L N H' s' s2 m :=
  ⟨R.fr.into g fun x hx => .inl (by rw [List.mem_singleton.mp hx]; exact R.d0), R.pot.but g (by simpa using R.ptd), R.p0, R.d0, R.l0, h, R.st.but g (fun x hx => by rw [List.mem_singleton.mp hx]; exact R.dl) (R.lv.tk g), W, R.wf2, n, R.n2⟩
theorem R27.woven (R : R27 K C H0 pt d o L N H s1 s2 m) (g : But L H H') (h : StAt H' o L s') (W : s'.WF) (n : s'.n = N) : R27 K C H0 pt d o L N H' s1 s' m :=
  ⟨R.fr.into g fun x hx => .inl (R.l0 x hx), R.pot.but g R.ptl, R.p0, R.d0, R.l0, R.lv.staoff R.st g, h, R.wf1, W, R.n1, n⟩
end
end Fp
namespace Fp
open PySem PySem.Spec PyProof.Rows L2
def spRight : Sp := fun vs H Q _ => ∃ p, vs = [.ref p] ∧ PotAt H p 0 ∧ ∀ H', But [p] H H' → Q (.bl true) H'
def gW : List Value → List Value → List Value := fun us ws => us ++ ws
def gWV : List V → List V → List V := fun us ws => us ++ ws
section
variable {P : Program} {w : World} {K : PySem.W.Frag} {mg : Str → Option Value} {base : Heap} {f : Addr} {fd : FuncData} {C : Addr}
abbrev s_law_right : Stmt := top 37
theorem sc_law_right : FnScope ["pot", "many", "levels", "stair", "done", "lap", "weaving", "told", "due", "is_there", "view", "hand"] ["pot"] (defScope s_law_right) := ⟨rfl, rfl, rfl, by decide +kernel, rfl, by decide +kernel, by decide +kernel⟩
theorem ok_law_right (F : Fun K "_law_right" "_law_right" s_law_right f fd) (T : MTx mg) (hC : LC K C) (G_law_take : Fd P w K mg base CX0 "_law_take" 1 ["pot", "upto"] spTake) (G_law_of : Fd P w K mg base CX0 "_law_of" 2 ["pot", "some"] (spOf K)) (G_law_fresh : Fd P w K mg base CX0 "_law_fresh" 1 ["many"] spSFresh) (G_law_next : Fd P w K mg base CX0 "_law_next" 1 ["stair", "hand"] spSNext) (G_law_woven : Fd P w K mg base CX0 "_law_woven" 3 ["stair", "weaving"] (spSWoven K)) (G_law_weaving : Fd P w K mg base CX0 "_law_weaving" 3 ["pot", "many", "steps"] spWvg) (G_law_is_row : Fd P w K mg base CX0 "_law_is_row" 3 ["many", "value"] spAtOnce) (G_is_at_once : Fd P w K mg base CX0 "is_at_once" 4 ["many", "value"] spAtOnce) (M_Levels : MkK P w K mg base "Levels" C 3 ["self", "many"] ["many"] (spLInit K C)) (M_next : Md P w K mg base CX0 C "next" 3 ["self", "hand"] (spLNext K C)) (M_weave : Md P w K mg base CX0 C "weave" 5 ["self", "weaving"] (spWeave K C)) (M_weaveK : MdK P w K mg base CX0 C "weave" 5 ["self", "weaving"] ["weaving"] gW gWV (spWeave K C)) (M_len : LenC P w K mg base C 1 ["self"] (spLLen K C)) : FnOkG P w K mg base CX0 7 f fd ["pot"] spRight := by
  refine fun_okG F sc_law_right (fun vs H Q E h => ?_) (fun cdv A outer s0 H vs Q E hr hgu h => ?_)
  · obtain ⟨p, rfl, _⟩ := h
    rfl
  obtain ⟨pt, rfl, hP, k⟩ := h
  refine ⟨_, (pss_cons (ps_set (i := 1) sc_law_right.nd rfl (Or.inl rfl) (pe_mid (pe_op op_add pe_int (pe_fd G_law_take (hr.mono (by first | decide | omega)) rfl (pa_cons (pv 0) (pa_cons pe_int pa_nil))))))
  (pss_cons (ps_asg (pe_tup (pa_cons (pe_mkK M_Levels (hr.mono (by decide)) rfl (pk_cons (pv 1) pk_nil)) (pa_cons (pe_fd G_law_fresh (hr.mono (by first | decide | omega)) rfl (pa_cons (pv 1) pa_nil)) pa_nil))) (pg_tup rfl (pgs_cons (pg_name (i := 2) sc_law_right.nd rfl (Or.inr rfl)) (pgs_cons (pg_name (i := 3) sc_law_right.nd rfl (Or.inr rfl)) pgs_nil))))
  (pss_cons (ps_set (i := 4) sc_law_right.nd rfl (Or.inl rfl) (pe_tup pa_nil))
  (pss_cons (ps_for PassesOwn.never rfl (pi_range1 rfl T.range (pa_cons pe_int pa_nil)) (pg_name (i := 5) sc_law_right.nd rfl (Or.inl rfl)) (pss_cons (ps_set (i := 6) sc_law_right.nd rfl (Or.inl rfl) (pe_fd G_law_weaving (hr.mono (by first | decide | omega)) rfl (pa_cons (pv 0) (pa_cons (pv 1) (pa_cons (pe_mid (pe_fd G_law_of (hr.mono (by first | decide | omega)) rfl (pa_cons (pv 0) (pa_cons (pe_lst (pa_cons pe_int (pa_cons pe_int (pa_cons pe_int (pa_cons pe_int pa_nil))))) pa_nil)))) pa_nil)))))
  (pss_cons (ps_set (i := 7) sc_law_right.nd rfl (Or.inl rfl) (pe_mid (pe_ifExp (pt_cmpR op_gt (pe_fd G_law_take (hr.mono (by first | decide | omega)) rfl (pa_cons (pv 0) (pa_cons pe_int pa_nil))) pe_int (nomark _)) (pe_md (pv 2) hC.cl M_weave (hr.mono (by first | decide | omega)) (pa_cons (pv 6) pa_nil)) (pe_mdK (pv 2) hC.cl M_weaveK (hr.mono (by decide)) (pk_cons (pv 6) pk_nil)))))
  (pss_cons (ps_set (i := 8) sc_law_right.nd rfl (Or.inl rfl) (pe_fd G_law_woven (hr.mono (by first | decide | omega)) rfl (pa_cons (pv 3) (pa_cons (pv 6) pa_nil))))
  (pss_cons (ps_set (i := 4) sc_law_right.nd rfl (Or.inl rfl) (pe_mid (pe_op op_catA (pv 4) (pv 8))))
  (pss_cons (ps_if (PW.pt (pw_or (pt_cmpR op_ne (pe_callB (call_reprA hgu (u66 hr)) rfl T.repr (by decide +kernel) (pa_cons (pv 7) pa_nil)) (pe_callB (call_reprA hgu (u66 hr)) rfl T.repr (by decide +kernel) (pa_cons (pv 8) pa_nil)) (nomark _)) (pw_or1 (pt_cmpR op_ne (pe_callB (call_reprA hgu (u66 hr)) rfl T.repr (by decide +kernel) (pa_cons (pe_fld (pv 2) rfl) pa_nil)) (pe_callB (call_reprA hgu (u66 hr)) rfl T.repr (by decide +kernel) (pa_cons (pe_callTy call_tuple_of rfl T.tuple (by decide +kernel) (pa_cons (pe_dget (hu_of hr) (pv 3) pe_str (fun _ _ => rfl)) pa_nil)) pa_nil)) (nomark _))))) (pss_one (ps_ret pe_bl)) pss_nil)
  (pss_cons (ps_if (pt_cmpR op_ne (pe_callB (call_reprA hgu (u66 hr)) rfl T.repr (by decide +kernel) (pa_cons (pe_fld (pv 2) rfl) pa_nil)) (pe_callB (call_reprA hgu (u66 hr)) rfl T.repr (by decide +kernel) (pa_cons (pe_callTy call_tuple_of rfl T.tuple (by decide +kernel) (pa_cons (pe_dget (hu_of hr) (pv 3) pe_str (fun _ _ => rfl)) pa_nil)) pa_nil)) (nomark _)) (pss_one (ps_ret pe_bl)) pss_nil)
  (pss_cons (ps_if (pt_cmpR op_ne (pe_callB (call_reprA hgu (u66 hr)) rfl T.repr (by decide +kernel) (pa_cons (pe_lc (own := [("hand", 11)]) (g := (gName 11)) (tt := tYes) rfl sc_law_right.nd (pi_range1 rfl T.range (pa_cons (pv 1) pa_nil)) (blkOk_by (own := [("hand", 11)]) (N := ["pot", "many", "levels", "stair", "done", "lap", "weaving", "told", "due", "is_there", "view", "hand"]) (sc := defScope s_law_right) (by decide +kernel)) (fun _ _ _ _ _ => (pg_name (i := 11) sc_law_right.nd rfl (Or.inl rfl))) (fun _ _ _ _ _ => pts_nil) (fun _ _ _ _ _ => (pe_md (pv 2) hC.cl M_next (hr.mono (by first | decide | omega)) (pa_cons (pv 11) pa_nil)))) pa_nil)) (pe_callB (call_reprA hgu (u66 hr)) rfl T.repr (by decide +kernel) (pa_cons (pe_lc (own := [("hand", 11)]) (g := (gName 11)) (tt := tYes) rfl sc_law_right.nd (pi_range1 rfl T.range (pa_cons (pv 1) pa_nil)) (blkOk_by (own := [("hand", 11)]) (N := ["pot", "many", "levels", "stair", "done", "lap", "weaving", "told", "due", "is_there", "view", "hand"]) (sc := defScope s_law_right) (by decide +kernel)) (fun _ _ _ _ _ => (pg_name (i := 11) sc_law_right.nd rfl (Or.inl rfl))) (fun _ _ _ _ _ => pts_nil) (fun _ _ _ _ _ => (pe_fd G_law_next (hr.mono (by first | decide | omega)) rfl (pa_cons (pv 3) (pa_cons (pv 11) pa_nil))))) pa_nil)) (nomark _)) (pss_one (ps_ret pe_bl)) pss_nil)
  (pss_cons (ps_set (i := 9) sc_law_right.nd rfl (Or.inl rfl) (pe_callB (cr_any rfl) rfl T.any (by decide +kernel) (pa_cons (pe_lc (own := [("view", 10)]) (g := (gName 10)) (tt := tYes) rfl sc_law_right.nd (pi_tup (pe_fld (pv 2) rfl)) (blkOk_by (own := [("view", 10)]) (N := ["pot", "many", "levels", "stair", "done", "lap", "weaving", "told", "due", "is_there", "view", "hand"]) (sc := defScope s_law_right) (by decide +kernel)) (fun _ _ _ _ _ => (pg_name (i := 10) sc_law_right.nd rfl (Or.inl rfl))) (fun _ _ _ _ _ => pts_nil) (fun _ _ _ _ _ => (pe_cmpR op_notN (pv 10) pe_non (nomark _)))) pa_nil)))
  (pss_one (ps_if (PW.pt (pw_or (pt_cmpR op_ne (pe_fd G_law_is_row (hr.mono (by first | decide | omega)) rfl (pa_cons (pv 1) (pa_cons (pe_fld (pv 2) rfl) pa_nil))) (pv 9) (nomark _)) (pw_or1 (pt_cmpR op_ne (pe_callB (call_reprA hgu (u66 hr)) rfl T.repr (by decide +kernel) (pa_cons (pe_fd G_is_at_once (hr.mono (by first | decide | omega)) rfl (pa_cons (pv 1) (pa_cons (pe_fld (pv 2) rfl) pa_nil))) pa_nil)) (pe_callB (call_reprA hgu (u66 hr)) rfl T.repr (by decide +kernel) (pa_cons (pv 9) pa_nil)) (nomark _))))) (pss_one (ps_ret pe_bl)) pss_nil)))))))))))
  (pss_one (ps_ret (pe_and (pe_cmpR op_eq (pe_callB (call_reprA hgu (u66 hr)) rfl T.repr (by decide +kernel) (pa_cons (pe_fld (pv 2) rfl) pa_nil)) (pe_callB (call_reprA hgu (u66 hr)) rfl T.repr (by decide +kernel) (pa_cons (pv 4) pa_nil)) (nomark _)) (pe_and (pe_cmpR op_eq (pe_callB (call_lenO M_len (hr.mono (by decide))) rfl T.len (by decide +kernel) (pa_cons (pv 2) pa_nil)) (pe_callB call_len rfl T.len (by decide +kernel) (pa_cons (pv 4) pa_nil)) (nomark _)) (pe_one (pe_cmpR op_eq (pe_callB (call_reprA hgu (u66 hr)) rfl T.repr (by decide +kernel) (pa_cons (pe_fld (pv 2) rfl) pa_nil)) (pe_callB (call_reprA hgu (u66 hr)) rfl T.repr (by decide +kernel) (pa_cons (pe_callTy call_int1 rfl T.int (by decide +kernel) (pa_cons (pv 1) pa_nil)) pa_nil)) (nomark _))))))))))), ?_⟩
  refine ⟨fun y H' => ∃ N : Nat, y = .int N ∧ 1 ≤ N ∧ N ≤ 5 ∧ But [pt] H H' ∧ PotAt H' pt 1, ⟨_, rfl, pt, 5, 0, rfl, by decide, by decide, by decide, hP, fun n0 H1 hn0 g1 hP1 => ⟨_, _, rfl, rfl, 1 + n0, (by show V.int (1 + (n0 : Int)) = _; congr 1), by omega, by omega, g1, hP1⟩⟩, ?_⟩
  rintro y H1 ⟨N, rfl, hN2, hN5, g1, hP1⟩
  refine ⟨_, rfl, rfl, rfl, fun d dx hd hdx hne => ⟨d, dx, N, rfl, hN2, hN5, upd_same, by rw [upd_ne hne]; exact upd_same, fun H2 b2 D2 => ⟨rfl, ?_⟩⟩⟩
  have F2 : Same H1 H2 := Same.into (Same.trans (same_new hdx (.own d)) (same_new (by rw [upd_ne (Ne.symm hne)]; exact hd) (.ins C dx []))) b2 hd
  refine ⟨_, rfl, N, rfl, hN2, hN5, fun o L H3 g3 fL S3 => ⟨szl (by show 2 ≤ _; decide), fun tt ntt => ⟨tt, _, rfl, .of upd_same, rfl, _, _, rfl, _, _, rfl, rfl, ?_⟩⟩⟩
  have g4 := same_new ntt (.tup [.ref d, .ref o])
  refine ⟨szl (by decide), fun dn ndn => ?_⟩
  have g5 := same_new ndn (.tup [])
  have nN : (LS.new N).n = N := by simp [LS.new, LS.n]
  have R0 : R27 K C H pt d o L N _ (LS.new N) (LS.new N) 2 :=
    ⟨g1.trans (.of (((F2.trans g3).trans g4).trans g5)), (hP1.but (.of (S := []) (((F2.trans g3).trans g4).trans g5)) (by simp)).mono (by decide), hP.ne0, g1.free hP1.ne0 hd, fun x hx => g1.free hP1.ne0 (Same.gone F2 (fL x hx)), ((D2.same g3).same g4).same g5, (S3.same g4).same g5, .new hN2 hN5, .new hN2 hN5, nN, nN⟩
  have hdn0 := upd_same (H := upd H3 tt (.tup [.ref d, .ref o])) (a := dn) (o := .tup [])
  have rok0 := LS.ROk.new N
  have rl0 : (LS.new N).run = [] := rfl
  generalize LS.new N = z0 at R0 rok0 rl0
  generalize upd (upd H3 tt (.tup [.ref d, .ref o])) dn (.tup []) = H5 at R0 hdn0
  refine ⟨_, rfl, by decide, by decide, for_range (lo := 0) (n := 3) (fun i σ H' => ∃ dn u5 u6 u7 u8 u9 s dv, σ = [some (.ref pt), some (.int N), some (.ref d), some (.ref o), some (.ref dn), u5, u6, u7, u8, u9, none, none] ∧ R27 K C H pt d o L N H' s s (2 + i * 200) ∧ H' dn = some (.tup dv) ∧ Paired (SD K H') dv s.run ∧ s.ROk ∧ s.run.length ≤ i * 100) ⟨dn, _, _, _, _, _, z0, [], rfl, R0, hdn0, by rw [rl0]; exact .nil, rok0, by rw [rl0]; exact Nat.zero_le _⟩ ?_ ?_⟩
  · rintro i σ H6 hi ⟨dn, u5, u6, u7, u8, u9, s, dv, rfl, R, hdn, hdv, rok, rlen⟩
    have W := R.wf1
    -- the weaving
    refine ⟨_, rfl, _, rfl, fun y H' => ∃ M : Nat, y = .int M ∧ M ≤ 30 ∧ Same H6 H6 ∧ TK H6 H' ∧ R27 K C H pt d o L N H' s s (2 + i * 200 + 1), ⟨_, rfl, szl (by show 4 ≤ _; decide), fun lv nlv => ⟨pt, lv, [.int 5, .int 12, .int 20, .int 30], 2 + i * 200, rfl, .of upd_same, fun z => R.pot.ne0 (by rw [← z]; exact nlv), by simp, by decide, by omega, (R.same (same_new nlv _)).pot, fun dd v H7 hv g7 hP7 => ?_⟩⟩, ?_⟩
    · have R1 := (R.same (same_new nlv (.lst [.int 5, .int 12, .int 20, .int 30])))
      have R2 := R1.take g7 hP7
      have tk : TK H6 H7 := (TK.of (same_new nlv _)).trans (R1.pot.tk g7)
      have hlt := get_lt hv
      have hlt : dd < 4 := hlt
      rcases (show dd = 0 ∨ dd = 1 ∨ dd = 2 ∨ dd = 3 by omega) with e | e | e | e <;> subst e <;> cases hv
      · exact ⟨5, rfl, by decide, .refl _, tk, R2⟩
      · exact ⟨12, rfl, by decide, .refl _, tk, R2⟩
      · exact ⟨20, rfl, by decide, .refl _, tk, R2⟩
      · exact ⟨30, rfl, by decide, .refl _, tk, R2⟩
    rintro y H7 ⟨M, rfl, hM, _, tk7, R7⟩
    refine ⟨pt, N, M, _, rfl, hN2, hN5, hM, R7.pot, by omega, fun wt ws H8 g8 hP8 hwt hws hwl => ?_⟩
    have R8 := R7.take g8 hP8
    have tk8 := tk7.trans (R7.pot.tk g8)
    have hws1 : ∀ p ∈ ws, p < s.n := fun p hp => by rw [R.n1]; exact hws p hp
    have Ww := LS.wf_woven W hws1
    have nw : (s.woven ws).n = N := by rw [LS.n_woven]; exact R.n1
    -- told
    refine ⟨fun y H' => ∃ t ys ds, y = .ref t ∧ R27 K C H pt d o L N H' (s.woven ws) s (2 + i * 200 + 1 + 100 + 1) ∧ TK H8 H' ∧ H' t = some (.tup ys) ∧ Paired (SD K H') ys ds ∧ (s.woven ws).run = s.run ++ ds, ?_, ?_⟩
    · refine ⟨_, rfl, pt, 3, _, rfl, by decide, by decide, by omega, R8.pot, fun n9 H9 hn9 g9 hP9 => ⟨_, _, rfl, rfl, _, rfl, ?_⟩⟩
      have R9 := R8.take g9 hP9
      have tk9 := R8.pot.tk g9
      obtain ⟨dx1, fs1, ob1, _, _, _, _, nw1⟩ := R9.lv.ob
      have fin : ∀ t ys ds H', But [d] H9 H' → LvAt K C H' d (s.woven ws) → H' t = some (.tup ys) → Paired (SD K H') ys ds → (s.woven ws).run = s.run ++ ds → ∃ t' ys ds, V.ref t = .ref t' ∧ R27 K C H pt d o L N H' (s.woven ws) s (2 + i * 200 + 1 + 100 + 1) ∧ TK H8 H' ∧ H' t' = some (.tup ys) ∧ Paired (SD K H') ys ds ∧ (s.woven ws).run = s.run ++ ds := fun t ys ds H' b L' ht hy hr =>
        ⟨t, ys, ds, rfl, (R9.weave b L' Ww nw).up (by omega), tk9.trans (R9.lv.tk b), ht, hy, hr⟩
      refine ite2 (fun z => ?_) (fun z => ?_)
      · exact ⟨_, rfl, d, dx1, fs1, rfl, ob1, nw1, _, rfl, d, wt, ws, s, rfl, R9.lv, W, .inl (tk9.t hwt), hws1, by omega, by omega, fin⟩
      · exact ⟨_, rfl, d, dx1, fs1, rfl, ob1, nw1, _, rfl, rfl, d, wt, ws, s, rfl, R9.lv, W, .inl (tk9.t hwt), hws1, by omega, by omega, fin⟩
    rintro y H9 ⟨t1, ys1, ds1, rfl, R9, tk9, ht1, hy1, hr1⟩
    -- due
    refine ⟨_, rfl, _, rfl, o, wt, L, ws, s, rfl, R9.st, W, .inl (tk9.t hwt), hws1, by omega, fun t2 ys2 ds2 H10 b10 S10 ht2 hy2 hr2 => ?_⟩
    have eds : ds2 = ds1 := List.append_cancel_left (hr2.symm.trans hr1)
    subst eds
    have R10 := R9.woven b10 S10 Ww nw
    have tk10 := R9.st.tk b10
    have ht1' := tk10.t ht1
    have hy1' := SDs.mono hy1 tk10
    have tk610 := (tk8.trans tk9).trans tk10
    have hdn10 := tk610.t hdn
    have hdv10 := SDs.mono hdv tk610
    have dsl : ds2.length ≤ 100 := by
      have := LS.run_woven W hws1
      rw [hr2, List.length_append] at this
      omega
    -- done
    refine ⟨fun y H' => ∃ q, y = .ref q ∧ Same H10 H' ∧ H' q = some (.tup (dv ++ ys2)), ⟨_, rfl, _, rfl, dn, t2, dv, ys2, rfl, rfl, .of hdn10, .of ht2, ?_, fun z => ?_, fun _ z => ?_, fun _ _ q nq => ?_⟩, ?_⟩
    · rw [pr_len hdv10, pr_len hy2]; exact szl (by omega)
    · exact ⟨t2, rfl, .refl _, by rw [z]; exact ht2⟩
    · exact ⟨dn, rfl, .refl _, by rw [z, List.append_nil]; exact hdn10⟩
    · exact ⟨q, rfl, same_new nq _, upd_same⟩
    rintro y H11 ⟨dn', rfl, g11, hdn11⟩
    have R11 := R10.same g11
    have rok' : (s.woven ws).ROk := (LS.ok_woven W rok hws1).2
    have smd : Sm 5 70000 (.tuple ds2) := run_sm (fun d hd => rok' d (by rw [hr2]; exact List.mem_append_right _ hd)) (by omega)
    -- repr(told) != repr(due)
    refine ⟨_, rfl, _, .tuple ds2, 5, 70000, rfl, .tup (.of (g11 _ _ ht1')) (SDs.dp (SDs.mono hy1' (.of g11))), smd, by decide, by decide, ?_⟩
    refine ⟨_, rfl, _, .tuple ds2, 5, 70000, rfl, .tup (.of (g11 _ _ ht2)) (SDs.dp (SDs.mono hy2 (.of g11))), smd, by decide, by decide, rfl, _, rfl, ?_⟩
    have ss : ∀ Z : Str, (!decide (V.str Z = V.str Z)) = false := fun Z => by rw [decide_eq_true rfl]; rfl
    rw [ss]
    refine iteF ?_
    generalize hsw : s.woven ws = sw at *
    have hLv := R11.lv
    obtain ⟨dx1, a, b, r, e, vv, rv, D⟩ := hLv
    have hSt := R11.st
    obtain ⟨l1, l2, l3, vs3, eL, S⟩ := hSt
    -- levels
    refine ⟨_, rfl, d, C, dx1, _, _, rfl, D.obj, hC.cl, hC.nL, l_lev, _, _, 2, 5, rfl, .tup D.lev.sq (lv_dp _), lev_sm Ww, by decide, by decide, ?_⟩
    refine ⟨_, rfl, o, _, rfl, sg_shown S.dict, l1, _, rfl, .inl ⟨.of S.shown, fun t3 n3 => ?_⟩⟩
    have g12 := same_new n3 (.tup (sw.lev.map lvV))
    refine ⟨_, _, 2, 5, rfl, .tup (.of upd_same) (lv_dp _), lev_sm Ww, by decide, by decide, rfl, _, rfl, ?_⟩
    rw [ss]
    refine iteF ?_
    have D12 := D.same g12
    have S12 := S.same g12
    have R12 := R11.same g12
    have e12 := g11.trans g12
    generalize upd H11 t3 (.tup (sw.lev.map lvV)) = H12 at g12 D12 S12 R12 e12
    -- views
    refine ⟨_, rfl, d, C, dx1, _, _, rfl, D12.obj, hC.cl, hC.nV, l_vw, _, _, 3, 60, rfl, .tup D12.vw.sq (vw_dp D12.vwP), vws_sm Ww, by decide, by decide, ?_⟩
    refine ⟨_, rfl, o, _, rfl, sg_views S12.dict, l3, _, rfl, .inl ⟨.of S12.views, fun t4 n4 => ?_⟩⟩
    have g13 := same_new n4 (.tup vs3)
    refine ⟨_, _, 3, 60, rfl, .tup (.of upd_same) (vw_dp (pr_imp (fun _ _ => ViewAt.mono (.of g13)) S12.vwP)), vws_sm Ww, by decide, by decide, rfl, _, rfl, ?_⟩
    rw [ss]
    refine iteF ?_
    have D13 := D12.same g13
    have R13 := R12.same g13
    have e13 := e12.trans g13
    generalize upd H12 t4 (.tup vs3) = H13 at g13 D13 R13 e13
    -- what comes next
    have nsm : Sm 3 1000 (.list ((List.range N).map fun p => dueD (sw.next p))) := (Sms.all (k := 2) (n := 30) (ds := (List.range N).map fun p => dueD (sw.next p)) fun d hd => by
      obtain ⟨p, _, rfl⟩ := List.mem_map.mp hd
      exact due_sm Ww).lst.mono (by decide) (by rw [List.length_map, List.length_range]; omega)
    have snoc : ∀ {H' H'' : Hp} {xs : List V} {y : V} {q : Addr} {j : Nat}, TK H' H'' → H'' q = some (.lst xs) → Paired (SD K H') xs ((List.range j).map fun p => dueD (sw.next p)) → SD K H'' y (dueD (sw.next j)) → Paired (SD K (upd H'' q (.lst (xs ++ [y])))) (xs ++ [y]) ((List.range (j + 1)).map fun p => dueD (sw.next p)) := fun tk hq hx hy => by
      rw [List.range_succ, List.map_append]
      exact SDs.mono (pr_snoc hy (SDs.mono hx tk)) (TK.put hq fun z => z)
    refine ⟨_, rfl, _, rfl, by omega, by omega, fun p1 np1 => ?_⟩
    refine lc_range (lo := 0) (n := N) (fun j H' => Same H13 H' ∧ ∃ xs, H' p1 = some (.lst xs) ∧ xs.length = j ∧ Paired (SD K H') xs ((List.range j).map fun p => dueD (sw.next p))) ⟨same_new np1 _, [], upd_same, rfl, .nil⟩ ?_ ?_
    · rintro j H' hj ⟨g, xs, hp, hl, hx⟩
      rw [Int.zero_add]
      refine ⟨rfl, ?_⟩
      unfold tYes
      refine iteT ?_
      have hjn : j < sw.n := by rw [nw]; exact hj
      refine ⟨_, rfl, d, dx1, _, rfl, (D13.same g).obj, ln_next, _, rfl, d, j, sw, rfl, ⟨dx1, a, b, r, e, vv, rv, D13.same g⟩, Ww, hjn, fun y H'' g' hy => ?_⟩
      have hp' := g' _ _ hp
      refine ⟨xs, hp', szt (by omega), fun c u hc => ?_, _, upd_same, by rw [List.length_append, hl]; rfl, snoc (.of g') hp' hx (due_sd hy)⟩
      rw [upd_ne (ne_of_none hc np1)]; exact g' _ _ (g _ _ hc)
    rintro H14 ⟨g14, xs1, hp1, hl1, hx1⟩
    refine ⟨_, _, 3, 1000, rfl, .lst (.of hp1) (SDs.dp hx1), nsm, by decide, by decide, ?_⟩
    have R14 := R13.same g14
    refine ⟨_, rfl, _, rfl, by omega, by omega, fun p2 np2 => ?_⟩
    refine lc_range (lo := 0) (n := N) (fun j H' => Same H14 H' ∧ ∃ xs, H' p2 = some (.lst xs) ∧ xs.length = j ∧ Paired (SD K H') xs ((List.range j).map fun p => dueD (sw.next p))) ⟨same_new np2 _, [], upd_same, rfl, .nil⟩ ?_ ?_
    · rintro j H' hj ⟨g, xs, hp, hl, hx⟩
      rw [Int.zero_add]
      refine ⟨rfl, ?_⟩
      unfold tYes
      refine iteT ?_
      have hjn : j < sw.n := by rw [nw]; exact hj
      refine ⟨_, rfl, _, rfl, o, L, j, sw, rfl, (R14.same g).st, Ww, hjn, fun y H'' g' hy => ?_⟩
      have hp' := g' _ _ hp
      refine ⟨xs, hp', szt (by omega), fun c u hc => ?_, _, upd_same, by rw [List.length_append, hl]; rfl, snoc (.of g') hp' hx (due_sd hy)⟩
      rw [upd_ne (ne_of_none hc np2)]; exact g' _ _ (g _ _ hc)
    rintro H15 ⟨g15, xs2, hp2, hl2, hx2⟩
    refine ⟨_, _, 3, 1000, rfl, .lst (.of hp2) (SDs.dp hx2), nsm, by decide, by decide, rfl, _, rfl, ?_⟩
    rw [ss]
    refine iteF ?_
    have e15 := (e13.trans g14).trans g15
    have D15 := (D13.same g14).same g15
    have R15 := R14.same g15
    -- is_there
    have hvl : vv.length = N := by rw [pr_len D15.vwP, Ww.lw, nw]
    refine ⟨_, rfl, d, C, dx1, _, _, rfl, D15.obj, hC.cl, hC.nV, l_vw, b, rfl, ⟨_, D15.vw.sq⟩, fun p3 np3 => ?_⟩
    refine lc_tup (K := K) (a := b) (xs := vv) (fun j H' => Same H15 H' ∧ H' p3 = some (.lst (((sw.vw.take j).map fun o => !o.isNone).map V.bl))) ⟨same_new np3 _, upd_same⟩ (fun j H' _ z => ((TK.of z.1).f D15.vw).sq) ?_ ?_
    · rintro j x H' hx ⟨g, h⟩
      have hj : j < sw.n := by have := get_lt hx; omega
      have hwi : sw.vw[j]? = some (sw.vi j) := getD_at (by rw [Ww.lw]; exact hj)
      obtain ⟨y', hy', oy⟩ := pr_at D15.vwP hwi
      rw [hx] at hy'
      cases hy'
      refine ⟨rfl, ?_⟩
      unfold tYes
      refine iteT ⟨_, rfl, rfl, ?_⟩
      rw [oy.is]
      exact growB (f := fun o => !o.isNone) g np3 h hwi (by omega)
    rintro H16 ⟨g16, h16⟩
    rw [show vv.length = sw.vw.length by rw [hvl, Ww.lw, nw], List.take_length] at h16
    refine ⟨p3, _, rfl, .of h16, ?_⟩
    have eany : (sw.vw.map fun o => !o.isNone).any id = sw.any := by
      unfold LS.any
      rw [List.any_map]
      congr 1
      funext o
      cases o <;> rfl
    rw [eany]
    have D16 := D15.same g16
    have R16 := R15.same g16
    have e16 := e15.trans g16
    -- a row at once
    have vsE : ([V.int (N : Nat), .ref b] : List V) = [.int (sw.n : Nat), .ref b] := by rw [nw]
    refine ⟨_, rfl, _, rfl, d, C, dx1, _, _, rfl, D16.obj, hC.cl, hC.nV, l_vw, b, vv, sw, vsE, D16.vw, D16.vwP, Ww, fun H17 g17 => ?_⟩
    have D17 := D16.same g17
    refine ⟨_, rfl, rfl, _, rfl, ?_⟩
    rw [show (!decide (V.bl sw.any = V.bl sw.any)) = false by rw [decide_eq_true rfl]; rfl]
    refine iteF ?_
    refine ⟨_, rfl, _, rfl, d, C, dx1, _, _, rfl, D17.obj, hC.cl, hC.nV, l_vw, b, vv, sw, vsE, D17.vw, D17.vwP, Ww, fun H18 g18 => ?_⟩
    refine ⟨_, .bool sw.any, 1, 0, rfl, .bl _, .bl _, by decide, by decide, ?_⟩
    refine ⟨_, rfl, _, .bool sw.any, 1, 0, rfl, .bl _, .bl _, by decide, by decide, rfl, _, rfl, ?_⟩
    rw [ss]
    refine iteF ?_
    have R18 := (R16.same g17).same g18
    have e18 := (e16.trans g17).trans g18
    refine ⟨dn', _, _, _, _, _, sw, dv ++ ys2, rfl, R18.up (by omega), ?_, ?_, rok', ?_⟩
    · exact g18 _ _ (g17 _ _ (g16 _ _ (g15 _ _ (g14 _ _ (g13 _ _ (g12 _ _ hdn11))))))
    · rw [hr2]
      exact pr_append (SDs.mono hdv10 (.of e18)) (SDs.mono hy2 (.of e18))
    · rw [hr2, List.length_append]; omega
  · rintro σ H6 ⟨dn, u5, u6, u7, u8, u9, s, dv, rfl, R, hdn, hdv, rok, rlen⟩
    have W := R.wf1
    have hLv := R.lv
    obtain ⟨dx1, a, b, r, e, vv, rv, D⟩ := hLv
    have smr : Sm 5 70000 (.tuple s.run) := run_sm rok (by omega)
    refine ⟨_, rfl, d, C, dx1, _, _, rfl, D.obj, hC.cl, hC.nR, l_run, _, .tuple s.run, 5, 70000, rfl, .tup (.of D.run) (SDs.dp D.runP), smr, by decide, by decide, ?_⟩
    refine ⟨_, rfl, _, .tuple s.run, 5, 70000, rfl, .tup (.of hdn) (SDs.dp hdv), smr, by decide, by decide, rfl, _, rfl, ite_yes (decide_eq_true rfl) ?_⟩
    refine ⟨_, rfl, d, dx1, _, rfl, D.obj, d, s, rfl, R.lv, s.run.length, rfl, by omega, ?_⟩
    refine ⟨_, rfl, _, dv.length, rfl, (show LenV K (.ref dn) H6 dv.length from .inr ⟨_, .of hdn, rfl⟩), rfl, _, rfl, ite_yes (decide_eq_true (by rw [pr_len hdv])) ?_⟩
    have smN : Sm 1 0 (.int (s.n : Nat)) := Sm.int (by omega) (by have := W.n5; omega)
    refine ⟨_, rfl, d, C, dx1, _, _, rfl, D.obj, hC.cl, hC.nM, l_many, _, .int (s.n : Nat), 1, 0, rfl, .int _, smN, by decide, by decide, ?_⟩
    refine ⟨_, rfl, .inl ⟨N, rfl, _, .int (s.n : Nat), 1, 0, rfl, (by rw [R.n1]; exact .int _), smN, by decide, by decide, rfl, ?_⟩⟩
    rw [show ∀ Z : Str, decide (V.str Z = V.str Z) = true from fun Z => decide_eq_true rfl]
    exact k _ R.fr
end
end Fp
namespace Fp
open PySem PySem.Spec PyProof.Rows L2
def spLaw (K : PySem.W.Frag) : Sp := fun vs H Q _ => ∃ (a : Addr) (ns : List Int), vs = [.ref a] ∧ SqL K H a (ns.map V.int) ∧ ns.length ≤ 63 ∧ ∀ H', Q (.bl true) H'
section
variable {P : Program} {w : World} {K : PySem.W.Frag} {mg : Str → Option Value} {base : Heap} {f : Addr} {fd : FuncData}
abbrev s_law : Stmt := top 38
theorem sc_law : FnScope ["script", "place"] ["script"] (defScope s_law) := ⟨rfl, rfl, rfl, by decide +kernel, rfl, by decide +kernel, by decide +kernel⟩
theorem ok_law (F : Fun K "law" "law" s_law f fd) (T : LTx mg) (G_law_cells : Fd P w K mg base CX0 "_law_cells" 1 ["script", "limit"] (spCells K)) (G_law_pot : Fd P w K mg base CX0 "_law_pot" 1 ["script", "place"] (spPot K)) (G_law_right : FdG P w K mg base CX0 "_law_right" 7 ["pot"] spRight) : FnOkG P w K mg base CX0 (7 + 1) f fd ["script"] (spLaw K) := by
  refine fun_okG F sc_law (fun vs H Q E h => ?_) (fun cdv A outer s H vs Q E hr hgu h => ?_)
  · obtain ⟨a, ns, rfl, _⟩ := h
    rfl
  obtain ⟨a, ns, rfl, hS, hl, k⟩ := h
  refine ⟨_, (pss_one (ps_ret (pe_callB (cr_all rfl) rfl T.all (by decide +kernel) (pa_cons (pe_lc (own := [("place", 1)]) (g := (gName 1)) (tt := tYes) rfl sc_law.nd (pi_list (pe_fd G_law_cells (hr.mono (by first | decide | omega)) rfl (pa_cons (pv 0) (pa_cons pe_int pa_nil)))) (blkOk_by (own := [("place", 1)]) (N := ["script", "place"]) (sc := defScope s_law) (by decide +kernel)) (fun _ _ _ _ _ => (pg_name (i := 1) sc_law.nd rfl (Or.inl rfl))) (fun _ _ _ _ _ => pts_nil) (fun _ _ _ _ _ => (pe_fdG G_law_right hr hgu rfl (pa_cons (pe_fd G_law_pot (hr.mono (by decide)) rfl (pa_cons (pv 0) (pa_cons (pv 1) pa_nil))) pa_nil)))) pa_nil)))), ?_⟩
  refine ⟨_, rfl, a, ns, 2, rfl, hS, hl, by decide, fun l H1 n hn g1 hl0 hl1 => ?_⟩
  refine ⟨l, rfl, ⟨_, .of hl1⟩, fun D hD => ?_⟩
  have hlen : ((List.range n).map fun i => V.int (i : Nat)).length = n := by simp
  refine lc_list (K := K) (a := l) (xs := (List.range n).map fun i => V.int (i : Nat)) (fun i H' => Same H1 H' ∧ H' D = some (.lst ((List.replicate i true).map V.bl))) ⟨same_new hD _, upd_same⟩ (fun i H' _ z => .of (z.1 _ _ hl1)) ?_ ?_
  · rintro i x Hi hx ⟨gi, hDi⟩
    have hi : i < n := by have := get_lt hx; rw [hlen] at this; exact this
    have hx' : x = .int (i : Nat) := by
      rw [List.getElem?_map, List.getElem?_range hi] at hx
      exact (Option.some.inj hx).symm
    subst hx'
    refine ⟨rfl, _, rfl, _, rfl, a, ns, i, rfl, gi.seq (g1.seq hS), hl, by omega, fun lp H3 g3 hlp hP => ?_⟩
    have lpD : D ≠ lp := ne_of_none hDi hlp
    refine ⟨lp, rfl, hP, fun H4 g4 => ?_⟩
    refine ⟨_, g4 _ _ (by simpa using lpD) (g3 _ _ hDi), Nat.lt_of_le_of_lt (show _ ≤ 1000 by rw [List.length_map, List.length_replicate]; omega) (by decide), fun b o q => ?_, ?_⟩
    · rw [upd_ne (ne_of_none q hD)]
      have q2 := gi b o q
      exact g4 _ _ (by simpa using ne_of_none q2 hlp) (g3 _ _ q2)
    · rw [upd_same, List.replicate_succ', List.map_append]
      rfl
  · rintro Hi ⟨gi, hDi⟩
    refine ⟨D, List.replicate ((List.range n).map fun i => V.int (i : Nat)).length true, rfl, .of hDi, ?_⟩
    rw [show (List.replicate ((List.range n).map fun i => V.int (i : Nat)).length true).all id = true by simp]
    exact k Hi
end
end Fp
namespace Fp
open PySem PySem.Spec PyProof.Rows L2
theorem all_mk {l : PySem.W.OpenLaw} {w : World} {K : PySem.W.Frag} {h : Heap} {mg : Str → Option Value} {fa : Addr} (X : K.In h) (G : h.Ns mainGlobals mg) (hfa : mg "law" = some (.ref fa))
    {C : Addr}
    (aCP : PySem.W.nsIn K mainGlobals "Levels" = some (some (.ref C)))
    {od_is_whole an_is_whole : Option Addr} {sl_is_whole : Array (Option Value)} {oc_is_whole kV_is_whole dc_is_whole pm_is_whole cd_is_whole ct_is_whole : Value} {f_is_whole : Addr}
    (a_is_whole : PySem.W.nsIn K mainGlobals "is_whole" = some (some (.ref f_is_whole)))
    (l_is_whole : K.lookup f_is_whole = some ⟨oc_is_whole, od_is_whole, .func (PySem.W.fnOf "is_whole" "is_whole" (defArgs s_is_whole) (defBody s_is_whole) (defScope s_is_whole) .none kV_is_whole dc_is_whole pm_is_whole an_is_whole cd_is_whole ct_is_whole), sl_is_whole⟩)
    (c_is_whole : PySem.W.codeIn K cd_is_whole "is_whole" = true)
    (k_is_whole : PySem.W.keepIn K (.ref f_is_whole) = true)
    {od_is_lot an_is_lot : Option Addr} {sl_is_lot : Array (Option Value)} {oc_is_lot kV_is_lot dc_is_lot pm_is_lot cd_is_lot ct_is_lot : Value} {f_is_lot : Addr}
    (a_is_lot : PySem.W.nsIn K mainGlobals "is_lot" = some (some (.ref f_is_lot)))
    (l_is_lot : K.lookup f_is_lot = some ⟨oc_is_lot, od_is_lot, .func (PySem.W.fnOf "is_lot" "is_lot" (defArgs s_is_lot) (defBody s_is_lot) (defScope s_is_lot) .none kV_is_lot dc_is_lot pm_is_lot an_is_lot cd_is_lot ct_is_lot), sl_is_lot⟩)
    (c_is_lot : PySem.W.codeIn K cd_is_lot "is_lot" = true)
    (k_is_lot : PySem.W.keepIn K (.ref f_is_lot) = true)
    {od_is_below an_is_below : Option Addr} {sl_is_below : Array (Option Value)} {oc_is_below kV_is_below dc_is_below pm_is_below cd_is_below ct_is_below : Value} {f_is_below : Addr}
    (a_is_below : PySem.W.nsIn K mainGlobals "is_below" = some (some (.ref f_is_below)))
    (l_is_below : K.lookup f_is_below = some ⟨oc_is_below, od_is_below, .func (PySem.W.fnOf "is_below" "is_below" (defArgs s_is_below) (defBody s_is_below) (defScope s_is_below) .none kV_is_below dc_is_below pm_is_below an_is_below cd_is_below ct_is_below), sl_is_below⟩)
    (c_is_below : PySem.W.codeIn K cd_is_below "is_below" = true)
    (k_is_below : PySem.W.keepIn K (.ref f_is_below) = true)
    {od_is_weaving an_is_weaving : Option Addr} {sl_is_weaving : Array (Option Value)} {oc_is_weaving kV_is_weaving dc_is_weaving pm_is_weaving cd_is_weaving ct_is_weaving : Value} {f_is_weaving : Addr}
    (a_is_weaving : PySem.W.nsIn K mainGlobals "is_weaving" = some (some (.ref f_is_weaving)))
    (l_is_weaving : K.lookup f_is_weaving = some ⟨oc_is_weaving, od_is_weaving, .func (PySem.W.fnOf "is_weaving" "is_weaving" (defArgs s_is_weaving) (defBody s_is_weaving) (defScope s_is_weaving) .none kV_is_weaving dc_is_weaving pm_is_weaving an_is_weaving cd_is_weaving ct_is_weaving), sl_is_weaving⟩)
    (c_is_weaving : PySem.W.codeIn K cd_is_weaving "is_weaving" = true)
    (k_is_weaving : PySem.W.keepIn K (.ref f_is_weaving) = true)
    {od_lies_in an_lies_in : Option Addr} {sl_lies_in : Array (Option Value)} {oc_lies_in kV_lies_in dc_lies_in pm_lies_in cd_lies_in ct_lies_in : Value} {f_lies_in : Addr}
    (a_lies_in : PySem.W.nsIn K mainGlobals "lies_in" = some (some (.ref f_lies_in)))
    (l_lies_in : K.lookup f_lies_in = some ⟨oc_lies_in, od_lies_in, .func (PySem.W.fnOf "lies_in" "lies_in" (defArgs s_lies_in) (defBody s_lies_in) (defScope s_lies_in) .none kV_lies_in dc_lies_in pm_lies_in an_lies_in cd_lies_in ct_lies_in), sl_lies_in⟩)
    (c_lies_in : PySem.W.codeIn K cd_lies_in "lies_in" = true)
    (k_lies_in : PySem.W.keepIn K (.ref f_lies_in) = true)
    {od_exchanged an_exchanged : Option Addr} {sl_exchanged : Array (Option Value)} {oc_exchanged kV_exchanged dc_exchanged pm_exchanged cd_exchanged ct_exchanged : Value} {f_exchanged : Addr}
    (a_exchanged : PySem.W.nsIn K mainGlobals "exchanged" = some (some (.ref f_exchanged)))
    (l_exchanged : K.lookup f_exchanged = some ⟨oc_exchanged, od_exchanged, .func (PySem.W.fnOf "exchanged" "exchanged" (defArgs s_exchanged) (defBody s_exchanged) (defScope s_exchanged) .none kV_exchanged dc_exchanged pm_exchanged an_exchanged cd_exchanged ct_exchanged), sl_exchanged⟩)
    (c_exchanged : PySem.W.codeIn K cd_exchanged "exchanged" = true)
    (k_exchanged : PySem.W.keepIn K (.ref f_exchanged) = true)
    {od_check_many an_check_many : Option Addr} {sl_check_many : Array (Option Value)} {oc_check_many kV_check_many dc_check_many pm_check_many cd_check_many ct_check_many : Value} {f_check_many : Addr}
    (a_check_many : PySem.W.nsIn K mainGlobals "check_many" = some (some (.ref f_check_many)))
    (l_check_many : K.lookup f_check_many = some ⟨oc_check_many, od_check_many, .func (PySem.W.fnOf "check_many" "check_many" (defArgs s_check_many) (defBody s_check_many) (defScope s_check_many) .none kV_check_many dc_check_many pm_check_many an_check_many cd_check_many ct_check_many), sl_check_many⟩)
    (c_check_many : PySem.W.codeIn K cd_check_many "check_many" = true)
    (k_check_many : PySem.W.keepIn K (.ref f_check_many) = true)
    {od_is_at_once an_is_at_once : Option Addr} {sl_is_at_once : Array (Option Value)} {oc_is_at_once kV_is_at_once dc_is_at_once pm_is_at_once cd_is_at_once ct_is_at_once : Value} {f_is_at_once : Addr}
    (a_is_at_once : PySem.W.nsIn K mainGlobals "is_at_once" = some (some (.ref f_is_at_once)))
    (l_is_at_once : K.lookup f_is_at_once = some ⟨oc_is_at_once, od_is_at_once, .func (PySem.W.fnOf "is_at_once" "is_at_once" (defArgs s_is_at_once) (defBody s_is_at_once) (defScope s_is_at_once) .none kV_is_at_once dc_is_at_once pm_is_at_once an_is_at_once cd_is_at_once ct_is_at_once), sl_is_at_once⟩)
    (c_is_at_once : PySem.W.codeIn K cd_is_at_once "is_at_once" = true)
    (k_is_at_once : PySem.W.keepIn K (.ref f_is_at_once) = true)
    {od_is_view an_is_view : Option Addr} {sl_is_view : Array (Option Value)} {oc_is_view kV_is_view dc_is_view pm_is_view cd_is_view ct_is_view : Value} {f_is_view : Addr}
    (a_is_view : PySem.W.nsIn K mainGlobals "is_view" = some (some (.ref f_is_view)))
    (l_is_view : K.lookup f_is_view = some ⟨oc_is_view, od_is_view, .func (PySem.W.fnOf "is_view" "is_view" (defArgs s_is_view) (defBody s_is_view) (defScope s_is_view) .none kV_is_view dc_is_view pm_is_view an_is_view cd_is_view ct_is_view), sl_is_view⟩)
    (c_is_view : PySem.W.codeIn K cd_is_view "is_view" = true)
    (k_is_view : PySem.W.keepIn K (.ref f_is_view) = true)
    {od_fit an_fit : Option Addr} {sl_fit : Array (Option Value)} {oc_fit kV_fit dc_fit pm_fit cd_fit ct_fit : Value} {f_fit : Addr}
    (a_fit : PySem.W.nsIn K mainGlobals "fit" = some (some (.ref f_fit)))
    (l_fit : K.lookup f_fit = some ⟨oc_fit, od_fit, .func (PySem.W.fnOf "fit" "fit" (defArgs s_fit) (defBody s_fit) (defScope s_fit) .none kV_fit dc_fit pm_fit an_fit cd_fit ct_fit), sl_fit⟩)
    (c_fit : PySem.W.codeIn K cd_fit "fit" = true)
    (k_fit : PySem.W.keepIn K (.ref f_fit) = true)
    {od_law_pot an_law_pot : Option Addr} {sl_law_pot : Array (Option Value)} {oc_law_pot kV_law_pot dc_law_pot pm_law_pot cd_law_pot ct_law_pot : Value} {f_law_pot : Addr}
    (a_law_pot : PySem.W.nsIn K mainGlobals "_law_pot" = some (some (.ref f_law_pot)))
    (l_law_pot : K.lookup f_law_pot = some ⟨oc_law_pot, od_law_pot, .func (PySem.W.fnOf "_law_pot" "_law_pot" (defArgs s_law_pot) (defBody s_law_pot) (defScope s_law_pot) .none kV_law_pot dc_law_pot pm_law_pot an_law_pot cd_law_pot ct_law_pot), sl_law_pot⟩)
    (c_law_pot : PySem.W.codeIn K cd_law_pot "_law_pot" = true)
    (k_law_pot : PySem.W.keepIn K (.ref f_law_pot) = true)
    {od_law_take an_law_take : Option Addr} {sl_law_take : Array (Option Value)} {oc_law_take kV_law_take dc_law_take pm_law_take cd_law_take ct_law_take : Value} {f_law_take : Addr}
    (a_law_take : PySem.W.nsIn K mainGlobals "_law_take" = some (some (.ref f_law_take)))
    (l_law_take : K.lookup f_law_take = some ⟨oc_law_take, od_law_take, .func (PySem.W.fnOf "_law_take" "_law_take" (defArgs s_law_take) (defBody s_law_take) (defScope s_law_take) .none kV_law_take dc_law_take pm_law_take an_law_take cd_law_take ct_law_take), sl_law_take⟩)
    (c_law_take : PySem.W.codeIn K cd_law_take "_law_take" = true)
    (k_law_take : PySem.W.keepIn K (.ref f_law_take) = true)
    {od_law_of an_law_of : Option Addr} {sl_law_of : Array (Option Value)} {oc_law_of kV_law_of dc_law_of pm_law_of cd_law_of ct_law_of : Value} {f_law_of : Addr}
    (a_law_of : PySem.W.nsIn K mainGlobals "_law_of" = some (some (.ref f_law_of)))
    (l_law_of : K.lookup f_law_of = some ⟨oc_law_of, od_law_of, .func (PySem.W.fnOf "_law_of" "_law_of" (defArgs s_law_of) (defBody s_law_of) (defScope s_law_of) .none kV_law_of dc_law_of pm_law_of an_law_of cd_law_of ct_law_of), sl_law_of⟩)
    (c_law_of : PySem.W.codeIn K cd_law_of "_law_of" = true)
    (k_law_of : PySem.W.keepIn K (.ref f_law_of) = true)
    {od_law_cells an_law_cells : Option Addr} {sl_law_cells : Array (Option Value)} {oc_law_cells kV_law_cells dc_law_cells pm_law_cells cd_law_cells ct_law_cells : Value} {f_law_cells : Addr}
    (a_law_cells : PySem.W.nsIn K mainGlobals "_law_cells" = some (some (.ref f_law_cells)))
    (l_law_cells : K.lookup f_law_cells = some ⟨oc_law_cells, od_law_cells, .func (PySem.W.fnOf "_law_cells" "_law_cells" (defArgs s_law_cells) (defBody s_law_cells) (defScope s_law_cells) .none kV_law_cells dc_law_cells pm_law_cells an_law_cells cd_law_cells ct_law_cells), sl_law_cells⟩)
    (c_law_cells : PySem.W.codeIn K cd_law_cells "_law_cells" = true)
    (k_law_cells : PySem.W.keepIn K (.ref f_law_cells) = true)
    {od_law_int an_law_int : Option Addr} {sl_law_int : Array (Option Value)} {oc_law_int kV_law_int dc_law_int pm_law_int cd_law_int ct_law_int : Value} {f_law_int : Addr}
    (a_law_int : PySem.W.nsIn K mainGlobals "_law_int" = some (some (.ref f_law_int)))
    (l_law_int : K.lookup f_law_int = some ⟨oc_law_int, od_law_int, .func (PySem.W.fnOf "_law_int" "_law_int" (defArgs s_law_int) (defBody s_law_int) (defScope s_law_int) .none kV_law_int dc_law_int pm_law_int an_law_int cd_law_int ct_law_int), sl_law_int⟩)
    (c_law_int : PySem.W.codeIn K cd_law_int "_law_int" = true)
    (k_law_int : PySem.W.keepIn K (.ref f_law_int) = true)
    {od_law_fresh an_law_fresh : Option Addr} {sl_law_fresh : Array (Option Value)} {oc_law_fresh kV_law_fresh dc_law_fresh pm_law_fresh cd_law_fresh ct_law_fresh : Value} {f_law_fresh : Addr}
    (a_law_fresh : PySem.W.nsIn K mainGlobals "_law_fresh" = some (some (.ref f_law_fresh)))
    (l_law_fresh : K.lookup f_law_fresh = some ⟨oc_law_fresh, od_law_fresh, .func (PySem.W.fnOf "_law_fresh" "_law_fresh" (defArgs s_law_fresh) (defBody s_law_fresh) (defScope s_law_fresh) .none kV_law_fresh dc_law_fresh pm_law_fresh an_law_fresh cd_law_fresh ct_law_fresh), sl_law_fresh⟩)
    (c_law_fresh : PySem.W.codeIn K cd_law_fresh "_law_fresh" = true)
    (k_law_fresh : PySem.W.keepIn K (.ref f_law_fresh) = true)
    {od_law_next an_law_next : Option Addr} {sl_law_next : Array (Option Value)} {oc_law_next kV_law_next dc_law_next pm_law_next cd_law_next ct_law_next : Value} {f_law_next : Addr}
    (a_law_next : PySem.W.nsIn K mainGlobals "_law_next" = some (some (.ref f_law_next)))
    (l_law_next : K.lookup f_law_next = some ⟨oc_law_next, od_law_next, .func (PySem.W.fnOf "_law_next" "_law_next" (defArgs s_law_next) (defBody s_law_next) (defScope s_law_next) .none kV_law_next dc_law_next pm_law_next an_law_next cd_law_next ct_law_next), sl_law_next⟩)
    (c_law_next : PySem.W.codeIn K cd_law_next "_law_next" = true)
    (k_law_next : PySem.W.keepIn K (.ref f_law_next) = true)
    {od_law_step an_law_step : Option Addr} {sl_law_step : Array (Option Value)} {oc_law_step kV_law_step dc_law_step pm_law_step cd_law_step ct_law_step : Value} {f_law_step : Addr}
    (a_law_step : PySem.W.nsIn K mainGlobals "_law_step" = some (some (.ref f_law_step)))
    (l_law_step : K.lookup f_law_step = some ⟨oc_law_step, od_law_step, .func (PySem.W.fnOf "_law_step" "_law_step" (defArgs s_law_step) (defBody s_law_step) (defScope s_law_step) .none kV_law_step dc_law_step pm_law_step an_law_step cd_law_step ct_law_step), sl_law_step⟩)
    (c_law_step : PySem.W.codeIn K cd_law_step "_law_step" = true)
    (k_law_step : PySem.W.keepIn K (.ref f_law_step) = true)
    {od_law_woven an_law_woven : Option Addr} {sl_law_woven : Array (Option Value)} {oc_law_woven kV_law_woven dc_law_woven pm_law_woven cd_law_woven ct_law_woven : Value} {f_law_woven : Addr}
    (a_law_woven : PySem.W.nsIn K mainGlobals "_law_woven" = some (some (.ref f_law_woven)))
    (l_law_woven : K.lookup f_law_woven = some ⟨oc_law_woven, od_law_woven, .func (PySem.W.fnOf "_law_woven" "_law_woven" (defArgs s_law_woven) (defBody s_law_woven) (defScope s_law_woven) .none kV_law_woven dc_law_woven pm_law_woven an_law_woven cd_law_woven ct_law_woven), sl_law_woven⟩)
    (c_law_woven : PySem.W.codeIn K cd_law_woven "_law_woven" = true)
    (k_law_woven : PySem.W.keepIn K (.ref f_law_woven) = true)
    {od_law_weaving an_law_weaving : Option Addr} {sl_law_weaving : Array (Option Value)} {oc_law_weaving kV_law_weaving dc_law_weaving pm_law_weaving cd_law_weaving ct_law_weaving : Value} {f_law_weaving : Addr}
    (a_law_weaving : PySem.W.nsIn K mainGlobals "_law_weaving" = some (some (.ref f_law_weaving)))
    (l_law_weaving : K.lookup f_law_weaving = some ⟨oc_law_weaving, od_law_weaving, .func (PySem.W.fnOf "_law_weaving" "_law_weaving" (defArgs s_law_weaving) (defBody s_law_weaving) (defScope s_law_weaving) .none kV_law_weaving dc_law_weaving pm_law_weaving an_law_weaving cd_law_weaving ct_law_weaving), sl_law_weaving⟩)
    (c_law_weaving : PySem.W.codeIn K cd_law_weaving "_law_weaving" = true)
    (k_law_weaving : PySem.W.keepIn K (.ref f_law_weaving) = true)
    {od_law_is_lot_of an_law_is_lot_of : Option Addr} {sl_law_is_lot_of : Array (Option Value)} {oc_law_is_lot_of kV_law_is_lot_of dc_law_is_lot_of pm_law_is_lot_of cd_law_is_lot_of ct_law_is_lot_of : Value} {f_law_is_lot_of : Addr}
    (a_law_is_lot_of : PySem.W.nsIn K mainGlobals "_law_is_lot_of" = some (some (.ref f_law_is_lot_of)))
    (l_law_is_lot_of : K.lookup f_law_is_lot_of = some ⟨oc_law_is_lot_of, od_law_is_lot_of, .func (PySem.W.fnOf "_law_is_lot_of" "_law_is_lot_of" (defArgs s_law_is_lot_of) (defBody s_law_is_lot_of) (defScope s_law_is_lot_of) .none kV_law_is_lot_of dc_law_is_lot_of pm_law_is_lot_of an_law_is_lot_of cd_law_is_lot_of ct_law_is_lot_of), sl_law_is_lot_of⟩)
    (c_law_is_lot_of : PySem.W.codeIn K cd_law_is_lot_of "_law_is_lot_of" = true)
    (k_law_is_lot_of : PySem.W.keepIn K (.ref f_law_is_lot_of) = true)
    {od_law_is_row an_law_is_row : Option Addr} {sl_law_is_row : Array (Option Value)} {oc_law_is_row kV_law_is_row dc_law_is_row pm_law_is_row cd_law_is_row ct_law_is_row : Value} {f_law_is_row : Addr}
    (a_law_is_row : PySem.W.nsIn K mainGlobals "_law_is_row" = some (some (.ref f_law_is_row)))
    (l_law_is_row : K.lookup f_law_is_row = some ⟨oc_law_is_row, od_law_is_row, .func (PySem.W.fnOf "_law_is_row" "_law_is_row" (defArgs s_law_is_row) (defBody s_law_is_row) (defScope s_law_is_row) .none kV_law_is_row dc_law_is_row pm_law_is_row an_law_is_row cd_law_is_row ct_law_is_row), sl_law_is_row⟩)
    (c_law_is_row : PySem.W.codeIn K cd_law_is_row "_law_is_row" = true)
    (k_law_is_row : PySem.W.keepIn K (.ref f_law_is_row) = true)
    {od_law_right an_law_right : Option Addr} {sl_law_right : Array (Option Value)} {oc_law_right kV_law_right dc_law_right pm_law_right cd_law_right ct_law_right : Value} {f_law_right : Addr}
    (a_law_right : PySem.W.nsIn K mainGlobals "_law_right" = some (some (.ref f_law_right)))
    (l_law_right : K.lookup f_law_right = some ⟨oc_law_right, od_law_right, .func (PySem.W.fnOf "_law_right" "_law_right" (defArgs s_law_right) (defBody s_law_right) (defScope s_law_right) .none kV_law_right dc_law_right pm_law_right an_law_right cd_law_right ct_law_right), sl_law_right⟩)
    (c_law_right : PySem.W.codeIn K cd_law_right "_law_right" = true)
    (k_law_right : PySem.W.keepIn K (.ref f_law_right) = true)
    {od_law an_law : Option Addr} {sl_law : Array (Option Value)} {oc_law kV_law dc_law pm_law cd_law ct_law : Value} {f_law : Addr}
    (a_law : PySem.W.nsIn K mainGlobals "law" = some (some (.ref f_law)))
    (l_law : K.lookup f_law = some ⟨oc_law, od_law, .func (PySem.W.fnOf "law" "law" (defArgs s_law) (defBody s_law) (defScope s_law) .none kV_law dc_law pm_law an_law cd_law ct_law), sl_law⟩)
    (c_law : PySem.W.codeIn K cd_law "law" = true)
    (k_law : PySem.W.keepIn K (.ref f_law) = true)
    {od_Levels_init an_Levels_init : Option Addr} {sl_Levels_init : Array (Option Value)} {oc_Levels_init kV_Levels_init dc_Levels_init pm_Levels_init cd_Levels_init ct_Levels_init : Value} {f_Levels_init : Addr}
    (a_Levels_init : PySem.W.findIn K (.ref C) "__init__" = some (some (.ref f_Levels_init)))
    (l_Levels_init : K.lookup f_Levels_init = some ⟨oc_Levels_init, od_Levels_init, .func (PySem.W.fnOf "__init__" "Levels.__init__" (defArgs s_Levels_init) (defBody s_Levels_init) (defScope s_Levels_init) .none kV_Levels_init dc_Levels_init pm_Levels_init an_Levels_init cd_Levels_init ct_Levels_init), sl_Levels_init⟩)
    (c_Levels_init : PySem.W.codeIn K cd_Levels_init "Levels.__init__" = true)
    (k_Levels_init : PySem.W.keepIn K (.ref f_Levels_init) = true)
    (i_Levels_init : PySem.W.isFn K (.ref f_Levels_init) = true)
    {od_Levels_len an_Levels_len : Option Addr} {sl_Levels_len : Array (Option Value)} {oc_Levels_len kV_Levels_len dc_Levels_len pm_Levels_len cd_Levels_len ct_Levels_len : Value} {f_Levels_len : Addr}
    (a_Levels_len : PySem.W.findIn K (.ref C) "__len__" = some (some (.ref f_Levels_len)))
    (l_Levels_len : K.lookup f_Levels_len = some ⟨oc_Levels_len, od_Levels_len, .func (PySem.W.fnOf "__len__" "Levels.__len__" (defArgs s_Levels_len) (defBody s_Levels_len) (defScope s_Levels_len) .none kV_Levels_len dc_Levels_len pm_Levels_len an_Levels_len cd_Levels_len ct_Levels_len), sl_Levels_len⟩)
    (c_Levels_len : PySem.W.codeIn K cd_Levels_len "Levels.__len__" = true)
    (k_Levels_len : PySem.W.keepIn K (.ref f_Levels_len) = true)
    (i_Levels_len : PySem.W.isFn K (.ref f_Levels_len) = true)
    {od_Levels_next an_Levels_next : Option Addr} {sl_Levels_next : Array (Option Value)} {oc_Levels_next kV_Levels_next dc_Levels_next pm_Levels_next cd_Levels_next ct_Levels_next : Value} {f_Levels_next : Addr}
    (a_Levels_next : PySem.W.findIn K (.ref C) "next" = some (some (.ref f_Levels_next)))
    (l_Levels_next : K.lookup f_Levels_next = some ⟨oc_Levels_next, od_Levels_next, .func (PySem.W.fnOf "next" "Levels.next" (defArgs s_Levels_next) (defBody s_Levels_next) (defScope s_Levels_next) .none kV_Levels_next dc_Levels_next pm_Levels_next an_Levels_next cd_Levels_next ct_Levels_next), sl_Levels_next⟩)
    (c_Levels_next : PySem.W.codeIn K cd_Levels_next "Levels.next" = true)
    (k_Levels_next : PySem.W.keepIn K (.ref f_Levels_next) = true)
    (i_Levels_next : PySem.W.isFn K (.ref f_Levels_next) = true)
    {od_Levels_step an_Levels_step : Option Addr} {sl_Levels_step : Array (Option Value)} {oc_Levels_step kV_Levels_step dc_Levels_step pm_Levels_step cd_Levels_step ct_Levels_step : Value} {f_Levels_step : Addr}
    (a_Levels_step : PySem.W.findIn K (.ref C) "step" = some (some (.ref f_Levels_step)))
    (l_Levels_step : K.lookup f_Levels_step = some ⟨oc_Levels_step, od_Levels_step, .func (PySem.W.fnOf "step" "Levels.step" (defArgs s_Levels_step) (defBody s_Levels_step) (defScope s_Levels_step) .none kV_Levels_step dc_Levels_step pm_Levels_step an_Levels_step cd_Levels_step ct_Levels_step), sl_Levels_step⟩)
    (c_Levels_step : PySem.W.codeIn K cd_Levels_step "Levels.step" = true)
    (k_Levels_step : PySem.W.keepIn K (.ref f_Levels_step) = true)
    (i_Levels_step : PySem.W.isFn K (.ref f_Levels_step) = true)
    {od_Levels_weave an_Levels_weave : Option Addr} {sl_Levels_weave : Array (Option Value)} {oc_Levels_weave kV_Levels_weave dc_Levels_weave pm_Levels_weave cd_Levels_weave ct_Levels_weave : Value} {f_Levels_weave : Addr}
    (a_Levels_weave : PySem.W.findIn K (.ref C) "weave" = some (some (.ref f_Levels_weave)))
    (l_Levels_weave : K.lookup f_Levels_weave = some ⟨oc_Levels_weave, od_Levels_weave, .func (PySem.W.fnOf "weave" "Levels.weave" (defArgs s_Levels_weave) (defBody s_Levels_weave) (defScope s_Levels_weave) .none kV_Levels_weave dc_Levels_weave pm_Levels_weave an_Levels_weave cd_Levels_weave ct_Levels_weave), sl_Levels_weave⟩)
    (c_Levels_weave : PySem.W.codeIn K cd_Levels_weave "Levels.weave" = true)
    (k_Levels_weave : PySem.W.keepIn K (.ref f_Levels_weave) = true)
    (i_Levels_weave : PySem.W.isFn K (.ref f_Levels_weave) = true)
    {od_Levels_view_from an_Levels_view_from : Option Addr} {sl_Levels_view_from : Array (Option Value)} {oc_Levels_view_from kV_Levels_view_from dc_Levels_view_from pm_Levels_view_from cd_Levels_view_from ct_Levels_view_from : Value} {f_Levels_view_from : Addr}
    (a_Levels_view_from : PySem.W.findIn K (.ref C) "view_from" = some (some (.ref f_Levels_view_from)))
    (l_Levels_view_from : K.lookup f_Levels_view_from = some ⟨oc_Levels_view_from, od_Levels_view_from, .func (PySem.W.fnOf "view_from" "Levels.view_from" (defArgs s_Levels_view_from) (defBody s_Levels_view_from) (defScope s_Levels_view_from) .none kV_Levels_view_from dc_Levels_view_from pm_Levels_view_from an_Levels_view_from cd_Levels_view_from ct_Levels_view_from), sl_Levels_view_from⟩)
    (c_Levels_view_from : PySem.W.codeIn K cd_Levels_view_from "Levels.view_from" = true)
    (k_Levels_view_from : PySem.W.keepIn K (.ref f_Levels_view_from) = true)
    (i_Levels_view_from : PySem.W.isFn K (.ref f_Levels_view_from) = true)
    (pgC : PySem.W.plainGet K C Str.empty = true)
    (hdC : PySem.W.hasDictIn K C = true)
    (poC : PySem.W.plainOver K C = true)
    (saC : PySem.W.findIn K (.ref C) "__setattr__" = some (some (.builtin "object.__setattr__")))
    (mkC : PySem.W.makesIn K C = true)
    (kpC : PySem.W.keepIn K (.ref C) = true)
    (np_many : PySem.W.findIn K (.ref C) "many" = some none)
    (np_levels : PySem.W.findIn K (.ref C) "levels" = some none)
    (np_views : PySem.W.findIn K (.ref C) "views" = some none)
    (np_run : PySem.W.findIn K (.ref C) "run" = some none)
    (np_looking : PySem.W.findIn K (.ref C) "looking" = some none)
    (z_isinstance : PySem.W.nsIn K mainGlobals "isinstance" = some none)
    (z_int : PySem.W.nsIn K mainGlobals "int" = some none)
    (z_bool : PySem.W.nsIn K mainGlobals "bool" = some none)
    (z_tuple : PySem.W.nsIn K mainGlobals "tuple" = some none)
    (z_all : PySem.W.nsIn K mainGlobals "all" = some none)
    (z_len : PySem.W.nsIn K mainGlobals "len" = some none)
    (z_enumerate : PySem.W.nsIn K mainGlobals "enumerate" = some none)
    (z_sum : PySem.W.nsIn K mainGlobals "sum" = some none)
    (z_abs : PySem.W.nsIn K mainGlobals "abs" = some none)
    (z_list : PySem.W.nsIn K mainGlobals "list" = some none)
    (z_range : PySem.W.nsIn K mainGlobals "range" = some none)
    (z_max : PySem.W.nsIn K mainGlobals "max" = some none)
    (z_min : PySem.W.nsIn K mainGlobals "min" = some none)
    (z_repr : PySem.W.nsIn K mainGlobals "repr" = some none)
    {t_MOST_HANDS : Tok}
    (v_MOST_HANDS : PySem.W.nsIn K mainGlobals "MOST_HANDS" = some (some (.int 5 t_MOST_HANDS)))
    {t_MOST_WEAVING : Tok}
    (v_MOST_WEAVING : PySem.W.nsIn K mainGlobals "MOST_WEAVING" = some (some (.int 3000 t_MOST_WEAVING)))
    (z_zip : PySem.W.nsIn K mainGlobals "zip" = some none)
    (z_any : PySem.W.nsIn K mainGlobals "any" = some none) :
    ∃ fd : FuncData, (∀ (s : Shared) (v : Value), BindsTo s fd ⟨[v], []⟩ [("script", v)]) ∧ ∀ base : Heap, K.In base → base.Ns mainGlobals mg → FnOkG l.prog w K mg base CX0 (7 + 1) fa fd ["script"] (spLaw K) := by
  have e := hfa.symm.trans (PySem.W.mg_of X G a_law)
  cases e
  have F_is_whole := fun_mk (st := s_is_whole) l_is_whole c_is_whole k_is_whole
  have b_is_whole := F_is_whole.binds (ps := ["value"]) fun _ _ _ _ _ _ us hl => match us, hl with | [_], _ => rfl
  have F_is_lot := fun_mk (st := s_is_lot) l_is_lot c_is_lot k_is_lot
  have b_is_lot := F_is_lot.binds (ps := ["value"]) fun _ _ _ _ _ _ us hl => match us, hl with | [_], _ => rfl
  have F_is_below := fun_mk (st := s_is_below) l_is_below c_is_below k_is_below
  have b_is_below := F_is_below.binds (ps := ["value", "many"]) fun _ _ _ _ _ _ us hl => match us, hl with | [_, _], _ => rfl
  have F_is_weaving := fun_mk (st := s_is_weaving) l_is_weaving c_is_weaving k_is_weaving
  have b_is_weaving := F_is_weaving.binds (ps := ["value", "many"]) fun _ _ _ _ _ _ us hl => match us, hl with | [_, _], _ => rfl
  have F_lies_in := fun_mk (st := s_lies_in) l_lies_in c_lies_in k_lies_in
  have b_lies_in := F_lies_in.binds (ps := ["lot", "other"]) fun _ _ _ _ _ _ us hl => match us, hl with | [_, _], _ => rfl
  have F_exchanged := fun_mk (st := s_exchanged) l_exchanged c_exchanged k_exchanged
  have b_exchanged := F_exchanged.binds (ps := ["row", "at", "thing"]) fun _ _ _ _ _ _ us hl => match us, hl with | [_, _, _], _ => rfl
  have F_check_many := fun_mk (st := s_check_many) l_check_many c_check_many k_check_many
  have b_check_many := F_check_many.binds (ps := ["many"]) fun _ _ _ _ _ _ us hl => match us, hl with | [_], _ => rfl
  have F_is_at_once := fun_mk (st := s_is_at_once) l_is_at_once c_is_at_once k_is_at_once
  have b_is_at_once := F_is_at_once.binds (ps := ["many", "value"]) fun _ _ _ _ _ _ us hl => match us, hl with | [_, _], _ => rfl
  have F_is_view := fun_mk (st := s_is_view) l_is_view c_is_view k_is_view
  have b_is_view := F_is_view.binds (ps := ["many", "hand", "value"]) fun _ _ _ _ _ _ us hl => match us, hl with | [_, _, _], _ => rfl
  have F_fit := fun_mk (st := s_fit) l_fit c_fit k_fit
  have b_fit := F_fit.binds (ps := ["one", "other"]) fun _ _ _ _ _ _ us hl => match us, hl with | [_, _], _ => rfl
  have F_law_pot := fun_mk (st := s_law_pot) l_law_pot c_law_pot k_law_pot
  have b_law_pot := F_law_pot.binds (ps := ["script", "place"]) fun _ _ _ _ _ _ us hl => match us, hl with | [_, _], _ => rfl
  have F_law_take := fun_mk (st := s_law_take) l_law_take c_law_take k_law_take
  have b_law_take := F_law_take.binds (ps := ["pot", "upto"]) fun _ _ _ _ _ _ us hl => match us, hl with | [_, _], _ => rfl
  have F_law_of := fun_mk (st := s_law_of) l_law_of c_law_of k_law_of
  have b_law_of := F_law_of.binds (ps := ["pot", "some"]) fun _ _ _ _ _ _ us hl => match us, hl with | [_, _], _ => rfl
  have F_law_cells := fun_mk (st := s_law_cells) l_law_cells c_law_cells k_law_cells
  have b_law_cells := F_law_cells.binds (ps := ["script", "limit"]) fun _ _ _ _ _ _ us hl => match us, hl with | [_, _], _ => rfl
  have F_law_int := fun_mk (st := s_law_int) l_law_int c_law_int k_law_int
  have b_law_int := F_law_int.binds (ps := ["value", "low", "high"]) fun _ _ _ _ _ _ us hl => match us, hl with | [_, _, _], _ => rfl
  have F_law_fresh := fun_mk (st := s_law_fresh) l_law_fresh c_law_fresh k_law_fresh
  have b_law_fresh := F_law_fresh.binds (ps := ["many"]) fun _ _ _ _ _ _ us hl => match us, hl with | [_], _ => rfl
  have F_law_next := fun_mk (st := s_law_next) l_law_next c_law_next k_law_next
  have b_law_next := F_law_next.binds (ps := ["stair", "hand"]) fun _ _ _ _ _ _ us hl => match us, hl with | [_, _], _ => rfl
  have F_law_step := fun_mk (st := s_law_step) l_law_step c_law_step k_law_step
  have b_law_step := F_law_step.binds (ps := ["stair", "hand"]) fun _ _ _ _ _ _ us hl => match us, hl with | [_, _], _ => rfl
  have F_law_woven := fun_mk (st := s_law_woven) l_law_woven c_law_woven k_law_woven
  have b_law_woven := F_law_woven.binds (ps := ["stair", "weaving"]) fun _ _ _ _ _ _ us hl => match us, hl with | [_, _], _ => rfl
  have F_law_weaving := fun_mk (st := s_law_weaving) l_law_weaving c_law_weaving k_law_weaving
  have b_law_weaving := F_law_weaving.binds (ps := ["pot", "many", "steps"]) fun _ _ _ _ _ _ us hl => match us, hl with | [_, _, _], _ => rfl
  have F_law_is_lot_of := fun_mk (st := s_law_is_lot_of) l_law_is_lot_of c_law_is_lot_of k_law_is_lot_of
  have b_law_is_lot_of := F_law_is_lot_of.binds (ps := ["value", "many"]) fun _ _ _ _ _ _ us hl => match us, hl with | [_, _], _ => rfl
  have F_law_is_row := fun_mk (st := s_law_is_row) l_law_is_row c_law_is_row k_law_is_row
  have b_law_is_row := F_law_is_row.binds (ps := ["many", "value"]) fun _ _ _ _ _ _ us hl => match us, hl with | [_, _], _ => rfl
  have F_law_right := fun_mk (st := s_law_right) l_law_right c_law_right k_law_right
  have b_law_right := F_law_right.binds (ps := ["pot"]) fun _ _ _ _ _ _ us hl => match us, hl with | [_], _ => rfl
  have F_law := fun_mk (st := s_law) l_law c_law k_law
  have b_law := F_law.binds (ps := ["script"]) fun _ _ _ _ _ _ us hl => match us, hl with | [_], _ => rfl
  have F_Levels_init := fun_mk (st := s_Levels_init) l_Levels_init c_Levels_init k_Levels_init
  have b_Levels_init := F_Levels_init.binds (ps := ["self", "many"]) fun _ _ _ _ _ _ us hl => match us, hl with | [_, _], _ => rfl
  have F_Levels_len := fun_mk (st := s_Levels_len) l_Levels_len c_Levels_len k_Levels_len
  have b_Levels_len := F_Levels_len.binds (ps := ["self"]) fun _ _ _ _ _ _ us hl => match us, hl with | [_], _ => rfl
  have F_Levels_next := fun_mk (st := s_Levels_next) l_Levels_next c_Levels_next k_Levels_next
  have b_Levels_next := F_Levels_next.binds (ps := ["self", "hand"]) fun _ _ _ _ _ _ us hl => match us, hl with | [_, _], _ => rfl
  have F_Levels_step := fun_mk (st := s_Levels_step) l_Levels_step c_Levels_step k_Levels_step
  have b_Levels_step := F_Levels_step.binds (ps := ["self", "hand"]) fun _ _ _ _ _ _ us hl => match us, hl with | [_, _], _ => rfl
  have F_Levels_weave := fun_mk (st := s_Levels_weave) l_Levels_weave c_Levels_weave k_Levels_weave
  have b_Levels_weave := F_Levels_weave.binds (ps := ["self", "weaving"]) fun _ _ _ _ _ _ us hl => match us, hl with | [_, _], _ => rfl
  have F_Levels_view_from := fun_mk (st := s_Levels_view_from) l_Levels_view_from c_Levels_view_from k_Levels_view_from
  have b_Levels_view_from := F_Levels_view_from.binds (ps := ["self", "hand"]) fun _ _ _ _ _ _ us hl => match us, hl with | [_, _], _ => rfl
  refine ⟨PySem.W.fnOf "law" "law" (defArgs s_law) (defBody s_law) (defScope s_law) .none kV_law dc_law pm_law an_law cd_law ct_law, fun s v => .of_eq rfl, fun base _ _ => ?_⟩
  have hC : LC K C := ⟨⟨pgC, hdC, poC, saC⟩, np_many, np_levels, np_views, np_run, np_looking⟩
  have T : PTx mg := ⟨(PySem.W.mg_none_of X G z_isinstance), (PySem.W.mg_none_of X G z_int), (PySem.W.mg_none_of X G z_bool), (PySem.W.mg_none_of X G z_tuple), (PySem.W.mg_none_of X G z_all), (PySem.W.mg_none_of X G z_len), (PySem.W.mg_none_of X G z_enumerate), ⟨_, (PySem.W.mg_of X G v_MOST_HANDS)⟩⟩
  have LT : LTx mg := ⟨(PySem.W.mg_none_of X G z_len), (PySem.W.mg_none_of X G z_int), (PySem.W.mg_none_of X G z_sum), (PySem.W.mg_none_of X G z_abs), (PySem.W.mg_none_of X G z_list), (PySem.W.mg_none_of X G z_tuple), (PySem.W.mg_none_of X G z_range), (PySem.W.mg_none_of X G z_max), (PySem.W.mg_none_of X G z_min), (PySem.W.mg_none_of X G z_repr), (PySem.W.mg_none_of X G z_all), (PySem.W.mg_none_of X G z_enumerate)⟩
  have G_is_whole : Fd l.prog w K mg base CX0 "is_whole" 1 ["value"] spIsWhole := ⟨_, _, (PySem.W.mg_of X G a_is_whole), k_is_whole, b_is_whole, ok_is_whole F_is_whole T⟩
  have G_is_below : Fd l.prog w K mg base CX0 "is_below" 2 ["value", "many"] spBelow := ⟨_, _, (PySem.W.mg_of X G a_is_below), k_is_below, b_is_below, ok_is_below F_is_below T G_is_whole⟩
  have G_exchanged : Fd l.prog w K mg base CX0 "exchanged" 1 ["row", "at", "thing"] (spExch K) := ⟨_, _, (PySem.W.mg_of X G a_exchanged), k_exchanged, b_exchanged, ok_exchanged F_exchanged⟩
  have G_check_many : Fd l.prog w K mg base CX0 "check_many" 2 ["many"] spChkMany := ⟨_, _, (PySem.W.mg_of X G a_check_many), k_check_many, b_check_many, ok_check_many F_check_many T G_is_whole⟩
  have M_Levels : MkC l.prog w K mg base "Levels" C 3 ["self", "many"] (spLInit K C) := ⟨(PySem.W.mg_of X G aCP), _, _, ⟨mkC, a_Levels_init, i_Levels_init, kpC⟩, b_Levels_init, ok_Levels_init F_Levels_init hC G_check_many⟩
  have M_next : Md l.prog w K mg base CX0 C "next" 3 ["self", "hand"] (spLNext K C) := ⟨_, _, ⟨a_Levels_next, i_Levels_next, k_Levels_next⟩, b_Levels_next, ok_Levels_next F_Levels_next hC G_is_below⟩
  have M_view_from : Md l.prog w K mg base CX0 C "view_from" 1 ["self", "hand"] (spLView K C) := ⟨_, _, ⟨a_Levels_view_from, i_Levels_view_from, k_Levels_view_from⟩, b_Levels_view_from, ok_Levels_view_from F_Levels_view_from T hC⟩
  have M_step : Md l.prog w K mg base CX0 C "step" 4 ["self", "hand"] (spLStep K C) := ⟨_, _, ⟨a_Levels_step, i_Levels_step, k_Levels_step⟩, b_Levels_step, ok_Levels_step F_Levels_step hC G_exchanged M_next M_view_from⟩
  have G_law_take : Fd l.prog w K mg base CX0 "_law_take" 1 ["pot", "upto"] spTake := ⟨_, _, (PySem.W.mg_of X G a_law_take), k_law_take, b_law_take, ok_law_take F_law_take LT⟩
  have G_law_of : Fd l.prog w K mg base CX0 "_law_of" 2 ["pot", "some"] (spOf K) := ⟨_, _, (PySem.W.mg_of X G a_law_of), k_law_of, b_law_of, ok_law_of F_law_of LT G_law_take⟩
  have G_law_cells : Fd l.prog w K mg base CX0 "_law_cells" 1 ["script", "limit"] (spCells K) := ⟨_, _, (PySem.W.mg_of X G a_law_cells), k_law_cells, b_law_cells, ok_law_cells F_law_cells LT⟩
  have G_law_pot : Fd l.prog w K mg base CX0 "_law_pot" 1 ["script", "place"] (spPot K) := ⟨_, _, (PySem.W.mg_of X G a_law_pot), k_law_pot, b_law_pot, ok_law_pot F_law_pot LT⟩
  have WT : WTx mg := ⟨(PySem.W.mg_none_of X G z_isinstance), (PySem.W.mg_none_of X G z_tuple), (PySem.W.mg_none_of X G z_all), (PySem.W.mg_none_of X G z_len), (PySem.W.mg_none_of X G z_enumerate), (PySem.W.mg_none_of X G z_zip), ⟨_, (PySem.W.mg_of X G v_MOST_WEAVING)⟩⟩
  have MT : MTx mg := ⟨LT, (PySem.W.mg_none_of X G z_any)⟩
  have G_is_lot : Fd l.prog w K mg base CX0 "is_lot" 2 ["value"] spLot := ⟨_, _, (PySem.W.mg_of X G a_is_lot), k_is_lot, b_is_lot, ok_is_lot F_is_lot WT G_is_whole⟩
  have G_is_weaving : Fd l.prog w K mg base CX0 "is_weaving" 3 ["value", "many"] spWeaving := ⟨_, _, (PySem.W.mg_of X G a_is_weaving), k_is_weaving, b_is_weaving, ok_is_weaving F_is_weaving WT G_is_below⟩
  have G_lies_in : Fd l.prog w K mg base CX0 "lies_in" 1 ["lot", "other"] spLies := ⟨_, _, (PySem.W.mg_of X G a_lies_in), k_lies_in, b_lies_in, ok_lies_in F_lies_in WT⟩
  have G_fit : Fd l.prog w K mg base CX0 "fit" 2 ["one", "other"] spFit := ⟨_, _, (PySem.W.mg_of X G a_fit), k_fit, b_fit, ok_fit F_fit G_lies_in⟩
  have G_is_view : Fd l.prog w K mg base CX0 "is_view" 3 ["many", "hand", "value"] spIsView := ⟨_, _, (PySem.W.mg_of X G a_is_view), k_is_view, b_is_view, ok_is_view F_is_view G_is_lot⟩
  have G_is_at_once : Fd l.prog w K mg base CX0 "is_at_once" 4 ["many", "value"] spAtOnce := ⟨_, _, (PySem.W.mg_of X G a_is_at_once), k_is_at_once, b_is_at_once, ok_is_at_once F_is_at_once WT G_check_many G_is_view G_fit⟩
  have M_weave : Md l.prog w K mg base CX0 C "weave" 5 ["self", "weaving"] (spWeave K C) := ⟨_, _, ⟨a_Levels_weave, i_Levels_weave, k_Levels_weave⟩, b_Levels_weave, ok_Levels_weave F_Levels_weave T hC G_is_weaving M_next M_step⟩
  have M_len : LenC l.prog w K mg base C 1 ["self"] (spLLen K C) := ⟨_, _, a_Levels_len, i_Levels_len, b_Levels_len, ok_Levels_len F_Levels_len WT hC⟩
  have M_LevelsK : MkK l.prog w K mg base "Levels" C 3 ["self", "many"] ["many"] (spLInit K C) := ⟨(PySem.W.mg_of X G aCP), _, _, ⟨mkC, a_Levels_init, i_Levels_init, kpC⟩, ⟨fun s us ws _ h1 h2 => match us, ws, h1, h2 with | [_], [_], _, _ => .of_eq rfl, fun r1 r2 => r1.append r2⟩, ok_Levels_init F_Levels_init hC G_check_many⟩
  have M_weaveK : MdK l.prog w K mg base CX0 C "weave" 5 ["self", "weaving"] ["weaving"] gW gWV (spWeave K C) := ⟨_, _, ⟨a_Levels_weave, i_Levels_weave, k_Levels_weave⟩, ⟨fun s us ws _ h1 h2 => match us, ws, h1, h2 with | [_], [_], _, _ => .of_eq rfl, fun r1 r2 => r1.append r2⟩, ok_Levels_weave F_Levels_weave T hC G_is_weaving M_next M_step⟩
  have G_law_int : Fd l.prog w K mg base CX0 "_law_int" 1 ["value", "low", "high"] spLInt := ⟨_, _, (PySem.W.mg_of X G a_law_int), k_law_int, b_law_int, ok_law_int F_law_int T⟩
  have G_law_fresh : Fd l.prog w K mg base CX0 "_law_fresh" 1 ["many"] spSFresh := ⟨_, _, (PySem.W.mg_of X G a_law_fresh), k_law_fresh, b_law_fresh, ok_law_fresh F_law_fresh⟩
  have G_law_next : Fd l.prog w K mg base CX0 "_law_next" 1 ["stair", "hand"] spSNext := ⟨_, _, (PySem.W.mg_of X G a_law_next), k_law_next, b_law_next, ok_law_next F_law_next⟩
  have G_law_step : Fd l.prog w K mg base CX0 "_law_step" 2 ["stair", "hand"] (spSStep K) := ⟨_, _, (PySem.W.mg_of X G a_law_step), k_law_step, b_law_step, ok_law_step F_law_step T G_law_next⟩
  have G_law_woven : Fd l.prog w K mg base CX0 "_law_woven" 3 ["stair", "weaving"] (spSWoven K) := ⟨_, _, (PySem.W.mg_of X G a_law_woven), k_law_woven, b_law_woven, ok_law_woven F_law_woven T G_law_next G_law_step⟩
  have G_law_weaving : Fd l.prog w K mg base CX0 "_law_weaving" 3 ["pot", "many", "steps"] spWvg := ⟨_, _, (PySem.W.mg_of X G a_law_weaving), k_law_weaving, b_law_weaving, ok_law_weaving F_law_weaving LT G_law_take G_law_of⟩
  have G_law_is_lot_of : Fd l.prog w K mg base CX0 "_law_is_lot_of" 2 ["value", "many"] spLotOf := ⟨_, _, (PySem.W.mg_of X G a_law_is_lot_of), k_law_is_lot_of, b_law_is_lot_of, ok_law_is_lot_of F_law_is_lot_of WT G_law_int⟩
  have G_law_is_row : Fd l.prog w K mg base CX0 "_law_is_row" 3 ["many", "value"] spAtOnce := ⟨_, _, (PySem.W.mg_of X G a_law_is_row), k_law_is_row, b_law_is_row, ok_law_is_row F_law_is_row T G_law_is_lot_of⟩
  have G_law_right : FdG l.prog w K mg base CX0 "_law_right" 7 ["pot"] spRight := ⟨_, _, (PySem.W.mg_of X G a_law_right), k_law_right, b_law_right, ok_law_right F_law_right MT hC G_law_take G_law_of G_law_fresh G_law_next G_law_woven G_law_weaving G_law_is_row G_is_at_once M_LevelsK M_next M_weave M_weaveK M_len⟩
  exact ok_law F_law LT G_law_cells G_law_pot G_law_right
theorem walk {l : PySem.W.OpenLaw} {q : Program} {loose : List Str} {XP : (Str → Option Value) → Heap → Prop} {YP : World → Heap → Prop} {d : DefRec} {K : Params → PySem.W.Frag} (hn : l.most = some 63) (hdf : d.params.defaults = [])
    (hY : ∀ (w : World) (h : Heap), YP w h → (K w.params).In h)
    (F : ∀ (w : World) (mg : Str → Option Value) (fa : Addr) (h : Heap), (K w.params).In h → h.Ns mainGlobals mg → mg d.name = some (.ref fa) →
      ∃ fd : FuncData, (∀ (s : Shared) (u : Value), BindsTo s fd ⟨[u], []⟩ [("script", u)]) ∧ ∀ base : Heap, (K w.params).In base → base.Ns mainGlobals mg → FnOkG l.prog w (K w.params) mg base CX0 (7 + 1) fa fd ["script"] (spLaw (K w.params))) :
    PySem.W.WalkO q loose XP YP l.row.toRowW d [] (fun f vs => PySem.call f vs) :=
  L2.walk_ofG (n := 63) (k := 7 + 1) (x := "script") (CX := fun _ => CX0) (sp := fun w => spLaw (K w.params)) hn (by decide) hdf ⟨rfl, by decide, by decide⟩ hY F (fun _ _ a ns hl _ hS => ⟨a, ns, rfl, hS, hl, fun _ => rfl⟩) fun _ _ _ _ _ z => z
end Fp
open PySem PySem.W PyProof.Rows
set_option maxRecDepth 100000 in
set_option maxHeartbeats 0 in
theorem PySem.Challenge.cw_fewplaymany_k27_whole_views_of_weavings_holds : PySem.Challenge.rw_fewplaymany_k27_whole_views_of_weavings.Holds := by
  w_on; o_law; k_head; (case hw => w_witness2)
  k_fill
  refine Fp.walk (l := PySem.Challenge.rw_fewplaymany_k27_whole_views_of_weavings) rfl rfl (fun w h Y => PySem.W.kIn_of Y) ?F
  case F =>
    intro w mg fa h KX G hmg
    refine' Fp.all_mk KX G hmg ?aCP ?a_is_whole ?l_is_whole ?c_is_whole ?k_is_whole ?a_is_lot ?l_is_lot ?c_is_lot ?k_is_lot ?a_is_below ?l_is_below ?c_is_below ?k_is_below ?a_is_weaving ?l_is_weaving ?c_is_weaving ?k_is_weaving ?a_lies_in ?l_lies_in ?c_lies_in ?k_lies_in ?a_exchanged ?l_exchanged ?c_exchanged ?k_exchanged ?a_check_many ?l_check_many ?c_check_many ?k_check_many ?a_is_at_once ?l_is_at_once ?c_is_at_once ?k_is_at_once ?a_is_view ?l_is_view ?c_is_view ?k_is_view ?a_fit ?l_fit ?c_fit ?k_fit ?a_law_pot ?l_law_pot ?c_law_pot ?k_law_pot ?a_law_take ?l_law_take ?c_law_take ?k_law_take ?a_law_of ?l_law_of ?c_law_of ?k_law_of ?a_law_cells ?l_law_cells ?c_law_cells ?k_law_cells ?a_law_int ?l_law_int ?c_law_int ?k_law_int ?a_law_fresh ?l_law_fresh ?c_law_fresh ?k_law_fresh ?a_law_next ?l_law_next ?c_law_next ?k_law_next ?a_law_step ?l_law_step ?c_law_step ?k_law_step ?a_law_woven ?l_law_woven ?c_law_woven ?k_law_woven ?a_law_weaving ?l_law_weaving ?c_law_weaving ?k_law_weaving ?a_law_is_lot_of ?l_law_is_lot_of ?c_law_is_lot_of ?k_law_is_lot_of ?a_law_is_row ?l_law_is_row ?c_law_is_row ?k_law_is_row ?a_law_right ?l_law_right ?c_law_right ?k_law_right ?a_law ?l_law ?c_law ?k_law ?a_Levels_init ?l_Levels_init ?c_Levels_init ?k_Levels_init ?i_Levels_init ?a_Levels_len ?l_Levels_len ?c_Levels_len ?k_Levels_len ?i_Levels_len ?a_Levels_next ?l_Levels_next ?c_Levels_next ?k_Levels_next ?i_Levels_next ?a_Levels_step ?l_Levels_step ?c_Levels_step ?k_Levels_step ?i_Levels_step ?a_Levels_weave ?l_Levels_weave ?c_Levels_weave ?k_Levels_weave ?i_Levels_weave ?a_Levels_view_from ?l_Levels_view_from ?c_Levels_view_from ?k_Levels_view_from ?i_Levels_view_from ?pgC ?hdC ?poC ?saC ?mkC ?kpC ?np_many ?np_levels ?np_views ?np_run ?np_looking ?z_isinstance ?z_int ?z_bool ?z_tuple ?z_all ?z_len ?z_enumerate ?z_sum ?z_abs ?z_list ?z_range ?z_max ?z_min ?z_repr ?v_MOST_HANDS ?v_MOST_WEAVING ?z_zip ?z_any
    (case aCP => k_is)
    (case a_is_whole => k_is)
    (case l_is_whole => k_is)
    (case c_is_whole => k_is)
    (case k_is_whole => k_is)
    (case a_is_lot => k_is)
    (case l_is_lot => k_is)
    (case c_is_lot => k_is)
    (case k_is_lot => k_is)
    (case a_is_below => k_is)
    (case l_is_below => k_is)
    (case c_is_below => k_is)
    (case k_is_below => k_is)
    (case a_is_weaving => k_is)
    (case l_is_weaving => k_is)
    (case c_is_weaving => k_is)
    (case k_is_weaving => k_is)
    (case a_lies_in => k_is)
    (case l_lies_in => k_is)
    (case c_lies_in => k_is)
    (case k_lies_in => k_is)
    (case a_exchanged => k_is)
    (case l_exchanged => k_is)
    (case c_exchanged => k_is)
    (case k_exchanged => k_is)
    (case a_check_many => k_is)
    (case l_check_many => k_is)
    (case c_check_many => k_is)
    (case k_check_many => k_is)
    (case a_is_at_once => k_is)
    (case l_is_at_once => k_is)
    (case c_is_at_once => k_is)
    (case k_is_at_once => k_is)
    (case a_is_view => k_is)
    (case l_is_view => k_is)
    (case c_is_view => k_is)
    (case k_is_view => k_is)
    (case a_fit => k_is)
    (case l_fit => k_is)
    (case c_fit => k_is)
    (case k_fit => k_is)
    (case a_law_pot => k_is)
    (case l_law_pot => k_is)
    (case c_law_pot => k_is)
    (case k_law_pot => k_is)
    (case a_law_take => k_is)
    (case l_law_take => k_is)
    (case c_law_take => k_is)
    (case k_law_take => k_is)
    (case a_law_of => k_is)
    (case l_law_of => k_is)
    (case c_law_of => k_is)
    (case k_law_of => k_is)
    (case a_law_cells => k_is)
    (case l_law_cells => k_is)
    (case c_law_cells => k_is)
    (case k_law_cells => k_is)
    (case a_law_int => k_is)
    (case l_law_int => k_is)
    (case c_law_int => k_is)
    (case k_law_int => k_is)
    (case a_law_fresh => k_is)
    (case l_law_fresh => k_is)
    (case c_law_fresh => k_is)
    (case k_law_fresh => k_is)
    (case a_law_next => k_is)
    (case l_law_next => k_is)
    (case c_law_next => k_is)
    (case k_law_next => k_is)
    (case a_law_step => k_is)
    (case l_law_step => k_is)
    (case c_law_step => k_is)
    (case k_law_step => k_is)
    (case a_law_woven => k_is)
    (case l_law_woven => k_is)
    (case c_law_woven => k_is)
    (case k_law_woven => k_is)
    (case a_law_weaving => k_is)
    (case l_law_weaving => k_is)
    (case c_law_weaving => k_is)
    (case k_law_weaving => k_is)
    (case a_law_is_lot_of => k_is)
    (case l_law_is_lot_of => k_is)
    (case c_law_is_lot_of => k_is)
    (case k_law_is_lot_of => k_is)
    (case a_law_is_row => k_is)
    (case l_law_is_row => k_is)
    (case c_law_is_row => k_is)
    (case k_law_is_row => k_is)
    (case a_law_right => k_is)
    (case l_law_right => k_is)
    (case c_law_right => k_is)
    (case k_law_right => k_is)
    (case a_law => k_is)
    (case l_law => k_is)
    (case c_law => k_is)
    (case k_law => k_is)
    (case a_Levels_init => k_is)
    (case l_Levels_init => k_is)
    (case c_Levels_init => k_is)
    (case k_Levels_init => k_is)
    (case i_Levels_init => k_is)
    (case a_Levels_len => k_is)
    (case l_Levels_len => k_is)
    (case c_Levels_len => k_is)
    (case k_Levels_len => k_is)
    (case i_Levels_len => k_is)
    (case a_Levels_next => k_is)
    (case l_Levels_next => k_is)
    (case c_Levels_next => k_is)
    (case k_Levels_next => k_is)
    (case i_Levels_next => k_is)
    (case a_Levels_step => k_is)
    (case l_Levels_step => k_is)
    (case c_Levels_step => k_is)
    (case k_Levels_step => k_is)
    (case i_Levels_step => k_is)
    (case a_Levels_weave => k_is)
    (case l_Levels_weave => k_is)
    (case c_Levels_weave => k_is)
    (case k_Levels_weave => k_is)
    (case i_Levels_weave => k_is)
    (case a_Levels_view_from => k_is)
    (case l_Levels_view_from => k_is)
    (case c_Levels_view_from => k_is)
    (case k_Levels_view_from => k_is)
    (case i_Levels_view_from => k_is)
    (case pgC => k_is)
    (case hdC => k_is)
    (case poC => k_is)
    (case saC => k_is)
    (case mkC => k_is)
    (case kpC => k_is)
    (case np_many => k_is)
    (case np_levels => k_is)
    (case np_views => k_is)
    (case np_run => k_is)
    (case np_looking => k_is)
    (case z_isinstance => k_is)
    (case z_int => k_is)
    (case z_bool => k_is)
    (case z_tuple => k_is)
    (case z_all => k_is)
    (case z_len => k_is)
    (case z_enumerate => k_is)
    (case z_sum => k_is)
    (case z_abs => k_is)
    (case z_list => k_is)
    (case z_range => k_is)
    (case z_max => k_is)
    (case z_min => k_is)
    (case z_repr => k_is)
    (case v_MOST_HANDS => k_is)
    (case v_MOST_WEAVING => k_is)
    (case z_zip => k_is)
    (case z_any => k_is)
