import PyProof.Rows.All
import Wide.All
import OpenK.AllK
import Wide.FinOn
import HandS.ForMost
import HandS.ForExc
import HandS.Walk
import HandS.Conv
import HandS.Star
import HandS.CallLocal
import HandS.Codes
import HandS.More
import HandS.OwnEq
import HandS.Wide
import HandS.Flow
import KE.GoesEnum
import PyProof.ListStr
import PyProof.StrBlock2
import KE.IntTextLaws
import PyProof.InstNe
import HandS.MakeKwOnly
import HandS.IsInst
import HandS.Ends
import PyProof.ReprRoads
import KE.GoesMore
import HandS.TupMul
import HandS.TupAny
import HandS.Strs
import PySem.Challenge.RW_fewplaymany_k41_what_is_refused_at_doors
import HandS.ExcInit
import HandS.WordsExc
import HandS.ExcIs
import HandS.ExcField
import HandS.TryOnly
import HandS.Lambda
import HandS.Comp
import HandS.EndOwn
import HandS.Deep
import HandS.Iter
import KE.KRevSl
set_option Elab.async false
set_option linter.all false
set_option maxRecDepth 100000
set_option maxHeartbeats 4000000
namespace Fp
open PySem PySem.Spec PyProof.Rows L2
/-! ### heaps -/
/-- all that is tracked stays, but what stands at S -/
def But (S : List Addr) (H H' : Hp) : Prop := ∀ b o, b ∉ S → H b = some o → H' b = some o
theorem But.refl (S : List Addr) (H : Hp) : But S H H := fun _ _ _ h => h
theorem But.trans {S : List Addr} {H H1 H2 : Hp} (a : But S H H1) (b : But S H1 H2) : But S H H2 := fun c o n h => b c o n (a c o n h)
theorem But.of {S : List Addr} {H H' : Hp} (h : Same H H') : But S H H' := fun c o _ q => h c o q
theorem But.new {S : List Addr} {H H1 : Hp} {p : Addr} {o : HO} (a : But S H H1) (n : H1 p = none) : But S H (upd H1 p o) := fun c u k q => by
  have z := a c u k q
  rw [upd_ne (ne_of_none z n)]
  exact z
theorem But.put {S : List Addr} {H H1 : Hp} {p : Addr} {o : HO} (a : But S H H1) (n : p ∈ S) : But S H (upd H1 p o) := fun c u k q => by
  have ne : c ≠ p := fun z => k (z ▸ n)
  rw [upd_ne ne]
  exact a c u k q
theorem But.wide {S T : List Addr} {H H' : Hp} (a : But S H H') (h : ∀ x ∈ S, x ∈ T) : But T H H' := fun c o n q => a c o (fun z => n (h c z)) q
theorem But.at {S : List Addr} {H H' : Hp} {a : Addr} {o : HO} (b : But S H H') (h : H a = some o) (n : a ∉ S) : H' a = some o := b a o n h
theorem But.seq {S : List Addr} {H H' : Hp} {K : PySem.W.Frag} {a : Addr} {xs : List V} (b : But S H H') (h : SqL K H a xs) (n : a ∉ S) : SqL K H' a xs := by
  rcases h with (h | ⟨o, h⟩) | h
  · exact .inl (.inl (b _ _ n h))
  · exact .inl (.inr ⟨o, b _ _ n h⟩)
  · exact .inr h
theorem But.seqT {S : List Addr} {H H' : Hp} {K : PySem.W.Frag} {a : Addr} {xs : List V} (b : But S H H') (h : SqT K H a xs) (n : a ∉ S) : SqT K H' a xs := by
  rcases h with (h | ⟨o, h⟩) | h
  · exact .inl (.inl (b _ _ n h))
  · exact .inl (.inr ⟨o, b _ _ n h⟩)
  · exact .inr h
theorem same_new {H : Hp} {p : Addr} (h : H p = none) (o : HO) : Same H (upd H p o) := fun b u q => by rw [upd_ne (ne_of_none q h)]; exact q
/-! ### a def of the module with its promise -/
structure Fd (P : Program) (w : World) (K : PySem.W.Frag) (mg : Str → Option Value) (base : Heap) (CX : CXT) (x : Str) (k : Nat) (ps : List Str) (sp : Sp) : Prop where
  ex : ∃ (f : Addr) (fd : FuncData), mg x = some (.ref f) ∧ PySem.W.keepIn K (.ref f) = true ∧ Binds K fd ps [] ∧ FnOk P w K mg base CX k f fd ps sp
section
variable {X : Cx} {CX : CXT} {x : Str} {k : Nat} {ps : List Str} {sp : Sp} {e : Expr} {es : List Expr} {t : TA} {p pos : Pos}
theorem pe_fd (G : Fd X.prog X.w X.K X.mg X.base CX0 x k ps sp) (hr : Room k X.A) (hg : Gl X x) (ha : PA X (e :: es) t) (hdb : (x == ("__debug__" : Str)) = false := by decide)
    (he : starEach (e :: es) X.env = (false, eval e X.env) :: starEach es X.env := by rfl) (hpl : (backTo pos (starEach es X.env)).any (·.1) = false := by rfl) :
    PE X (.Call (.Name x p) (e :: es) [] pos) (tCall sp [] E0 t) := by
  obtain ⟨f, fd, h1, h2, h3, h4⟩ := G.ex
  exact pe_call h4 hr hg h1 h2 h3 .nil pass0 ha hdb he hpl
end
/-! ### powers of greater numbers -/
theorem op_powB {X : Cx} : OpR X (binaryOp .Pow) (rI (fun i j => 0 ≤ j ∧ (Builtin.Int.intBits i : Int) * j ≤ 2 ^ 27) fun i j => .int (i ^ j.toNat)) :=
  opI fun _ _ _ _ _ _ _ hc q => PyProof.Rows.pow_int hc.1 hc.2 q
theorem bits_ok {a : Int} (k : Nat) {j : Int} (h : a.natAbs < 2 ^ k) (hj : 0 ≤ j) (hk : (k : Int) * j ≤ 2 ^ 27) : (Builtin.Int.intBits a : Int) * j ≤ 2 ^ 27 := by
  have h1 : (Builtin.Int.intBits a : Int) ≤ (k : Int) := by
    have := PyProof.Rows.intBits_le h
    omega
  exact Int.le_trans (Int.mul_le_mul_of_nonneg_right h1 hj) hk
/-! ### a word between a part and what follows it -/
def tMid (t : TE) : TE := fun σ H Q => ∃ Mid : V → Hp → Prop, t σ H Mid ∧ ∀ v H', Mid v H' → Q v H'
theorem pe_mid {X : Cx} {e : Expr} {t : TE} (h : PE X e t) : PE X e (tMid t) := by
  refine ⟨fun pins s σ H Q I z => ?_⟩
  obtain ⟨Mid, hm, hu⟩ := z
  exact thn (h.run pins s σ H Mid I hm) fun v s1 ⟨x, H1, I1, r1, q1⟩ => ⟨x, H1, I1, r1, hu x H1 q1⟩
def tMidT (t : TT) : TT := fun σ H Q => ∃ Mid : Bool → Hp → Prop, t σ H Mid ∧ ∀ v H', Mid v H' → Q v H'
theorem pt_mid {X : Cx} {e : Expr} {t : TT} (h : PT X e t) : PT X e (tMidT t) := by
  refine ⟨fun pins s σ H Q I z => ?_⟩
  obtain ⟨Mid, hm, hu⟩ := z
  exact thn (h.run pins s σ H Mid I hm) fun v s1 ⟨H1, I1, q1⟩ => ⟨H1, I1, hu v H1 q1⟩
theorem erase_perm {α : Type} : ∀ (l : List α) (i : Nat) (h : i < l.length), (l[i] :: l.eraseIdx i).Perm l
  | a :: l, 0, _ => List.Perm.refl _
  | a :: l, i + 1, h => by
    have h' : i < l.length := Nat.lt_of_succ_lt_succ h
    have ih := erase_perm l i h'
    show (l[i] :: a :: l.eraseIdx i).Perm (a :: l)
    exact (List.Perm.swap _ _ _).trans (List.Perm.cons a ih)
theorem b01 (k : Bool) : -(2 ^ 64) < (if k = true then (1 : Int) else 0) ∧ (if k = true then (1 : Int) else 0) < 2 ^ 64 := by cases k <;> decide
/-! ### draws -/
def PotAt (H : Hp) (p : Addr) (n : Nat) : Prop := ∃ a b c : Int, H p = some (.lst [.int a, .int b, .int c]) ∧ 0 ≤ b ∧ b < 2305843009213693951 ∧ 0 ≤ c ∧ c ≤ n
theorem PotAt.mono {H : Hp} {p : Addr} {n m : Nat} (h : PotAt H p n) (l : n ≤ m) : PotAt H p m := by
  obtain ⟨a, b, c, h1, h2, h3, h4, h5⟩ := h
  exact ⟨a, b, c, h1, h2, h3, h4, by omega⟩
theorem PotAt.there {H : Hp} {p : Addr} {n : Nat} (h : PotAt H p n) : ∃ xs, H p = some (.lst xs) := by
  obtain ⟨a, b, c, h1, _⟩ := h
  exact ⟨_, h1⟩
def spTake : Sp := fun vs H Q _ => ∃ (p : Addr) (u : Int) (n : Nat), vs = [.ref p, .int u] ∧ 0 < u ∧ u < 1000000 ∧ n < 1000000 ∧ PotAt H p n ∧
  ∀ (d : Nat) (H' : Hp), (d : Int) < u → But [p] H H' → PotAt H' p (n + 1) → Q (.int d) H'
def spOf (K : PySem.W.Frag) : Sp := fun vs H Q _ => ∃ (p q : Addr) (xs : List V) (n : Nat), vs = [.ref p, .ref q] ∧ SqL K H q xs ∧ q ≠ p ∧ xs ≠ [] ∧ xs.length < 1000000 ∧ n < 1000000 ∧ PotAt H p n ∧
  ∀ (d : Nat) (v : V) (H' : Hp), xs[d]? = some v → But [p] H H' → PotAt H' p (n + 1) → Q v H'
/-- many of a pool, in some sequence -/
def spSome (K : PySem.W.Frag) : Sp := fun vs H Q _ => ∃ (p q : Addr) (xs : List V) (m n : Nat), vs = [.ref p, .ref q, .int m] ∧ (SqL K H q xs ∨ SqT K H q xs) ∧ m ≤ xs.length ∧ xs.length < 1000 ∧ n + m < 1000000 ∧ PotAt H p n ∧
  ∀ (l : Addr) (ys zs : List V) (H' : Hp), ys.length = m → (ys ++ zs).Perm xs → H l = none → H' l = some (.lst ys) → But [p] H H' → PotAt H' p (n + m) → Q (.ref l) H'
/-- the pot of a cell -/
def spPot (K : PySem.W.Frag) : Sp := fun vs H Q _ => ∃ (a : Addr) (ns : List Int) (k : Nat), vs = [.ref a, .int k] ∧ SqL K H a (ns.map V.int) ∧ ns.length ≤ 63 ∧ k < 1000 ∧ ∀ (l : Addr) (H' : Hp), Same H H' → H l = none → PotAt H' l 0 → Q (.ref l) H'
/-- the cells that are looked at -/
def spCells (K : PySem.W.Frag) : Sp := fun vs H Q _ => ∃ (a : Addr) (ns : List Int) (m : Nat), vs = [.ref a, .int m] ∧ SqL K H a (ns.map V.int) ∧ ns.length ≤ 63 ∧ m < 1000 ∧
  ∀ (l : Addr) (H' : Hp) (k : Nat), k < 1000 → Same H H' → H l = none → H' l = some (.lst ((List.range k).map fun i => V.int (i : Nat))) → Q (.ref l) H'
theorem modNat (a : Int) {u : Int} (h : 0 < u) : ∃ d : Nat, a % u = (d : Int) ∧ (d : Int) < u :=
  ⟨(a % u).toNat, by have := Int.emod_nonneg a (show u ≠ 0 by omega); omega, by have := Int.emod_nonneg a (show u ≠ 0 by omega); have := Int.emod_lt_of_pos a h; omega⟩
theorem sq_le (m : Int) {c : Int} (h : 0 ≤ c) (h1 : c ≤ 1000001) (hm : 0 ≤ m := by decide) (hm1 : m ≤ 200000 := by decide) : 0 ≤ m * c * c ∧ m * c * c ≤ 200000 * 1000001 * 1000001 := by
  have e1 : m * c ≤ 200000 * 1000001 := Int.mul_le_mul hm1 h1 h (by decide)
  have e0 : 0 ≤ m * c := Int.mul_nonneg hm h
  exact ⟨Int.mul_nonneg e0 h, Int.mul_le_mul e1 h1 h (by decide)⟩
end Fp
namespace Fp
open PySem PySem.Spec PyProof.Rows L2
/-! ### constants of the module -/
section
variable {X : Cx} {x : Str} {pos : Pos}
theorem pe_cS {z : Str} (h : ∃ t, X.mg x = some (.str z t)) (hg : Gl X x := by rfl) (hd : (x == ("__debug__" : Str)) = false := by decide) : PE X (.Name x pos) (tC (.str z)) := by
  obtain ⟨t, h⟩ := h
  exact pe_glob hg h ⟨_, rfl⟩ hd
theorem pe_cI {i : Int} (h : ∃ t, X.mg x = some (.int i t)) (hg : Gl X x := by rfl) (hd : (x == ("__debug__" : Str)) = false := by decide) : PE X (.Name x pos) (tC (.int i)) := by
  obtain ⟨t, h⟩ := h
  exact pe_glob hg h ⟨_, rfl⟩ hd
/-- a tuple of the module -/
def KTup (K : PySem.W.Frag) (a : Addr) (xs : List V) : Prop := ∀ H, SqT K H a xs
def tKT (K : PySem.W.Frag) (xs : List V) : TE := fun _ H Q => ∀ a, KTup K a xs → Q (.ref a) H
theorem pe_cT {xs : List V} (h : ∃ a, X.mg x = some (.ref a) ∧ KTup X.K a xs) (hg : Gl X x := by rfl) (hd : (x == ("__debug__" : Str)) = false := by decide) : PE X (.Name x pos) (tKT X.K xs) := by
  obtain ⟨a, h1, h2⟩ := h
  exact ⟨fun pins s σ H Q I q => (pe_glob (v := .ref a) hg h1 rfl hd).run pins s σ H Q I (q a h2)⟩
/-- an object of the module -/
def tKR (φ : Addr → Prop) : TE := fun _ H Q => ∀ a, φ a → Q (.ref a) H
theorem pe_cR {φ : Addr → Prop} (h : ∃ a, X.mg x = some (.ref a) ∧ φ a) (hg : Gl X x := by rfl) (hd : (x == ("__debug__" : Str)) = false := by decide) : PE X (.Name x pos) (tKR φ) := by
  obtain ⟨a, h1, h2⟩ := h
  exact ⟨fun pins s σ H Q I q => (pe_glob (v := .ref a) hg h1 rfl hd).run pins s σ H Q I (q a h2)⟩
/-- a dict of the module with text keys, at d -/
structure KD (K : PySem.W.Frag) (w : World) (d : Addr) (tab : Str → Option V) : Prop where
  ex : ∃ es n, KDict K w d es n
  get : ∀ z, ∃ r, PySem.W.nsIn K d z = some r ∧ RelO (tab z) r
theorem RelO.some_iff {o : Option V} {r : Option Value} (h : RelO o r) : o.isSome = r.isSome := by
  cases o <;> cases r <;> first | rfl | exact h.elim
variable {e : Expr} {te : TE} {apos cpos p : Pos} {tab : Str → Option V} {d : Addr}
/-- key in NAME -/
theorem pe_kin (D : ∃ d, X.mg x = some (.ref d) ∧ KD X.K X.w d tab) (he : PE X e te) (hg : Gl X x := by rfl) (hb : behindInMarks .In (.Name x p) = false := by rfl) (hd : (x == ("__debug__" : Str)) = false := by decide) : PE X (.Compare e [.In] [.Name x p] pos) (fun σ H Q => te σ H fun y H1 => ∃ z, y = .str z ∧ Q (.bl (tab z).isSome) H1) := by
  obtain ⟨d, hm, ⟨es, n, D⟩, get⟩ := D
  refine ⟨fun pins s σ H Q I h => ?_⟩
  refine (pe_cmpR (op_in_kd D) he (pe_glob (v := .ref d) hg hm rfl hd) hb).run pins s σ H Q I ?_
  have h' : (fun σ H Q => te σ H fun y H1 => ∃ z, y = .str z ∧ Q (.bl (tab z).isSome) H1) σ H Q := h
  exact (fun (k : te σ H _) => k) (by
    refine (?_ : te σ H _)
    have e2 : (fun (y : V) (H1 : Hp) => ∃ z : Str, y = V.str z ∧ Q (V.bl (tab z).isSome) H1) = fun y H1 => tC (.ref d) σ H1 fun y' H2 => ∃ (z : Str) (r : Option Value), y = .str z ∧ y' = .ref d ∧ PySem.W.nsIn X.K d z = some r ∧ Q (.bl r.isSome) H2 := by
      funext y H1
      apply propext
      constructor
      · rintro ⟨z, rfl, q⟩
        obtain ⟨r, g1, g2⟩ := get z
        refine ⟨z, r, rfl, rfl, g1, ?_⟩
        rw [← RelO.some_iff g2]
        exact q
      · rintro ⟨z, r, rfl, _, g1, q⟩
        obtain ⟨r', g1', g2⟩ := get z
        rw [g1] at g1'
        cases g1'
        refine ⟨z, rfl, ?_⟩
        rw [RelO.some_iff g2]
        exact q
    rw [← e2]
    exact h')
/-- NAME.get(key) -/
theorem pe_kget (D : ∃ d, X.mg x = some (.ref d) ∧ KD X.K X.w d tab) (he : PE X e te) (hg : Gl X x := by rfl) (m : M1 X (.Name x p) "get" apos e cpos := by exact ⟨rfl, rfl, rfl, rfl⟩) (hd : (x == ("__debug__" : Str)) = false := by decide) :
    PE X (.Call (.Attribute (.Name x p) "get" apos) [e] [] cpos) (fun σ H Q => te σ H fun y H1 => ∃ z, y = .str z ∧ Q ((tab z).getD .non) H1) := by
  obtain ⟨d, hm, ⟨es, n, D⟩, get⟩ := D
  refine ⟨fun pins s σ H Q I h => ?_⟩
  refine wpAny_Call_method m.base m.few m.line PySem.F.plainAttrs_dict PySem.F.slot_dict_get PySem.F.type_dict_get (thn ((pe_glob (v := .ref d) hg hm rfl hd).run pins s σ H (fun y H1 => y = .ref d ∧ te σ H1 fun y H1 => ∃ z, y = .str z ∧ Q ((tab z).getD .non) H1) I ⟨rfl, h⟩) fun u s1 hh => ?_)
  obtain ⟨y, H1, I1, ry, ey, q1⟩ := hh
  subst ey
  obtain rfl : u = Value.ref d := ry
  have hmp := PySem.W.mapOf_K (prog := X.prog) (w := X.w) I1.kIn D.at_ D.lit
  refine ⟨hmp.typeIs, hmp.noDict, ?_⟩
  rw [m.trees]
  refine Calls.callWith_builtin rfl (Calls.evalArgs_plain (Calls.spliced_cons (thn (he.run pins s1 σ H1 _ I1 q1) fun iv s2 hh2 => Calls.spliced_nil ?_)))
  obtain ⟨y2, H2, I2, ry2, z, ez, q2⟩ := hh2
  subst ez
  obtain ⟨t, rfl⟩ := ry2
  have hmp2 := PySem.W.mapOf_K (prog := X.prog) (w := X.w) I2.kIn D.at_ D.lit
  obtain ⟨r, g1, g2⟩ := get z
  refine call_meetsIn PySem.F.slot_dict_get hmp2.typeIs PySem.F.entry_dict_get (PySem.F.args_dict_get_2 _ _) (meets_dict_get (strKind X.prog X.w) d (PySem.strKind_is X.prog X.w z t) D.low) ⟨_, hmp2, ?_⟩
  show EP X pins σ Q _ _
  rw [PySem.W.find_K D.at_ g1]
  exact ⟨_, H2, I2.tok _, g2.getD (d := .non) rfl, q2⟩
end
/-! ### for i, x in enumerate(list, start) -/
def ItE (K : PySem.W.Frag) (a : Addr) (lo : Int) : It :=
  ⟨fun i H => ∃ (ys : List V) (y : V), SqL K H a ys ∧ ys[i]? = some y,
   fun i H v H' => ∃ T y, v = .ref T ∧ H T = none ∧ H' = upd H T (.tup [.int (lo + (i : Nat)), y]) ∧ ∀ ys, SqL K H a ys → ys[i]? = some y,
   fun i H => ∃ ys : List V, SqL K H a ys ∧ ys.length ≤ i⟩
theorem turn_enumS {P : Program} {w : World} {K : PySem.W.Frag} {elts : List Expr} {kk : Nat} {tpos : Pos} (a e it : Addr) (lo : Int) :
    Turn P w K (.Tuple elts kk tpos) (ItE K a lo) [e, it] e (fun i h => (∃ was, IsEnum h e it (lo + ((i : Nat) : Int)) was) ∧ h.IsListIter it a i ∧ e ≠ it) where
  mem := List.mem_cons_self
  obj := fun i h st b hb => by
    obtain ⟨⟨was, he⟩, ⟨o, ho, hc, hd⟩, _⟩ := st
    rcases List.mem_cons.mp hb with z | z
    · subst z
      exact ⟨_, he, fun v q => nomatch q⟩
    · have z' := List.mem_singleton.mp z
      subst z'
      exact ⟨o, ho, fun v q => by rw [hd] at q; cases q⟩
  keep := fun i h h' st k => ⟨st.1.imp fun was he => k e (by simp) _ he, st.2.1.at fun o q => k it (by simp) o q, st.2.2⟩
  item := by
    intro X hP hw hK hc i pins s σ H E I hf st hg
    subst hP hw hK
    obtain ⟨⟨was, he⟩, hit, hne⟩ := st
    obtain ⟨ys, y, hq, hx⟩ := hg
    obtain ⟨its, rv, lp, hz⟩ := I.list hq
    obtain ⟨u, hu, ru⟩ := rv.get hx
    have le : e < s.heap.objs.size := Heap.lt_size he
    have li : it < s.heap.objs.size := by
      obtain ⟨_, q, _⟩ := hit
      exact Heap.lt_size q
    have fr := I.hok.fresh (Nat.le_refl s.heap.objs.size)
    have hL := lp.isList
    have nel : e ≠ a := fun z => by
      obtain ⟨o, ho, hc', _⟩ := hL
      rw [← z, (show s.heap.get? e = some _ from he)] at ho
      cases ho
      injection hc' with z'
      exact absurd z' (by decide)
    have nil' : a ≠ it := fun z => by
      obtain ⟨o, ho, hc', _⟩ := hL
      obtain ⟨o2, ho2, hc2, _⟩ := hit
      rw [z, ho2] at ho
      cases ho
      rw [hc2] at hc'
      injection hc' with z'
      exact absurd z' (by decide)
    have hiu : its.toArray[i]? = some u := by simpa using hu
    have hlt : i < its.toArray.size := by
      by_cases z : i < its.toArray.size
      · exact z
      · rw [Array.getElem?_eq_none (by omega)] at hiu
        cases hiu
    refine wpAny_pyNext_enum_itemC (Draws.list (A := X.A.in1) (I.ok.hd hc) it a nil' its.toArray) he ⟨hit, hL⟩ hlt hne (by simp [hne, nel]) fun x h1 tk hx1 ho hst1 hT hsz hk => ⟨_, rfl, ?_⟩
    rw [hiu] at hx1
    cases hx1
    have hit1 := hst1.1
    refine wpAny_letOwnedTupleGo_enum (s := { s with heap := h1, toks := tk + 1 }) ho fun h2 he2 sb => ?_
    have hT2 := (sb.2 _ (Nat.ne_of_gt le)).trans hT
    have mem2 : ∀ {b : Addr}, b ∈ [e, it] → b < s.heap.objs.size := fun {b} hb => by
      rcases List.mem_cons.mp hb with z | z
      · rw [z]; exact le
      · rw [List.mem_singleton.mp z]; exact li
    refine ⟨.ref s.heap.objs.size, upd H s.heap.objs.size (.tup [.int (lo + (i : Nat)), y]), ?_, rfl, ⟨_, y, rfl, fr, rfl, fun zs hy => by rw [I.list_inj hy hq]; exact hx⟩, ⟨⟨u, ?_⟩, hit1.at fun o q => (sb.2 it (Ne.symm hne)).trans q, hne⟩, fun b hb => ?_⟩
    · refine I.turnedNew (ch := [e, it]) (fun b ob hb q => ?_) hf (Nat.le_refl _) ⟨by show 2 ≤ sizeLine; decide, [.int (lo + (i : Nat)) tk, u], .cons ⟨_, rfl⟩ (.cons ru .nil), ⟨_, hT2, rfl, _, rfl⟩⟩
      have be : b ≠ e := fun z => hb (by simp [z])
      have bi : b ≠ it := fun z => hb (by simp [z])
      exact (sb.2 b be).trans (hk b ob be bi q)
    · have e1 : lo + (((i + 1 : Nat)) : Int) = lo + (i : Int) + 1 := by omega
      rw [e1]
      exact he2
    · rw [upd_ne (Nat.ne_of_lt (mem2 hb))]
      exact (hf b hb).1
  done := by
    intro X hP hw hK hc i pins s σ H E I hf st hg
    subst hP hw hK
    obtain ⟨⟨was, he⟩, hit, hne⟩ := st
    obtain ⟨ys, hq, hx⟩ := hg
    obtain ⟨its, rv, lp, hz⟩ := I.list hq
    obtain ⟨f0, f1, f2, f3, f4, f5⟩ := hf it (by simp)
    have hl := rv.length
    have D : Draws X.prog X.w X.A.in1 it [it, a] i (fun _ _ => False) (fun j h => j = i ∧ h.IsListIter it a i ∧ h.IsList a its.toArray) := {
      live := fun j h st => by
        obtain ⟨_, ⟨o, ho, _⟩, _⟩ := st
        exact ⟨o, ho⟩
      frame := fun j h h' st k => ⟨st.1, st.2.1.at fun o q => k it (by simp) o q, st.2.2.at fun o q => k a (by simp) o q⟩
      item := fun j s Q E hj st _ => by
        have := st.1
        omega
      done := fun s Q E st hE => wpAny_nextOf_list_end (I.ok.hd hc) st.2.1 st.2.2 (by simp; omega) hE }
    exact wpAny_pyNext_enum_endD D he ⟨rfl, hit, lp.isList⟩ fun h1 eb => ⟨rfl, I.turned (t' := s.toks) (fun b o hb q => eb b o hb q) f0 f1 f3 f4 f5⟩
  self := fun A i s Q E st h => st.1.elim fun _ he => wpAny_pyIter_enum he h
def iEnumS (K : PySem.W.Frag) (ta : TA) : TI := fun σ H R => ta σ H fun vs H1 => ∃ a xs lo, vs = [.ref a, .int lo] ∧ SqL K H1 a xs ∧ -(2 ^ 62) ≤ lo ∧ lo < 2 ^ 62 ∧ R (ItE K a lo) H1
theorem pi_enumS {X : Cx} {e1 e2 : Expr} {ta : TA} {p pos tpos : Pos} {elts : List Expr} {kk : Nat} (hg : Gl X "enumerate") (hm : X.mg "enumerate" = none) (ha : PA X [e1, e2] ta)
    (he : starEach (e1 :: [e2]) X.env = (false, eval e1 X.env) :: starEach [e2] X.env := by rfl) (hpl : (backTo pos (starEach [e2] X.env)).any (·.1) = false := by rfl) :
    PI X (.Tuple elts kk tpos) (.Call (.Name "enumerate" p) [e1, e2] [] pos) (iEnumS X.K ta) := by
  refine ⟨fun pins s σ H R I h => ?_⟩
  refine Call_ (ld_blt I hg hm boot_enumerate (PyProof.Rows.callWith_type1 (thn (ha.run pos pins s σ H _ I h) fun us s1 hh => ?_) he hpl))
  obtain ⟨vs, H1, I1, r1, a, xs, lo, ex, hq, hl0, hl1, q⟩ := hh
  subst ex
  obtain ⟨u1, u2, rfl, ra, rb⟩ := vals2 r1
  obtain rfl : u1 = Value.ref a := ra
  obtain ⟨t, rfl⟩ := rb
  obtain ⟨its, rv, lp, hz⟩ := I1.list hq
  refine enum_begins (begins_list a its.toArray) lp.isList (by omega) (by omega) fun h1 he hit hsz hk => wpAny_pyIter_enum he ?_
  have I2 : Inv X pins σ H1 { s1 with heap := h1 } := I1.kept (t' := s1.toks) hk
  refine ⟨s1.heap.objs.size + 1, [s1.heap.objs.size + 1, s1.heap.objs.size], _, _, H1, rfl, I2, turn_enumS a (s1.heap.objs.size + 1) s1.heap.objs.size lo, ⟨⟨.none, by simpa using he⟩, ⟨_, hit, rfl, rfl⟩, Nat.succ_ne_self _⟩, fun b hb => ?_, q⟩
  have hle : s1.heap.objs.size ≤ b := by
    rcases List.mem_cons.mp hb with z | z
    · rw [z]; exact Nat.le_add_right _ _
    · rw [List.mem_singleton.mp z]; exact Nat.le_refl _
  exact I1.fpOk hle (I1.hok.fresh hle)
/-! ### list(text), text * int -/
abbrev sg (z : Str) : List Nat := z.cps.toList
def signsV (z : Str) : List V := (sg z).map fun c => V.str ⟨#[c]⟩
theorem signs_vals : ∀ (l : List Nat) (us : List Value), us.length = l.length → (∀ (j : Nat) (v : Value), us[j]? = some v → ∃ (c : Nat) (u : Tok), l[j]? = some c ∧ v = Value.str ⟨#[c]⟩ u) → Vals (l.map fun c => V.str ⟨#[c]⟩) us
  | [], [], _, _ => .nil
  | c :: l, u :: us, hl, h => by
    obtain ⟨c', t, e1, e2⟩ := h 0 u rfl
    have e1' : c = c' := by simpa using e1
    subst e1'
    exact .cons ⟨t, e2⟩ (signs_vals l us (by simpa using hl) fun j v e => by simpa using h (j + 1) v (by simpa using e))
  | [], _ :: _, hl, _ => by simp at hl
  | _ :: _, [], hl, _ => by simp at hl
theorem call_list_txt {X : Cx} (hc : X.calm = true) : CallR X (.type "list") (fun xs H Q => ∃ z, xs = [.str z] ∧ z.length ≤ sizeLine ∧ ∀ l, H l = none → Q (.ref l) (upd H l (.lst (signsV z)))) := by
  intro pins s σ H xs us Q I r h
  obtain ⟨z, rfl, hz, q⟩ := h
  obtain ⟨u, rfl, rx⟩ := vals1 r
  obtain ⟨t, rfl⟩ := rx
  refine call_list_str (I.ok.hd hc) z t (fun h' tk acc c' hk hS hacc => ?_) (hn := hz)
  have hv : Vals (signsV z) acc.toList := signs_vals _ _ (by simpa [sg] using hacc.1) fun j v e => by
    obtain ⟨c, u, e1, e2⟩ := hacc.2 j v (by simpa using e)
    exact ⟨c, u, by simpa [sg] using e1, e2⟩
  have hlen : (signsV z).length ≤ sizeLine := by simpa [signsV, sg, Str.length] using hz
  exact ⟨.ref s.heap.objs.size, _, I.laid (t' := tk) hk (Nat.le_refl _) (show ObjOk X.prog X.w _ h' _ (.lst (signsV z)) from ⟨hlen, acc.toList, c', hv, hS⟩), rfl, q _ (I.hok.fresh (Nat.le_refl _))⟩
theorem mulOk6 {z : Str} {i : Int} (hz : z.length = 1) (h0 : 0 ≤ i) (h1 : i ≤ 6) : PySem.MulOk z i := by
  have : i = 0 ∨ i = 1 ∨ i = 2 ∨ i = 3 ∨ i = 4 ∨ i = 5 ∨ i = 6 := by omega
  unfold PySem.MulOk
  rw [hz]
  rcases this with rfl | rfl | rfl | rfl | rfl | rfl | rfl <;> decide
theorem op_mul_txt {X : Cx} : OpR X (binaryOp .Mult) (fun x y H Q => ∃ (z : Str) (i : Int), x = .str z ∧ y = .int i ∧ z.length = 1 ∧ 0 ≤ i ∧ i ≤ 6 ∧ Q (.str (Txt.mul z i)) H) := by
  intro pins s σ H x y v u Q I rx ry h
  obtain ⟨z, i, rfl, rfl, hz, h0, h1, q⟩ := h
  obtain ⟨t, rfl⟩ := rx
  obtain ⟨t', rfl⟩ := ry
  exact PySem.SB.mul (mulOk6 hz h0 h1) fun t2 k => ⟨.str (Txt.mul z i), H, I.tok k, ⟨t2, rfl⟩, q⟩
/-! ### a comprehension over a text -/
theorem lc_txt {z : Str} {f : Nat → V} {g : TG} {te : TE} {vs : List Nat} {σ : L2.St} {H : Hp} {D : Addr} {Qd : Hp → Prop} (hD : H D = none) (hz : z.length ≤ 100000)
    (helt : ∀ (c : Nat) (H' : Hp) (R : V → Hp → Prop), c ∈ sg z → Same H H' → R (f c) H' → g (.str ⟨#[c]⟩) (wipe σ vs) H' fun σ2 H2 => wipe σ2 vs = wipe σ vs ∧ te σ2 H2 R)
    (hq : ∀ H', Same H H' → H' D = some (.lst ((sg z).map f)) → Qd H') :
    ∃ W : Nat → Nat → Hp → Prop, (∃ m, W 0 m (upd H D (.lst []))) ∧ ∀ i m H, W i m H →
      ((Its z).stop i H ∧ Qd H) ∨ ((Its z).go i H ∧ ∃ Nx : Hp → Prop, (∀ H', Nx H' → ∃ m', m' < m ∧ W (i + 1) m' H') ∧ ∀ x H', (Its z).yld i H x H' → g x (wipe σ vs) H' fun σ2 H2 => wipe σ2 vs = wipe σ vs ∧ tYes σ2 H2 fun b H3 =>
        if b = true then te σ2 H3 fun y H4 => ∃ acc, H4 D = some (.lst acc) ∧ acc.length < sizeLine ∧ Nx (upd H4 D (.lst (acc ++ [y]))) else Nx H3) := by
  have hsz : z.cps.size = (sg z).length := by simp [sg]
  refine lc_it (walk_str (z := z)) (fun i H' => Same H H' ∧ H' D = some (.lst (((sg z).take i).map f))) ⟨same_new hD _, upd_same⟩ (fun _ _ _ _ => True.intro) ?_ (fun H' h => hq H' h.1 (by rw [hsz] at h; rw [h.2, List.take_length]))
  rintro i x H1 H2 hi ⟨g1, g2⟩ ⟨rfl, c, hc, rfl⟩
  have hc' : (sg z)[i]? = some c := by simpa [sg] using hc
  refine helt c H2 _ (List.mem_of_getElem? hc') g1 ⟨_, g2, ?_, fun b o q => ?_, ?_⟩
  · have : (((sg z).take i).map f).length ≤ z.length := by simp [sg, Str.length]; omega
    exact Nat.lt_of_le_of_lt (Nat.le_trans this hz) (by decide)
  · rw [upd_ne (ne_of_none q hD)]
    exact g1 b o q
  · rw [upd_same, List.take_add_one, hc']
    simp
end Fp
namespace Fp
open PySem PySem.Spec PyProof.Rows L2
/-! ### methods with their promises -/
section
variable {X : Cx} {k i : Nat} {x m : Str} {p pos apos : Pos} {e o : Expr} {es : List Expr} {t : TA} {ta : TE} {C : Addr} {ps : List Str} {sp : Sp}
structure Md (P : Program) (w : World) (K : PySem.W.Frag) (mg : Str → Option Value) (base : Heap) (CX : CXT) (C : Addr) (m : Str) (k : Nat) (ps : List Str) (sp : Sp) : Prop where
  ex : ∃ (f : Addr) (fd : FuncData), Meth K C m f ∧ Binds K fd ps [] ∧ FnOk P w K mg base CX k f fd ps sp
theorem pe_md {pl : Sem Bool} (he : PE X o ta) (c : Cls X.K C) (M : Md X.prog X.w X.K X.mg X.base CX0 C m k ps sp) (hr : Room k X.A) (ha : PA X (e :: es) t)
    (hst : starEach (e :: es) X.env = (false, eval e X.env) :: starEach es X.env := by rfl) (hpl : (backTo pos (starEach es X.env)).any (·.1) = false := by rfl)
    (ht : eval (.Call (.Attribute o m apos) (e :: es) [] pos) X.env = (do
      let ov ← eval o X.env
      standAt apos.atName
      let (f, first) ← holding [ov] (getMethod ov m pl)
      callWith pos f first (backTo pos (starEach (e :: es) X.env)) (backToKw pos (keywordEach [] X.env))) := by rfl) :
    PE X (.Call (.Attribute o m apos) (e :: es) [] pos) (tMeth C m sp [] E0 ta t) := by
  obtain ⟨f, fd, h1, h2, h3⟩ := M.ex
  exact pe_meth he c h1 h3 hr h2 .nil pass0 ha hst hpl ht
theorem pe_md0 {pl : Sem Bool} (he : PE X o ta) (c : Cls X.K C) (M : Md X.prog X.w X.K X.mg X.base CX0 C m k ps sp) (hr : Room k X.A)
    (ht : eval (.Call (.Attribute o m apos) [] [] pos) X.env = (do
      let ov ← eval o X.env
      standAt apos.atName
      let (f, first) ← holding [ov] (getMethod ov m pl)
      callWith pos f first (backTo pos (starEach [] X.env)) (backToKw pos (keywordEach [] X.env))) := by rfl) :
    PE X (.Call (.Attribute o m apos) [] [] pos) (tMeth C m sp [] E0 ta tNil) := by
  obtain ⟨f, fd, h1, h2, h3⟩ := M.ex
  exact pe_meth0 he c h1 h3 hr h2 .nil pass0 ht
end
/-- a statement that is never reached -/
theorem ps_no {X : Cx} {st : Stmt} : PS X st (fun _ _ _ => False) := ⟨fun _ _ _ _ _ _ h => h.elim⟩
/-! ### a class of the module, made with its promise -/
structure MkC (P : Program) (w : World) (K : PySem.W.Frag) (mg : Str → Option Value) (base : Heap) (x : Str) (C : Addr) (k : Nat) (ps : List Str) (sp : Sp) : Prop where
  at_ : mg x = some (.ref C)
  ex : ∃ (f : Addr) (fd : FuncData), Mk K C f ∧ Binds K fd ps [] ∧ FnOk P w K mg base CX0 k f fd ps sp
section
variable {X : Cx} {x : Str} {k : Nat} {ps : List Str} {sp : Sp} {C : Addr} {e : Expr} {es : List Expr} {t : TA} {p pos : Pos}
theorem pe_mk0 (M : MkC X.prog X.w X.K X.mg X.base x C k ps sp) (hr : Room (k + 1) X.A) (hg : Gl X x) (hdb : (x == ("__debug__" : Str)) = false := by decide) : PE X (.Call (.Name x p) [] [] pos) (tMake C sp [] E0 tNil) := by
  obtain ⟨f, fd, h1, h2, h3⟩ := M.ex
  exact pe_make0 h1 h3 hr hg M.at_ h2 .nil pass0 hdb
theorem pe_mk (M : MkC X.prog X.w X.K X.mg X.base x C k ps sp) (hr : Room (k + 1) X.A) (hg : Gl X x) (ha : PA X (e :: es) t) (hdb : (x == ("__debug__" : Str)) = false := by decide)
    (he : starEach (e :: es) X.env = (false, eval e X.env) :: starEach es X.env := by rfl) (hpl : (backTo pos (starEach es X.env)).any (·.1) = false := by rfl) : PE X (.Call (.Name x p) (e :: es) [] pos) (tMake C sp [] E0 t) := by
  obtain ⟨f, fd, h1, h2, h3⟩ := M.ex
  exact pe_make h1 h3 hr hg M.at_ h2 .nil pass0 ha hdb he hpl
end
/-! ### x == y, x != y by an own __eq__ (no own __ne__) -/
section
open PySem.W
variable {prog : Program} {w : World} {A : Around} {E : Value → Shared → Prop} {s : Shared} {K : Frag} {x C L f : Addr} {h₀ : Heap} {m : Str → Option Value} {ox : Obj} {od : Option Obj} {b tb : Value}
theorem tryNe_K {Q : Option Value → Shared → Prop} (hu : A.units + 1 < cLine) (X : K.In s.heap) (I : InstAt s.heap x ox C od) (hne : findIn K (.ref C) "__ne__" = some (some (.builtin "object.__ne__"))) (top : mroIn K C (.type "object") = some true)
    (hs : findIn K (.ref C) "__eq__" = some (some (.ref f))) (hf : isFn K (.ref f) = true)
    (h : wpAny (model prog w) A.in1 (call (.ref f) [.ref x, b]) (fun v s' => ∃ k, v = .bool k ∧ Q (some (.bool (!k))) s') E s) : wpAny (model prog w) A (tryCompare (.ref x) "__ne__" b) Q E s := by
  have inner : ∀ (A' : Around) (hu' : A'.units < cLine) (E' : Value → Shared → Prop) (Q' : Fin → Shared → Prop), wpAny (model prog w) A' (call (.ref f) [.ref x, b]) (fun v s' => ∃ k, v = .bool k ∧ Q' (.done (.ret (.bool (!k)))) s') E' s →
      wpAny (model prog w) A' (Builtin.«object.__ne__» ⟨[.ref x, b], []⟩) Q' E' s := by
    intro A' hu' E' Q' h'
    unfold Builtin.«object.__ne__»
    repeat (first
      | with_reducible refine wpAny_cRoomFor hu' ?_
      | (refine wpAny_bind (m := callSpecialIfBound? (.ref x) (Str.ofString "__eq__") [b])
          (ifBound_K X I hs hf (wpAny_mono h' (fun r s' hr => by
            obtain ⟨k, rfl, hq⟩ := hr
            repeat (first | exact hq | exact wpAny_pure hq | exact wpAny_truthy_bool hq | (refine wpAny_bind (m := truthy (.bool _)) (wpAny_truthy_bool ?_)) | wp_step)) fun _ _ e => e)))
      | wp_step)
  have hi : Looks (model prog w) s.heap (isInstance (.ref x) (.type "object")) true := I.type.andThen (looks_mroIn X top)
  have S := F.slot_object_ne
  have done : ∀ (Q' : Value → Shared → Prop), wpAny (model prog w) A.in1 (call (.ref f) [.ref x, b]) (fun v s' => ∃ k, v = .bool k ∧ Q' (.bool (!k)) s') E s → wpAny (model prog w) A (call (.builtin "object.__ne__") [.ref x, b]) Q' E s := by
    intro Q' h'
    refine wpAny_call (codeAny_call_builtin S.plain PySem.F.cmpEntry_ne (check_slot PySem.F.cmpKind_ne PySem.F.cmpSplit_ne hi (PySem.F.cmpArgs_ne _ _) (inner A.in1 hu _ _ (wpAny_mono h' (fun v s' hv => ?_) fun _ _ e => e))))
    obtain ⟨k, rfl, hq⟩ := hv
    exact ⟨k, rfl, hq⟩
  have one : wpAny (model prog w) A (callSpecialIfBound? (.ref x) "__ne__" [b]) (fun r s' => ∃ k, r = some (.bool k) ∧ Q (some (.bool k)) s') E s := by
    simp only [callSpecialIfBound?, bindSpecialIfBound?]
    refine wpAny_holding (wpAny_bind (wpAny_bind (wpAny_bind (I.type.here ((looks_findIn X hne).here ?_)))))
    refine wpAny_bind (wpAny_askSetting (wpAny_ite ?_))
    have fin : wpAny (model prog w) A (call (.builtin "object.__ne__") ([.ref x] ++ [b]) >>= fun v => pure (some v)) (fun r s' => ∃ k, r = some (.bool k) ∧ Q (some (.bool k)) s') E s :=
      wpAny_bind (done _ (wpAny_mono h (fun v s' hv => by
        obtain ⟨k, rfl, hq⟩ := hv
        exact ⟨k, rfl, wpAny_pure ⟨_, rfl, hq⟩⟩) fun _ _ e => e))
    rw [S.bind]
    split
    · exact wpAny_bind (wpAny_pure (wpAny_pure fin))
    · exact wpAny_tryCatch (wpAny_bind (wpAny_pure (wpAny_pure fin)))
  unfold tryCompare
  refine wpAny_bind (wpAny_mono one (fun r s' z => ?_) fun _ _ e => e)
  obtain ⟨k, rfl, hq⟩ := z
  exact wpAny_pure hq
theorem ne_K {Q : Value → Shared → Prop} (hu : A.units + 1 < cLine) (F : Fr h₀ L s.heap m) (X₀ : K.In h₀) (I : InstAt s.heap x ox C od) (hb : Looks (model prog w) s.heap (typeOf b) tb) (hn : notFirst K C tb = true)
    (hne : findIn K (.ref C) "__ne__" = some (some (.builtin "object.__ne__"))) (top : mroIn K C (.type "object") = some true) (hs : findIn K (.ref C) "__eq__" = some (some (.ref f))) (hf : isFn K (.ref f) = true)
    (h : wpAny (model prog w) A.in1 (call (.ref f) [.ref x, b]) (fun v s' => ∃ k, v = .bool k ∧ Q (.bool (!k)) s') E s) : wpAny (model prog w) A (richCompare .NotEq (.ref x) b) Q E s := by
  have X := X₀.keeps F.keep
  have one : wpAny (model prog w) A (tryCompare (.ref x) "__ne__" b) (fun r s' => ∃ v, r = some v ∧ Q v s') E s :=
    tryNe_K hu X I hne top hs hf (wpAny_mono h (fun v s' hv => by
      obtain ⟨k, rfl, hq⟩ := hv
      exact ⟨k, rfl, _, rfl, hq⟩) fun _ _ e => e)
  unfold richCompare
  simp only [oneThing_ref]
  refine wpAny_holding (wpAny_bind (wpAny_cRoomFor (Nat.lt_of_succ_lt hu) ?_))
  refine wpAny_bind (I.type.here (wpAny_bind (hb.here ?_)))
  split
  · rename_i q
    have e : subIn K tb (.ref C) = some false := by
      rcases Bool.or_eq_true_iff.mp hn with e | e
      · rw [beq_iff_eq.mp e] at q; simp at q
      · exact beq_iff_eq.mp e
    refine wpAny_bind ((looks_subIn X e).here ?_)
    simp only [Bool.false_eq_true, if_false]
    refine wpAny_bind (wpAny_mono one (fun r s' z => ?_) fun _ _ e => e)
    obtain ⟨v, rfl, hq⟩ := z
    exact wpAny_pure hq
  · refine wpAny_bind (wpAny_pure ?_)
    simp only [Bool.false_eq_true, if_false]
    refine wpAny_bind (wpAny_mono one (fun r s' z => ?_) fun _ _ e => e)
    obtain ⟨v, rfl, hq⟩ := z
    exact wpAny_pure hq
end
/-- what a class with an own == must have -/
structure EqC (P : Program) (w : World) (K : PySem.W.Frag) (mg : Str → Option Value) (base : Heap) (C : Addr) (n : Nat) (ps : List Str) (sp : Sp) : Prop where
  ex : ∃ (f : Addr) (fd : FuncData), PySem.W.findIn K (.ref C) "__eq__" = some (some (.ref f)) ∧ PySem.W.isFn K (.ref f) = true ∧ Binds K fd ps [] ∧ FnOk P w K mg base CX0 n f fd ps sp
  ne : PySem.W.findIn K (.ref C) "__ne__" = some (some (.builtin "object.__ne__"))
  top : PySem.W.mroIn K C (.type "object") = some true
def rEqO (K : PySem.W.Frag) (C : Addr) (sp : Sp) (neg : Bool) : R2 := fun x y H Q => ∃ (a dx : Addr) (fs : List (Str × V)) (t : Value), x = .ref a ∧ H a = some (.ins C dx fs) ∧ TyX K H y t ∧ PySem.W.notFirst K C t = true ∧
  sp [x, y] H (fun v H' => ∃ b, v = .bl b ∧ Q (.bl (if neg then !b else b)) H') E0
section
variable {X : Cx} {C : Addr} {n : Nat} {ps : List Str} {sp : Sp}
theorem op_eqO (M : EqC X.prog X.w X.K X.mg X.base C n ps sp) (hr : Room n X.A) : OpR X (compareOp .Eq) (rEqO X.K C sp false) := by
  intro pins s σ H x y v u Q I rx ry h
  obtain ⟨a, dx, fs, t, rfl, ha, ty, hn, q⟩ := h
  cases rx
  obtain ⟨f, fd, hs, hf, hb, F⟩ := M.ex
  obtain ⟨mA, J, _⟩ := ins_get I.hok ha
  obtain ⟨od, J, _⟩ := J.look
  obtain ⟨m, hF⟩ := I.fr
  obtain ⟨Pk, Z, pk, _⟩ := kit_of I ry ty
  show wpAny (model X.prog X.w) X.A (richCompare .Eq (.ref a) u) (EP X pins σ Q) X.xe s
  refine PySem.W.cmp_K (op := .Eq) (tb := t) hr.units0 hF I.ok.mod.kin J (Z.ty _ _ I.kIn pk) hn hs hf ?_
  refine wpAny_mono (run_fn (us := [.ref a, u]) (vs := [.ref a, y]) F hr hb .nil pass0 I (.cons rfl (.cons ry .nil)) (show sp ([V.ref a, y] ++ []) H _ E0 from q)) (fun r s' z => ?_) fun _ _ e => e
  obtain ⟨v, H', I', rv, b, rfl, q'⟩ := z
  cases rv
  exact ⟨.bl b, H', I', rfl, q'⟩
theorem op_neO (M : EqC X.prog X.w X.K X.mg X.base C n ps sp) (hr : Room (n + 1) X.A) : OpR X (compareOp .NotEq) (rEqO X.K C sp true) := by
  intro pins s σ H x y v u Q I rx ry h
  obtain ⟨a, dx, fs, t, rfl, ha, ty, hn, q⟩ := h
  cases rx
  obtain ⟨f, fd, hs, hf, hb, F⟩ := M.ex
  obtain ⟨mA, J, _⟩ := ins_get I.hok ha
  obtain ⟨od, J, _⟩ := J.look
  obtain ⟨m, hF⟩ := I.fr
  obtain ⟨Pk, Z, pk, _⟩ := kit_of I ry ty
  show wpAny (model X.prog X.w) X.A (richCompare .NotEq (.ref a) u) (EP X pins σ Q) X.xe s
  refine ne_K (tb := t) (hu_of hr) hF I.ok.mod.kin J (Z.ty _ _ I.kIn pk) hn M.ne M.top hs hf ?_
  have e0 : Env0 X.prog X.w X.K X.mg X.base X.A.in1 X.stack s H := I.env0.in1
  have r2 : Vals ([V.ref a, y] ++ []) ([Value.ref a, u] ++ []) := (Vals.append (.cons rfl (.cons ry .nil)) .nil)
  have hsp : sp ([V.ref a, y] ++ []) H (fun v H' => ∃ b, v = .bl b ∧ Q (.bl (!b)) H') E0 := q
  have hl : ([Value.ref a, u] ++ []).length = ps.length := by rw [← r2.length]; exact F.len _ _ _ _ hsp
  refine wpAny_call (codeAny_mono (F.run X.A.in1 X.stack s H ⟨[.ref a, u], []⟩ _ _ _ E0 hr.in1 e0 (hb s [.ref a, u] I.kIn hl) r2 hsp) fun r s' hq => ?_)
  cases r with
  | error e => exact pass0 pins σ H s e s' I hq
  | ok fl =>
    cases fl with
    | ret u =>
      obtain ⟨v, H', I', rv, b, rfl, q'⟩ := I.after hq
      cases rv
      exact ⟨b, rfl, .bl (!b), H', I', rfl, q'⟩
    | next => exact False.elim hq
    | brk => exact False.elim hq
    | cont => exact False.elim hq
end
end Fp
/-! Defs that may show data: no repr under way -/
namespace L2
open PySem PySem.Spec PyProof.Rows
structure FnOkG (P : Program) (w : World) (K : PySem.W.Frag) (mg : Str → Option Value) (base : Heap) (CX : CXT) (k : Nat) (f : Addr) (fd : FuncData) (ps : List Str) (sp : Sp) : Prop where
  len : ∀ vs H Q E, sp vs H Q E → vs.length = ps.length
  run : ∀ (A : Around) (outer : List Env) (s : Shared) (H : Hp) (args : Args) (us : List Value) (vs : List V) (Q : VK) (E : XK), Room k A → A.guards = some [] → Env0 P w K mg base A outer s H → BindsTo s fd args (ps.zip us) → Vals vs us → sp vs H Q E →
    codeAny (model P w) A (.call (.ref f) args) (CR CX outer P w H s Q E) s
theorem fn_ofG {CX : CXT} {P : Program} {w : World} {K : PySem.W.Frag} {mg : Str → Option Value} {base : Heap} {k : Nat} {f : Addr} {name qual : Str} {params : Arguments} {body : List Stmt} {scope : Scope} {dV kV doc pm cdv ct oc : Value} {an od : Option Addr}
    {osl : Array (Option Value)} {N ps : List Str} {sp : Sp} (lk : K.lookup f = some ⟨oc, od, .func (PySem.W.fnOf name qual params body scope dV kV doc pm an cdv ct), osl⟩) (hcd : PySem.W.codeIn K cdv qual = true) (S : FnScope N ps scope)
    (len : ∀ vs H Q E, sp vs H Q E → vs.length = ps.length)
    (hbody : ∀ (A : Around) (outer : List Env) (s : Shared) (H : Hp) (vs : List V) (Q : VK) (E : XK), Room k (A.deeper (envOfC qual scope s.heap.objs.size f cdv)) → (A.deeper (envOfC qual scope s.heap.objs.size f cdv)).guards = some [] → sp vs H Q E →
      ∃ t, PSs (cxOf CX P w K mg base N qual scope f cdv A outer s H E) body t ∧ t { nx := fun _ H' => Q .non H', rt := Q } (start N vs) H) :
    FnOkG P w K mg base CX (k + 1) f (PySem.W.fnOf name qual params body scope dV kV doc pm an cdv ct) ps sp := by
  refine ⟨len, fun A outer s H args us vs Q E hr hgu e0 hb r hsp => ?_⟩
  have hl := len _ _ _ _ hsp
  have KX : K.In s.heap := e0.mod.kin.keeps fun b o e => (e0.bs b o e).1
  have lim : s.heap.NoLimit := e0.mod.nolimit.keeps fun b o e => (e0.bs b o e).1
  have hkind : ∀ y ∈ ps.zip us, scope.names.lookup y.1 = some .local ∨ (scope.names.lookup y.1 = some .cell ∧ ((cellsFrom (s.heap.objs.size + 1) scope.names []).lookup y.1).isSome = true) := fun ⟨n, v⟩ hy => by
    rcases S.par n (List.of_mem_zip hy).1 with q | q
    · exact .inl q
    · exact .inr ⟨q, PySem.W.cellsFrom_some _ _ _ (.inl q)⟩
  refine codeAny_call_function hr.depth (KX _ _ lk) rfl S.co S.gen rfl (PySem.W.codeRec_of KX hcd) (hb _ _ _ _ ?_)
  refine wpAny_newFunctionEnv_cells S.kind hkind fun env he s1 x => ?_
  subst he
  refine ⟨lim.keeps x.toInCall.keep, codeAny_func ?_⟩
  obtain ⟨t, ht, hq⟩ := hbody A outer s H vs Q E (hr.deeper _) hgu hsp
  have I : Inv (cxOf CX P w K mg base N qual scope f cdv A outer s H E) [] (start N vs) H s1 := inv_start S hr.hd e0 hl r x
  refine wpAny_mono (ht.run [] s1 (start N vs) H _ I hq) (fun fl s' hs => ?_) fun e s' hs => hs
  have fin : ∀ {σ' : St} {H' : Hp} {v : V} {u : Value}, Inv (cxOf CX P w K mg base N qual scope f cdv A outer s H E) [] σ' H' s' → RelV v u → Q v H' → CE outer P w H s Q u s' :=
    fun {σ' H' v u} J rv q => ⟨v, H', J.os, J.bare, J.base, J.hok, rv, q⟩
  cases fl with
  | ret u =>
    obtain ⟨v, σ', H', J, rv, q⟩ := hs
    exact fin J rv q
  | next =>
    obtain ⟨σ', H', J, q⟩ := hs
    exact fin (v := V.non) (u := Value.none) J rfl q
  | brk =>
    obtain ⟨_, _, _, q⟩ := hs
    exact False.elim q
  | cont =>
    obtain ⟨_, _, _, q⟩ := hs
    exact False.elim q
theorem law_callG {P : Program} {w : World} {K : PySem.W.Frag} {mg mb : Str → Option Value} {CX : CXT} {k : Nat} {fa a : Addr} {fd : FuncData} {x : Str} {sp : Sp} {s₁ : Shared} {vs : List Value} {ns : List Int}
    (KX : K.In s₁.heap) (hns : s₁.heap.Ns mainGlobals mg) (hb : s₁.heap.Ns builtinsNs mb) (hbb : ∀ x : Str, x ≠ "__name__" → mb x = bootBuiltins x) (hlim : s₁.heap.NoLimit) (hg : s₁.gens = #[])
    (ha : s₁.heap.get? a = some { cls := .type "list", data := .seq vs.toArray }) (hi : IntsAre vs ns) (hl : ns.length ≤ sizeLine) (hr : Room k callerA)
    (F : ∀ base : Heap, K.In base → base.Ns mainGlobals mg → FnOkG P w K mg base CX k fa fd [x] sp) (hbind : ∀ (s : Shared) (u : Value), BindsTo s fd ⟨[u], []⟩ [(x, u)])
    (hsp : ∀ H : Hp, Only H → SqL K H a (ns.map V.int) → sp [.ref a] H (fun v _ => v = .bl true) fun _ _ _ => False)
    (hCX : ∀ H e s', CX [] H s₁ (fun _ _ _ => False) e s' → False) :
    codeAny (model P w) callerA (.call (.ref fa) ⟨[.ref a], []⟩) (fun r s' => r = .ok (.ret (.bool true)) ∧ OldK s₁.heap s'.heap ∧ s'.os = s₁.os ∧ AllBare s'.gens) s₁ := by
  have rv := vals_ints hi
  have lenV := hi.length
  -- from an abstract heap in which nothing but the script may be tracked
  have core : ∀ H : Hp, Only H → SqL K H a (ns.map V.int) → HOk P w H s₁.heap → (∀ b, H b ≠ none → b = a) → (H a ≠ none → K.lookup a = none) →
      codeAny (model P w) callerA (.call (.ref fa) ⟨[.ref a], []⟩) (fun r s' => r = .ok (.ret (.bool true)) ∧ OldK s₁.heap s'.heap ∧ s'.os = s₁.os ∧ AllBare s'.gens) s₁ := by
    intro H hO hS hok hA hK
    have base_of : ∀ {b : Addr} {o : Obj}, s₁.heap.get? b = some o → H b = none → (hidT s₁.heap H).get? b = some o := fun e n => hidT_get e n
    have noA : ∀ {b : Addr} {o : Obj} {es : Array DictEntry} {ep : Nat}, s₁.heap.get? b = some o → o.data = .dict es ep → H b = none := fun {b o es ep} e d => by
      cases q : H b with
      | none => rfl
      | some u =>
        have e' : b = a := hA b (by rw [q]; simp)
        subst e'
        rw [ha] at e; cases e
        have d' : Data.seq vs.toArray _ = Data.dict es ep := d
        cases d'
    have nsK : ∀ {b : Addr} {m : Str → Option Value}, s₁.heap.Ns b m → (hidT s₁.heap H).Ns b m := fun {b m} ⟨o, es, ep, e, d, r⟩ => ⟨o, es, ep, base_of e (noA e d), d, r⟩
    have hKb : K.In (hidT s₁.heap H) := fun b o e => base_of (KX b o e) (by
      cases q : H b with
      | none => rfl
      | some u =>
        have e' : b = a := hA b (by rw [q]; simp)
        subst e'
        rw [hK (by rw [q]; simp)] at e; cases e)
    have hM : Mod K mg (hidT s₁.heap H) := ⟨hKb, nsK hns, ⟨mb, nsK hb, hbb⟩, let ⟨mc, h1, h2⟩ := hlim; ⟨mc, nsK h1, h2⟩⟩
    have e0 : Env0 P w K mg (hidT s₁.heap H) callerA [] s₁ H := ⟨rfl, hM, fun b o e => of_hidT e, Nat.le_of_eq (hidT_size _ _), trivial, fun b hb => absurd (show b ∈ ([] : List Addr) from hb) (by simp), hok, .of_eq hg⟩
    refine codeAny_mono ((F _ hKb (nsK hns)).run callerA [] s₁ H ⟨[.ref a], []⟩ [.ref a] [.ref a] _ _ hr rfl e0 (hbind s₁ (.ref a)) (.cons rfl .nil) (hsp H hO hS)) fun r s' h => ?_
    cases r with
    | error e => exact (hCX H e s' h).elim
    | ok fl =>
      cases fl with
      | next => exact False.elim h
      | brk => exact False.elim h
      | cont => exact False.elim h
      | ret u =>
        obtain ⟨v, H', os, bare, un, hok', r', q⟩ := h
        have q' : v = .bl true := q
        subst q'
        obtain rfl : u = Value.bool true := r'
        refine ⟨rfl, OldK.of_keep fun b o e => ?_, os, bare⟩
        cases q : H b with
        | none => exact un.keep b o e q (by intro z; exact absurd (show b ∈ ([] : List Addr) from z) (by simp)) (by simp)
        | some u =>
          rcases hO b with z | ⟨ob, xs, z⟩
          · rw [q] at z; cases z
          · have z2 := un.frzs b ob _ z
            obtain ⟨e1, _⟩ := hok b _ z
            obtain ⟨e2, _⟩ := hok' b _ z2
            rw [e] at e1; cases e1
            exact e2
  cases hk : K.lookup a with
  | some o =>
    -- the script is one of the module's own objects
    have e := KX a o hk
    rw [ha] at e
    cases e
    refine core (fun _ => none) (fun _ => .inl rfl) (.inr ⟨_, vs.toArray, _, hk, rfl, rfl, rfl, by rw [List.size_toArray, lenV]; exact hl, by simpa using rv⟩) (fun b u z => by have z' : (none : Option HO) = some u := z; cases z') (fun b z => absurd rfl z) fun z => absurd rfl z
  | none =>
    refine core (fun b => if b = a then some (.frz { cls := .type "list", data := .seq vs.toArray } (.lst (ns.map V.int))) else none) (fun b => ?_) (.inl (.inr ⟨{ cls := .type "list", data := .seq vs.toArray }, if_pos rfl⟩)) (fun b u z => ?_) (fun b z => ?_) fun _ => hk
    · by_cases hb : b = a
      · exact .inr ⟨_, _, if_pos hb⟩
      · exact .inl (if_neg hb)
    · by_cases hb : b = a
      · have z' := (if_pos hb).symm.trans z
        cases z'
        subst hb
        exact ⟨ha, by rw [List.length_map]; exact hl, vs, _, rv, ha⟩
      · have z' := (if_neg hb).symm.trans z
        cases z'
    · by_cases hb : b = a
      · exact hb
      · exact absurd (if_neg hb) z
theorem walk_ofG {l : PySem.W.OpenLaw} {n k : Nat} {q : Program} {loose : List Str} {XP : (Str → Option Value) → Heap → Prop} {YP : World → Heap → Prop} {d : DefRec} {K : Params → PySem.W.Frag} {CX : World → CXT} {sp : World → Sp} {x : Str}
    (hn : l.most = some n) (hn2 : n ≤ sizeLine) (hdf : d.params.defaults = []) (hr : Room k callerA)
    (hY : ∀ (w : World) (h : Heap), YP w h → (K w.params).In h)
    (F : ∀ (w : World) (mg : Str → Option Value) (fa : Addr) (h : Heap), (K w.params).In h → h.Ns mainGlobals mg → mg d.name = some (.ref fa) →
      ∃ fd : FuncData, (∀ (s : Shared) (u : Value), BindsTo s fd ⟨[u], []⟩ [(x, u)]) ∧
        ∀ base : Heap, (K w.params).In base → base.Ns mainGlobals mg → FnOkG l.prog w (K w.params) mg base (CX w) k fa fd [x] (sp w))
    (hsp : ∀ (w : World) (H : Hp) (a : Addr) (ns : List Int), ns.length ≤ n → Only H → SqL (K w.params) H a (ns.map V.int) → sp w [.ref a] H (fun v _ => v = .bl true) fun _ _ _ => False)
    (hCX : ∀ (w : World) (H : Hp) (s : Shared) (e : Value) (s' : Shared), CX w [] H s (fun _ _ _ => False) e s' → False) :
    PySem.W.WalkO q loose XP YP l.row.toRowW d [] (fun f vs => PySem.call f vs) := by
  refine Att.attach_call hn hdf fun w s₀ s₁ mg mb fa o pm cd doc a vs ns G Y ho hd hcd hmg hobj hints hlen hg => ?_
  have KX := hY w _ Y
  obtain ⟨fd, hb, hF⟩ := F w mg fa _ KX G.T.g hmg
  exact law_callG KX G.T.g G.T.b G.T.builtins G.T.nolimit hg hobj hints (Nat.le_trans hlen hn2) hr hF hb (fun H hO hS => hsp w H a ns hlen hO hS) fun H e s' => hCX w H s₁ e s'
theorem FnOk.toG {P : Program} {w : World} {K : PySem.W.Frag} {mg : Str → Option Value} {base : Heap} {CX : CXT} {k : Nat} {f : Addr} {fd : FuncData} {ps : List Str} {sp : Sp} (F : FnOk P w K mg base CX k f fd ps sp) : FnOkG P w K mg base CX k f fd ps sp :=
  ⟨F.len, fun A outer s H args us vs Q E hr _ => F.run A outer s H args us vs Q E hr⟩
end L2
namespace Fp
open PySem PySem.Spec PyProof.Rows L2
section
variable {P : Program} {w : World} {K : PySem.W.Frag} {mg : Str → Option Value} {base : Heap}
theorem fun_okG {x qual : Str} {st : Stmt} {f : Addr} {fd : FuncData} {N ps : List Str} {k : Nat} {sp : Sp} (F : Fun K x qual st f fd) (S : FnScope N ps (defScope st)) (len : ∀ vs H Q E, sp vs H Q E → vs.length = ps.length)
    (hbody : ∀ (cdv : Value) (A : Around) (outer : List Env) (s : Shared) (H : Hp) (vs : List V) (Q : VK) (E : XK), Room k (A.deeper (envOfC qual (defScope st) s.heap.objs.size f cdv)) → (A.deeper (envOfC qual (defScope st) s.heap.objs.size f cdv)).guards = some [] → sp vs H Q E →
      ∃ t, PSs (cxOf CX0 P w K mg base N qual (defScope st) f cdv A outer s H E).nox (defBody st) t ∧ t { nx := fun _ H' => Q .non H', rt := Q } (start N vs) H) : FnOkG P w K mg base CX0 (k + 1) f fd ps sp := by
  obtain ⟨oc, od, kV, doc, pm, an, cdv, ct, osl, rfl, lk, hcd⟩ := F.ex
  refine fn_ofG lk hcd S len fun A outer s H vs Q E hr hg hsp => ?_
  obtain ⟨t, h, q⟩ := hbody cdv A outer s H vs Q E hr hg hsp
  exact ⟨t, h.nox, q⟩
structure FdG (P : Program) (w : World) (K : PySem.W.Frag) (mg : Str → Option Value) (base : Heap) (CX : CXT) (x : Str) (k : Nat) (ps : List Str) (sp : Sp) : Prop where
  ex : ∃ (f : Addr) (fd : FuncData), mg x = some (.ref f) ∧ PySem.W.keepIn K (.ref f) = true ∧ Binds K fd ps [] ∧ FnOkG P w K mg base CX k f fd ps sp
end
section
variable {X : Cx} {x : Str} {k : Nat} {ps : List Str} {sp : Sp} {e : Expr} {es : List Expr} {t : TA} {p pos : Pos}
theorem pe_fdG (G : FdG X.prog X.w X.K X.mg X.base CX0 x k ps sp) (hr : Room k X.A) (hgu : X.A.guards = some []) (hg : Gl X x) (ha : PA X (e :: es) t) (hdb : (x == ("__debug__" : Str)) = false := by decide)
    (he : starEach (e :: es) X.env = (false, eval e X.env) :: starEach es X.env := by rfl) (hpl : (backTo pos (starEach es X.env)).any (·.1) = false := by rfl) :
    PE X (.Call (.Name x p) (e :: es) [] pos) (tCall sp [] E0 t) := by
  obtain ⟨f, fd, hm, hk, hb, F⟩ := G.ex
  refine ⟨fun pins s σ H Q I h => ?_⟩
  refine wpAny_Call_Name_kw (ld_glob I hg hm ?_ hdb)
  refine PySem.W.callWith_K (h₀ := X.base) I.ok.mod.kin hk (thn (ha.run pos pins s σ H _ I h) fun us s1 ⟨vs, H1, I1, r, q⟩ => ⟨I1.kIn, ?_⟩) he hpl
  have r2 : Vals (vs ++ []) (us ++ []) := r.append .nil
  have hl : (us ++ []).length = ps.length := by rw [← r2.length]; exact F.len _ _ _ _ q
  refine wpAny_call (codeAny_mono (F.run X.A X.stack s1 H1 ⟨us, []⟩ (us ++ []) (vs ++ []) Q E0 hr hgu I1.env0 (hb s1 us I1.kIn hl) r2 q) fun r s' hq => ?_)
  cases r with
  | error e => exact pass0 pins σ H1 s1 e s' I1 hq
  | ok fl =>
    cases fl with
    | ret u => exact I1.after hq
    | next => exact False.elim hq
    | brk => exact False.elim hq
    | cont => exact False.elim hq
/-- repr(x), x of data -/
theorem call_reprG (hgu : X.A.guards = some []) (hu : X.A.units + 64 < cLine) : CallR X (.builtin "repr") (fun xs H Q => ∃ (p : Addr) (d : PyData), xs = [.ref p] ∧ Dp X.K H (.ref p) d ∧ d.showable = true ∧ d.hasDict = false ∧ d.depth ≤ 60 ∧ d.shown.length ≤ sizeLine ∧ Q (.str d.shown) H) := by
  intro pins s σ H xs us Q I r h
  obtain ⟨p, d, rfl, hd, h1, h2, h3, h4, q⟩ := h
  obtain ⟨u, rfl, rx⟩ := vals1 r
  obtain ⟨as, rd⟩ := Dp.reads I d _ u hd rx
  cases rx
  exact repr_of_reads' rd h1 (fun z => by rw [h2] at z; cases z) hgu (by omega) (fun _ _ z => z) (fun h' u tk k => ⟨.str d.shown, H, I.kept (t' := tk) k, ⟨_, rfl⟩, q⟩) h4
end
end Fp
namespace Fp
open PySem PySem.Spec PyProof.Rows L2
/-! ### for i, x in enumerate(tuple, start) -/
def ItF (K : PySem.W.Frag) (a : Addr) (lo : Int) : It :=
  ⟨fun i H => ∃ (ys : List V) (y : V), SqT K H a ys ∧ ys[i]? = some y,
   fun i H v H' => ∃ T y, v = .ref T ∧ H T = none ∧ H' = upd H T (.tup [.int (lo + (i : Nat)), y]) ∧ ∀ ys, SqT K H a ys → ys[i]? = some y,
   fun i H => ∃ ys : List V, SqT K H a ys ∧ ys.length ≤ i⟩
theorem turn_enumF {P : Program} {w : World} {K : PySem.W.Frag} {elts : List Expr} {kk : Nat} {tpos : Pos} (a e it : Addr) (lo : Int) :
    Turn P w K (.Tuple elts kk tpos) (ItF K a lo) [e, it] e (fun i h => (∃ was, IsEnum h e it (lo + ((i : Nat) : Int)) was) ∧ h.IsTupleIter it a i ∧ e ≠ it) where
  mem := List.mem_cons_self
  obj := fun i h st b hb => by
    obtain ⟨⟨was, he⟩, ⟨o, ho, hc, hd⟩, _⟩ := st
    rcases List.mem_cons.mp hb with z | z
    · subst z
      exact ⟨_, he, fun v q => nomatch q⟩
    · have z' := List.mem_singleton.mp z
      subst z'
      exact ⟨o, ho, fun v q => by rw [hd] at q; cases q⟩
  keep := fun i h h' st k => ⟨st.1.imp fun was he => k e (by simp) _ he, st.2.1.at fun o q => k it (by simp) o q, st.2.2⟩
  item := by
    intro X hP hw hK hc i pins s σ H E I hf st hg
    subst hP hw hK
    obtain ⟨⟨was, he⟩, hit, hne⟩ := st
    obtain ⟨ys, y, hq, hx⟩ := hg
    obtain ⟨its, rv, lp, hz⟩ := I.tuple hq
    obtain ⟨u, hu, ru⟩ := rv.get hx
    have le : e < s.heap.objs.size := Heap.lt_size he
    have li : it < s.heap.objs.size := by
      obtain ⟨_, q, _⟩ := hit
      exact Heap.lt_size q
    have fr := I.hok.fresh (Nat.le_refl s.heap.objs.size)
    have hL := lp
    have nel : e ≠ a := fun z => by
      obtain ⟨o, ho, hc', _⟩ := hL
      rw [← z, (show s.heap.get? e = some _ from he)] at ho
      cases ho
      injection hc' with z'
      exact absurd z' (by decide)
    have nil' : a ≠ it := fun z => by
      obtain ⟨o, ho, hc', _⟩ := hL
      obtain ⟨o2, ho2, hc2, _⟩ := hit
      rw [z, ho2] at ho
      cases ho
      rw [hc2] at hc'
      injection hc' with z'
      exact absurd z' (by decide)
    have hiu : its.toArray[i]? = some u := by simpa using hu
    have hlt : i < its.toArray.size := by
      by_cases z : i < its.toArray.size
      · exact z
      · rw [Array.getElem?_eq_none (by omega)] at hiu
        cases hiu
    refine wpAny_pyNext_enum_itemC (Draws.tuple (A := X.A.in1) (I.ok.hd hc) it a nil' its.toArray) he ⟨hit, hL⟩ hlt hne (by simp [hne, nel]) fun x h1 tk hx1 ho hst1 hT hsz hk => ⟨_, rfl, ?_⟩
    rw [hiu] at hx1
    cases hx1
    have hit1 := hst1.1
    refine wpAny_letOwnedTupleGo_enum (s := { s with heap := h1, toks := tk + 1 }) ho fun h2 he2 sb => ?_
    have hT2 := (sb.2 _ (Nat.ne_of_gt le)).trans hT
    have mem2 : ∀ {b : Addr}, b ∈ [e, it] → b < s.heap.objs.size := fun {b} hb => by
      rcases List.mem_cons.mp hb with z | z
      · rw [z]; exact le
      · rw [List.mem_singleton.mp z]; exact li
    refine ⟨.ref s.heap.objs.size, upd H s.heap.objs.size (.tup [.int (lo + (i : Nat)), y]), ?_, rfl, ⟨_, y, rfl, fr, rfl, fun zs hy => by rw [I.tuple_inj hy hq]; exact hx⟩, ⟨⟨u, ?_⟩, hit1.at fun o q => (sb.2 it (Ne.symm hne)).trans q, hne⟩, fun b hb => ?_⟩
    · refine I.turnedNew (ch := [e, it]) (fun b ob hb q => ?_) hf (Nat.le_refl _) ⟨by show 2 ≤ sizeLine; decide, [.int (lo + (i : Nat)) tk, u], .cons ⟨_, rfl⟩ (.cons ru .nil), ⟨_, hT2, rfl, _, rfl⟩⟩
      have be : b ≠ e := fun z => hb (by simp [z])
      have bi : b ≠ it := fun z => hb (by simp [z])
      exact (sb.2 b be).trans (hk b ob be bi q)
    · have e1 : lo + (((i + 1 : Nat)) : Int) = lo + (i : Int) + 1 := by omega
      rw [e1]
      exact he2
    · rw [upd_ne (Nat.ne_of_lt (mem2 hb))]
      exact (hf b hb).1
  done := by
    intro X hP hw hK hc i pins s σ H E I hf st hg
    subst hP hw hK
    obtain ⟨⟨was, he⟩, hit, hne⟩ := st
    obtain ⟨ys, hq, hx⟩ := hg
    obtain ⟨its, rv, lp, hz⟩ := I.tuple hq
    obtain ⟨f0, f1, f2, f3, f4, f5⟩ := hf it (by simp)
    have hl := rv.length
    have D : Draws X.prog X.w X.A.in1 it [it, a] i (fun _ _ => False) (fun j h => j = i ∧ h.IsTupleIter it a i ∧ h.IsTuple a its.toArray) := {
      live := fun j h st => by
        obtain ⟨_, ⟨o, ho, _⟩, _⟩ := st
        exact ⟨o, ho⟩
      frame := fun j h h' st k => ⟨st.1, st.2.1.at fun o q => k it (by simp) o q, st.2.2.at fun o q => k a (by simp) o q⟩
      item := fun j s Q E hj st _ => by
        have := st.1
        omega
      done := fun s Q E st hE => wpAny_nextOf_tuple_end (I.ok.hd hc) st.2.1 st.2.2 (by simp; omega) hE }
    exact wpAny_pyNext_enum_endD D he ⟨rfl, hit, lp⟩ fun h1 eb => ⟨rfl, I.turned (t' := s.toks) (fun b o hb q => eb b o hb q) f0 f1 f3 f4 f5⟩
  self := fun A i s Q E st h => st.1.elim fun _ he => wpAny_pyIter_enum he h
def iEnumF (K : PySem.W.Frag) (ta : TA) : TI := fun σ H R => ta σ H fun vs H1 => ∃ a xs lo, vs = [.ref a, .int lo] ∧ SqT K H1 a xs ∧ -(2 ^ 62) ≤ lo ∧ lo < 2 ^ 62 ∧ R (ItF K a lo) H1
theorem pi_enumF {X : Cx} {e1 e2 : Expr} {ta : TA} {p pos tpos : Pos} {elts : List Expr} {kk : Nat} (hg : Gl X "enumerate") (hm : X.mg "enumerate" = none) (ha : PA X [e1, e2] ta)
    (he : starEach (e1 :: [e2]) X.env = (false, eval e1 X.env) :: starEach [e2] X.env := by rfl) (hpl : (backTo pos (starEach [e2] X.env)).any (·.1) = false := by rfl) :
    PI X (.Tuple elts kk tpos) (.Call (.Name "enumerate" p) [e1, e2] [] pos) (iEnumF X.K ta) := by
  refine ⟨fun pins s σ H R I h => ?_⟩
  refine Call_ (ld_blt I hg hm boot_enumerate (PyProof.Rows.callWith_type1 (thn (ha.run pos pins s σ H _ I h) fun us s1 hh => ?_) he hpl))
  obtain ⟨vs, H1, I1, r1, a, xs, lo, ex, hq, hl0, hl1, q⟩ := hh
  subst ex
  obtain ⟨u1, u2, rfl, ra, rb⟩ := vals2 r1
  obtain rfl : u1 = Value.ref a := ra
  obtain ⟨t, rfl⟩ := rb
  obtain ⟨its, rv, lp, hz⟩ := I1.tuple hq
  refine enum_begins (begins_tuple a its.toArray) lp (by omega) (by omega) fun h1 he hit hsz hk => wpAny_pyIter_enum he ?_
  have I2 : Inv X pins σ H1 { s1 with heap := h1 } := I1.kept (t' := s1.toks) hk
  refine ⟨s1.heap.objs.size + 1, [s1.heap.objs.size + 1, s1.heap.objs.size], _, _, H1, rfl, I2, turn_enumF a (s1.heap.objs.size + 1) s1.heap.objs.size lo, ⟨⟨.none, by simpa using he⟩, ⟨_, hit, rfl, rfl⟩, Nat.succ_ne_self _⟩, fun b hb => ?_, q⟩
  have hle : s1.heap.objs.size ≤ b := by
    rcases List.mem_cons.mp hb with z | z
    · rw [z]; exact Nat.le_add_right _ _
    · rw [List.mem_singleton.mp z]; exact Nat.le_refl _
  exact I1.fpOk hle (I1.hok.fresh hle)

set_option maxHeartbeats 1000000 in
theorem meets_enumerate_newB1 {v : Value} {o : Obj} {H : Heap → Prop} (B : Begins v o H) :
    Meets (Builtin.«enumerate.__new__» ⟨[.type "enumerate", v], []⟩) (fun _ R s => H s.heap ∧
      R (.ok (.ret (.ref (s.heap.push o).objs.size))) { s with heap := (s.heap.push o).push { cls := .type "enumerate", data := .fields #[.none, .bool false, .ref s.heap.objs.size, rawInt 0, .none, .none] } }) :=
  .of_wp fun prog w A R s h => by
    obtain ⟨hp, g, d, tk, os⟩ := s; obtain ⟨h1, h⟩ := h
    have hsub := sub_enumerate
    have q1 : ∀ {A' : Around} {E : Value → Shared → Prop} {Q : Value → Shared → Prop}, Q (.ref hp.objs.size) ⟨hp.push o, g, d, tk, os⟩ → wpAny (model prog w) A' (pyIter v) Q E ⟨hp, g, d, tk, os⟩ :=
      fun q => B.iter prog w _ _ ⟨hp, g, d, tk, os⟩ _ h1 q
    wp_walk using q1
    refine wpAny_stack_any fun st => wpAny_pure ?_
    split
    · rename_i c _ _ _ _ _
      cases (c == Value.type "enumerate")
      · wp_walk using q1
        exact ⟨_, rfl, h⟩
      · wp_walk using q1
        exact ⟨_, rfl, h⟩
    · wp_walk using q1
      exact ⟨_, rfl, h⟩
section
variable {prog : Program} {w : World} {A : Around} {E : Value → Shared → Prop} {s : Shared}
theorem enum_begins1 {v : Value} {o : Obj} {H : Heap → Prop} {Q : Value → Shared → Prop} (B : Begins v o H) (h1 : H s.heap)
    (h : ∀ h', IsEnum h' (s.heap.objs.size + 1) s.heap.objs.size 0 .none → h'.get? s.heap.objs.size = some o → h'.objs.size = s.heap.objs.size + 2 →
      (∀ b o, s.heap.get? b = some o → h'.get? b = some o) → Q (.ref (s.heap.objs.size + 1)) { s with heap := h' }) :
    wpAny (model prog w) A (call (.type "enumerate") [v]) Q E s := by
  refine callType_new F.called_enumerate (by decide) (F.typeCall_enumerate_1 _) (F.newCall_enumerate_1 _) (fun obj => F.args_object_init_2 obj _) F.entry_enumerate_new
    (meets_enumerate_newB1 B) ⟨h1, ?_⟩
  have hz : (s.heap.push o).objs.size = s.heap.objs.size + 1 := Heap.size_push ..
  show _ ∧ _
  rw [hz]
  have he : IsEnum ((s.heap.push o).push { cls := .type "enumerate", data := .fields #[.none, .bool false, .ref s.heap.objs.size, rawInt 0, .none, .none] }) (s.heap.objs.size + 1) s.heap.objs.size 0 .none := by
    have := Heap.get?_push_size (s.heap.push o) (o := { cls := .type "enumerate", data := .fields #[.none, .bool false, .ref s.heap.objs.size, rawInt 0, .none, .none] }) rfl
    rw [hz] at this; exact this
  refine ⟨⟨_, he, rfl⟩, h _ he (Heap.get?_push_of_some _ (Heap.get?_push_size _ B.free)) (by rw [Heap.size_push, hz]) fun b o x => Heap.get?_push_of_some _ (Heap.get?_push_of_some _ x)⟩
end
def iEnumT (K : PySem.W.Frag) (ta : TA) : TI := fun σ H R => ta σ H fun vs H1 => ∃ a xs, vs = [.ref a] ∧ SqT K H1 a xs ∧ R (ItF K a 0) H1
theorem pi_enumT {X : Cx} {e1 : Expr} {ta : TA} {p pos tpos : Pos} {elts : List Expr} {kk : Nat} (hg : Gl X "enumerate") (hm : X.mg "enumerate" = none) (ha : PA X [e1] ta)
    (hs : starEach [e1] X.env = [(false, eval e1 X.env)] := by rfl) :
    PI X (.Tuple elts kk tpos) (.Call (.Name "enumerate" p) [e1] [] pos) (iEnumT X.K ta) := by
  refine ⟨fun pins s σ H R I h => ?_⟩
  refine Call_ (ld_blt I hg hm boot_enumerate (PyProof.Rows.callWith_type1 (thn (ha.run pos pins s σ H _ I h) fun us s1 hh => ?_) hs rfl))
  obtain ⟨vs, H1, I1, r1, a, xs, ex, hq, q⟩ := hh
  subst ex
  obtain ⟨u1, rfl, ra⟩ := vals1 r1
  obtain rfl : u1 = Value.ref a := ra
  obtain ⟨its, rv, lp, hz⟩ := I1.tuple hq
  refine enum_begins1 (begins_tuple a its.toArray) lp fun h1 he hit hsz hk => wpAny_pyIter_enum he ?_
  have I2 : Inv X pins σ H1 { s1 with heap := h1 } := I1.kept (t' := s1.toks) hk
  refine ⟨s1.heap.objs.size + 1, [s1.heap.objs.size + 1, s1.heap.objs.size], _, _, H1, rfl, I2, turn_enumF a (s1.heap.objs.size + 1) s1.heap.objs.size 0, ⟨⟨.none, by simpa using he⟩, ⟨_, hit, rfl, rfl⟩, Nat.succ_ne_self _⟩, fun b hb => ?_, q⟩
  have hle : s1.heap.objs.size ≤ b := by
    rcases List.mem_cons.mp hb with z | z
    · rw [z]; exact Nat.le_add_right _ _
    · rw [List.mem_singleton.mp z]; exact Nat.le_refl _
  exact I1.fpOk hle (I1.hok.fresh hle)
theorem walk_enumT {K : PySem.W.Frag} {a : Addr} {xs : List V} {lo : Int} : Walk (ItF K a lo) xs.length (fun H => SqT K H a xs) (fun i H v H' => ∃ T y, v = .ref T ∧ H T = none ∧ H' = upd H T (.tup [.int (lo + (i : Nat)), y]) ∧ xs[i]? = some y) where
  goes := fun i H hi h => ⟨xs, xs[i], h, List.getElem?_eq_getElem hi⟩
  stops := fun H h => ⟨xs, h, Nat.le_refl _⟩
  yields := fun i H v H' hi h y => by
    obtain ⟨T, y, e1, e2, e3, e4⟩ := y
    exact ⟨T, y, e1, e2, e3, e4 _ h⟩
end Fp
/-! Rules: tuple * 1, tuple.index of flat items, repr of any data, not equal -/
namespace L2
open PySem PySem.Spec PyProof.Rows
theorem tuple_mul1 (l : Addr) (items : Array Value) (n : Nat) (dd : Option Addr) (sl : Array (Option Value)) (u : Tok) :
    Meets (Builtin.«tuple.__mul__» ⟨[.ref l, .int 1 u], []⟩) (fun _ R s => s.heap.get? l = some { cls := .type "tuple", dict := dd, data := .seq items n, slots := sl } ∧
      R (.ok (.ret (Value.ref l))) s) :=
  .of_wp fun prog w A R s h => by
    obtain ⟨hp, g, d, tk, os⟩ := s
    obtain ⟨hl, h⟩ := h
    have f1 := AutoSeq1.idx_int
    have c0 : ¬ ((decide ((1 : Int) < -(2 ^ 63)) || decide ((1 : Int) ≥ 2 ^ 63)) = true) := by decide
    have c1 : (items.isEmpty || (1 : Int) == 1) = true := by simp
    wp_walk using wpAny_loadPart' hl
    repeat (first
      | (refine wpAny_ite_false (decide_eq_false (by decide)) ?_; wp_walk using wpAny_loadPart' hl)
      | (refine wpAny_ite_true (decide_eq_true c1) ?_; wp_walk using wpAny_loadPart' hl))
    all_goals first | exact ⟨_, rfl, h⟩ | exact h
def rRepU (K : PySem.W.Frag) : R2 := fun x y H Q => ∃ l k xs, x = .ref l ∧ y = .int k ∧ SqT K H l xs ∧ xs ≠ [] ∧ 1 ≤ k ∧ k ≤ 1000 ∧ xs.length ≤ 1000 ∧ (k = 1 → Q (.ref l) H) ∧ (2 ≤ k → ∀ p, H p = none → Q (.ref p) (upd H p (.tup (List.replicate k.toNat xs).flatten)))
section
variable {X : Cx}
theorem op_repU : OpR X (binaryOp .Mult) (rRepU X.K) := by
  intro pins s σ H x y v u Q I rx ry h
  obtain ⟨l, k, xs, rfl, rfl, hT, hne, h1, h2, hz, q1, q2⟩ := h
  by_cases hk : k = 1
  · subst hk
    cases rx
    obtain ⟨t, rfl⟩ := ry
    obtain ⟨its, r, ⟨⟨cls, dd, data, sl⟩, ho, hc, n, hd⟩, hs⟩ := I.tuple hT
    simp only at hc hd
    subst hc hd
    refine wpAny_binaryOp_repeat_ref (T := "tuple") (U := "int") (by decide) ⟨_, ho, rfl⟩ (fun s' => typeIs_int s' 1 t) noFill_tuple_mul F.fills_int_mul F.slot_int_rmul repeat_tuple F.slot_int_index.lookup
      (call_meets F.slot_int_rmul (typeIs_int s 1 t) F.entry_int_rmul (F.args_int_rmul_2 _ _) (int_rmul_tuple 1 t l its.toArray n dd sl)
        ⟨ho, rfl, ⟨_, ho, rfl⟩, call_meets F.slot_tuple_mul ⟨_, ho, rfl⟩ F.entry_tuple_mul (F.args_tuple_mul_2 _ _) (tuple_mul1 l its.toArray n dd sl t) ⟨ho, ?_⟩⟩)
    exact ⟨.ref l, H, I, rfl, q1 rfl⟩
  · exact op_repT pins s σ H _ _ v u Q I rx ry ⟨l, k, xs, rfl, rfl, hT, hne, by omega, h2, hz, q2 (by omega)⟩
/-- t.index(x), x and all of t flat: the first place -/
theorem mt_tindex : MtR X "tuple.index" (fun x xs H Q => ∃ (p : Addr) (ys : List V) (y : V) (j : Nat) (z : V), x = .ref p ∧ xs = [y] ∧ SqT X.K H p ys ∧ flatV y = true ∧ ys.all flatV = true ∧ ys[j]? = some z ∧ eqV z y = true ∧
    (∀ (m : Nat) (z' : V), m < j → ys[m]? = some z' → eqV z' y = false) ∧ Q (.int (j : Nat)) H) := by
  intro pins s σ H x xs v us Q I rx rs h
  obtain ⟨p, ys, y, j, z, rfl, rfl, hq, fy, fys, hz, hzj, hno, q⟩ := h
  cases rx
  obtain ⟨uy, rfl, ry⟩ := vals1 rs
  obtain ⟨its, rv, pl, hlen⟩ := I.tuple hq
  obtain ⟨⟨cls, dd, dt, sl⟩, ho, hc, n, hd⟩ := pl
  simp only at hc hd
  subst hc
  subst hd
  obtain ⟨u, hu, ru⟩ := rv.get hz
  obtain ⟨hjl, hje⟩ := List.getElem?_eq_some_iff.mp hu
  have hvl := rv.length
  have hj : j < its.toArray.size := by simpa using hjl
  refine call_meets PySem.F.slot_tuple_index ⟨_, ho, rfl⟩ PySem.F.entry_tuple_index (PySem.F.args_tuple_index_2 _ _) (TI.tuple_indexAt p its.toArray n dd sl uy (eqU y) j hj ?_ ?_)
    ⟨ho, fun u' hu' => mem_eqAt ry fy rv fys u' (by simpa using hu'), ⟨.int (j : Nat), H, I.tok _, ⟨_, rfl⟩, q⟩⟩
  · have e1 : its.toArray[j] = u := by simpa using hje
    rw [e1, eqU_of ru (flat_at fys hz)]
    exact hzj
  · intro m hm hmj
    have hml : m < its.length := by simpa using hm
    have hmy : m < ys.length := by omega
    have hy' : ys[m]? = some ys[m] := List.getElem?_eq_getElem hmy
    obtain ⟨u2, hu2, ru2⟩ := rv.get hy'
    obtain ⟨_, hme⟩ := List.getElem?_eq_some_iff.mp hu2
    have e1 : its.toArray[m] = u2 := by simpa using hme
    rw [e1, eqU_of ru2 (flat_at fys hy')]
    exact hno m _ hmj hy'
/-! ### tuples of which it is known that they have no dict -/
def TF (H : Hp) (a : Addr) (xs : List V) : Prop := ∃ o, H a = some (.frz o (.tup xs)) ∧ o.dict = none
theorem TF.sq {K : PySem.W.Frag} {H : Hp} {a : Addr} {xs : List V} (h : TF H a xs) : SqT K H a xs := by
  obtain ⟨o, h, _⟩ := h
  exact .inl (.inr ⟨o, h⟩)
def tTupF (t : TA) : TE := fun σ H Q => t σ H fun xs H1 => xs.length ≤ sizeLine ∧ ∀ p o, H1 p = none → o.dict = none → Q (.ref p) (upd H1 p (.frz o (.tup xs)))
theorem pe_tupF {es : List Expr} {x1} {t : TA} {pos : Pos} (h : PA X es t) : PE X (.Tuple es x1 pos) (tTupF t) := by
  refine ⟨fun pins s σ H Q I hq => ?_⟩
  refine wpAny_Tuple_spliced (thn (h.run pos pins s σ H _ I hq) fun us s1 ⟨xs, H1, I1, r, z, q⟩ => ⟨by rw [← r.length]; exact z, ?_⟩)
  have hf : H1 s1.heap.objs.size = none := I1.hok.fresh (Nat.le_refl _)
  refine ⟨.ref s1.heap.objs.size, upd H1 s1.heap.objs.size (.frz { cls := .type "tuple", data := .seq us.toArray } (.tup xs)), I1.laid (t' := s1.toks) (fun b u e => Heap.get?_push_of_some _ e) (Nat.le_refl _) ?_, rfl, q _ _ hf rfl⟩
  exact ⟨Heap.get?_push_size _ rfl, z, us, r, ⟨_, Heap.get?_push_size _ rfl, rfl, _, rfl⟩⟩
def rCatF (K : PySem.W.Frag) : R2 := fun x y H Q => ∃ a b xs ys, x = .ref a ∧ y = .ref b ∧ SqT K H a xs ∧ SqT K H b ys ∧ xs.length + ys.length ≤ sizeLine ∧
  (xs = [] → Q (.ref b) H) ∧ (xs ≠ [] → ys = [] → Q (.ref a) H) ∧ (xs ≠ [] → ys ≠ [] → ∀ p o, H p = none → o.dict = none → Q (.ref p) (upd H p (.frz o (.tup (xs ++ ys)))))
theorem op_catF : OpR X (binaryOp .Add) (rCatF X.K) := by
  intro pins s σ H x y v u Q I rx ry h
  obtain ⟨a, b, xs, ys, rfl, rfl, ha, hb, hz, q0, q1, q2⟩ := h
  cases rx
  cases ry
  obtain ⟨its, r1, p1, _⟩ := I.tuple ha
  obtain ⟨its2, r2, p2, _⟩ := I.tuple hb
  by_cases hx : xs = []
  · subst hx
    cases r1
    exact cat_tup0 p1 p2 ⟨.ref b, H, I, rfl, q0 rfl⟩
  · refine HT.cat_tup p1 p2 (fun z => hx (r1.nil_iff.mp z)) (fun z => ⟨.ref a, H, I, rfl, q1 hx (r2.nil_iff.mp z)⟩) (fun z => ?_) (by rw [← r1.length, ← r2.length]; exact hz)
    refine ⟨.ref s.heap.objs.size, _, I.laid (t' := s.toks) (o := .frz { cls := .type "tuple", data := .seq (its ++ its2).toArray } (.tup (xs ++ ys))) (fun b ob q => Heap.get?_push_of_some _ q) (Nat.le_refl _) ?_, rfl, q2 hx (fun w => z (r2.nil_iff.mpr w)) _ _ (I.hok.fresh (Nat.le_refl _)) rfl⟩
    exact ⟨Heap.get?_push_size _ rfl, by rw [List.length_append]; exact hz, _, r1.append r2, IsTup.new _ _⟩
def rRepF (K : PySem.W.Frag) : R2 := fun x y H Q => ∃ l k xs, x = .ref l ∧ y = .int k ∧ SqT K H l xs ∧ xs ≠ [] ∧ 1 ≤ k ∧ k ≤ 1000 ∧ xs.length ≤ 1000 ∧ (k = 1 → Q (.ref l) H) ∧ (2 ≤ k → ∀ p o, H p = none → o.dict = none → Q (.ref p) (upd H p (.frz o (.tup (List.replicate k.toNat xs).flatten))))
theorem op_repF : OpR X (binaryOp .Mult) (rRepF X.K) := by
  intro pins s σ H x y v u Q I rx ry h
  obtain ⟨l, k, xs, rfl, rfl, hT, hne, h1, h2, hz, q1, q2⟩ := h
  by_cases hk : k = 1
  · subst hk
    exact op_repU pins s σ H _ _ v u Q I rx ry ⟨l, 1, xs, rfl, rfl, hT, hne, h1, h2, hz, q1, fun z => absurd z (by decide)⟩
  · cases rx
    obtain ⟨t, rfl⟩ := ry
    obtain ⟨its, r, ⟨⟨cls, dd, data, sl⟩, ho, hc, n, hd⟩, hs⟩ := I.tuple hT
    simp only at hc hd
    subst hc hd
    have hle : its.length = xs.length := r.length.symm
    have hn : its ≠ [] := fun e => hne (by
      rw [e] at hle
      exact List.eq_nil_of_length_eq_zero hle.symm)
    have hi : its.toArray.isEmpty = false := by
      cases its with
      | nil => exact absurd rfl hn
      | cons a b => rfl
    have hsz0 : its.toArray.size = xs.length := by rw [List.size_toArray, hle]
    have hm : ((its.toArray.size : Nat) : Int) * k ≤ 1000000 := by
      rw [hsz0]
      have a1 : ((xs.length : Nat) : Int) * k ≤ 1000 * k := Int.mul_le_mul_of_nonneg_right (by omega) (by omega)
      omega
    have flen : (List.replicate k.toNat its).flatten.length ≤ sizeLine := by
      rw [PyProof.Rows.lm_len_rep_flat, hle, sizeLine_eq]
      have a1 : k.toNat * xs.length ≤ 1000 * 1000 := Nat.mul_le_mul (by omega) hz
      omega
    have c0 : (decide (k < -(2 ^ 63)) || decide (k ≥ 2 ^ 63)) = false := by
      rw [decide_eq_false (by omega), decide_eq_false (by omega)] <;> rfl
    have c1 : (its.toArray.isEmpty || k == 1) = false := by
      rw [hi, Bool.false_or]
      exact beq_eq_false_iff_ne.mpr (by omega)
    have c2 : (decide (k ≤ 0) || its.toArray.isEmpty) = false := by
      rw [hi, Bool.or_false]
      exact decide_eq_false (by omega)
    have c4 : Builtin.Tuple.tupleTooMany (((its.toArray.size : Nat) : Int) * k) = false := by
      unfold Builtin.Tuple.tupleTooMany
      rw [sizeLine_eq]
      exact decide_eq_false (by omega)
    refine wpAny_binaryOp_repeat_ref (T := "tuple") (U := "int") (by decide) ⟨_, ho, rfl⟩ (fun s' => typeIs_int s' k t) noFill_tuple_mul F.fills_int_mul F.slot_int_rmul repeat_tuple F.slot_int_index.lookup
      (call_meets F.slot_int_rmul (typeIs_int s k t) F.entry_int_rmul (F.args_int_rmul_2 _ _) (int_rmul_tuple k t l its.toArray n dd sl)
        ⟨ho, rfl, ⟨_, ho, rfl⟩, call_meets F.slot_tuple_mul ⟨_, ho, rfl⟩ F.entry_tuple_mul (F.args_tuple_mul_2 _ _) (tuple_mulW l its.toArray n dd sl k t c0 c1 c2 (by omega) c4 (by rw [size_rep, List.size_toArray]; exact flen)) ⟨ho, ?_⟩⟩)
    rw [size_rep]
    refine ⟨.ref s.heap.objs.size, _, I.laid (t' := s.toks) (o := .frz { cls := .type "tuple", data := .seq (List.replicate k.toNat its).flatten.toArray } (.tup (List.replicate k.toNat xs).flatten)) (fun b ob q => Heap.get?_push_of_some _ q) (Nat.le_refl _) ?_, rfl, q2 (by omega) _ _ (I.hok.fresh (Nat.le_refl _)) rfl⟩
    exact ⟨Heap.get?_push_size _ rfl, by rw [PyProof.Rows.lm_len_rep_flat, sizeLine_eq]; have a1 : k.toNat * xs.length ≤ 1000 * 1000 := Nat.mul_le_mul (by omega) hz; omega, _, r.rep k.toNat, IsTup.new _ _⟩
/-- t.index(x) -/
def tTIdx (K : PySem.W.Frag) (to te : TE) : TE := fun σ H Q => to σ H fun x H1 => (∃ p ys, x = .ref p ∧ TF H1 p ys) ∧ te σ H1 fun y H2 => ∃ (p : Addr) (ys : List V) (j : Nat) (z : V), x = .ref p ∧ SqT K H2 p ys ∧ flatV y = true ∧ ys.all flatV = true ∧ ys[j]? = some z ∧ eqV z y = true ∧
    (∀ (m : Nat) (z' : V), m < j → ys[m]? = some z' → eqV z' y = false) ∧ Q (.int (j : Nat)) H2
theorem pe_tindex {o e : Expr} {to te : TE} {apos cpos : Pos} (ho : PE X o to) (he : PE X e te)
    (hbase : attributeBase o "index" X.env (eval o X.env) = eval o X.env := by rfl)
    (hfew : ((backTo cpos (starEach [e] X.env)).all (fun x => !x.1) && (backToKw cpos (keywordEach [] X.env)).all (fun x => x.1.isSome)
      && decide ([e].length + ([] : List Keyword).length + (if ([] : List Keyword).isEmpty then 0 else 1) < 30)) = true := by rfl)
    (hline : (apos.endLine == cpos.line) = true := by rfl) (hs : starEach [e] X.env = (false, eval e X.env) :: starEach [] X.env := by rfl) (hplain : (backTo cpos (starEach [] X.env)).any (·.1) = false := by rfl) :
    PE X (.Call (.Attribute o "index" apos) [e] [] cpos) (tTIdx X.K to te) := by
  refine ⟨fun pins s σ H Q I h => ?_⟩
  refine wpAny_Call_method_late hbase hfew hline rfl (thn (ho.run pins s σ H _ I h) fun v s1 ⟨x, H1, I1, r1, ⟨p, ys, ex, ⟨ob, hob, hdd⟩⟩, q1⟩ => ?_)
  subst ex
  cases r1
  have e1 := (I1.hok p _ hob).1
  obtain ⟨its, rv, pl, hz⟩ := I1.tuple (.inl (.inr ⟨ob, hob⟩))
  refine ⟨"tuple", "tuple.index", PySem.F.plainAttrs_tuple, PySem.F.slot_tuple_index, PySem.F.type_tuple_index, pl.typeIs, fun a ea => by cases ea; exact ⟨ob, e1, hdd⟩, ?_⟩
  have hA := (pa_cons he pa_nil hs).run cpos pins s1 σ H1 (fun vs H2 => match vs with
    | [y] => ∃ (p' : Addr) (ys : List V) (j : Nat) (z : V), V.ref p = .ref p' ∧ SqT X.K H2 p' ys ∧ flatV y = true ∧ ys.all flatV = true ∧ ys[j]? = some z ∧ eqV z y = true ∧
      (∀ (m : Nat) (z' : V), m < j → ys[m]? = some z' → eqV z' y = false) ∧ Q (.int (j : Nat)) H2
    | _ => False) I1 q1
  rw [hs] at hA ⊢
  refine Calls.callWith_builtin (by show (false || (backTo cpos (starEach [] X.env)).any (·.1)) = false; rw [hplain] <;> rfl) (Calls.evalArgs_plain ?_)
  refine thn hA fun us s2 ⟨vs, H2, I2, r2, hh⟩ => ?_
  match vs, r2, hh with
  | [y], r2, ⟨p', ys', j, z, ep, a1, a2, a3, a4, a5, a6, q⟩ =>
    cases ep
    exact mt_tindex pins s2 σ H2 (.ref p) [y] (.ref p) us Q I2 rfl r2 ⟨p, ys', y, j, z, rfl, rfl, a1, a2, a3, a4, a5, a6, q⟩
end
end L2
/-! Small data: what can be shown and compared; values that are brought -/
namespace Fp
open PySem PySem.Spec PyProof.Rows L2
theorem ite_no {c : Bool} {A B : Prop} (hc : c = false) (h : B) : if c = true then A else B := by
  rw [hc]; exact iteF h
theorem ite_yes {c : Bool} {A B : Prop} (hc : c = true) (h : A) : if c = true then A else B := by
  rw [hc]; exact iteT h
theorem get_lt {α : Type} {l : List α} {i : Nat} {x : α} (h : l[i]? = some x) : i < l.length := (List.getElem?_eq_some_iff.mp h).1
theorem u66 {k : Nat} {A : Around} (r : Room k A) : A.units + 66 < cLine := by have := r.un; omega
theorem szl {n : Nat} (h : n ≤ 10000000) : n ≤ sizeLine := by rw [sizeLine_eq]; omega
theorem szt {n : Nat} (h : n < 10000000) : n < sizeLine := by rw [sizeLine_eq]; omega
/-- data that can be shown and compared: at most so deep, at most so much -/
structure Sm (k n : Nat) (d : PyData) : Prop where
  sh : d.showable = true
  lay : d.canLay0 = true
  lv : d.leavesShort 13 = true
  blk : d.bulk ≤ n
  dep : d.depth ≤ k
theorem Sm.mono {k n k' n' : Nat} {d : PyData} (h : Sm k n d) (hk : k ≤ k') (hn : n ≤ n') : Sm k' n' d := ⟨h.sh, h.lay, h.lv, Nat.le_trans h.blk hn, Nat.le_trans h.dep hk⟩
structure Sms (k n : Nat) (ds : List PyData) : Prop where
  sh : PyData.showableAll ds = true
  lay : PyData.canLayAll0 ds = true
  lv : PyData.leavesShortAll 13 ds = true
  blk : PyData.bulkAll ds ≤ n
  dep : PyData.depthAll ds ≤ k
theorem Sms.nil {k n : Nat} : Sms k n [] := ⟨by simp [PyData.showableAll], by simp [PyData.canLayAll0], by simp [PyData.leavesShortAll], by simp [PyData.bulkAll], by simp [PyData.depthAll]⟩
theorem Sms.cons {k a b : Nat} {d : PyData} {ds : List PyData} (h : Sm k a d) (t : Sms k b ds) : Sms k (a + 1 + b) (d :: ds) :=
  ⟨by simp [PyData.showableAll, h.sh, t.sh], by simp [PyData.canLayAll0, h.lay, t.lay], by simp [PyData.leavesShortAll, h.lv, t.lv], by have := h.blk; have := t.blk; simp only [PyData.bulkAll]; omega, by have := h.dep; have := t.dep; simp only [PyData.depthAll]; omega⟩
theorem Sms.mono {k n k' n' : Nat} {d : List PyData} (h : Sms k n d) (hk : k ≤ k') (hn : n ≤ n') : Sms k' n' d := ⟨h.sh, h.lay, h.lv, Nat.le_trans h.blk hn, Nat.le_trans h.dep hk⟩
theorem Sms.all {k n : Nat} : ∀ {ds : List PyData}, (∀ d ∈ ds, Sm k n d) → Sms k ((n + 1) * ds.length) ds
  | [], _ => Sms.nil
  | d :: ds, h => (Sms.cons (h d (by simp)) (Sms.all fun e he => h e (List.mem_cons_of_mem _ he))).mono (Nat.le_refl _) (by
    rw [List.length_cons, Nat.mul_succ]; omega)
theorem Sms.tup {k n : Nat} {ds : List PyData} (h : Sms k n ds) : Sm (k + 1) n (.tuple ds) :=
  ⟨by simpa [PyData.showable] using h.sh, by simpa [PyData.canLay0] using h.lay, by simpa [PyData.leavesShort] using h.lv, by have := h.blk; simpa only [PyData.bulk] using this, by have := h.dep; simp only [PyData.depth]; omega⟩
theorem Sms.lst {k n : Nat} {ds : List PyData} (h : Sms k n ds) : Sm (k + 1) n (.list ds) :=
  ⟨by simpa [PyData.showable] using h.sh, by simpa [PyData.canLay0] using h.lay, by simpa [PyData.leavesShort] using h.lv, by have := h.blk; simpa only [PyData.bulk] using this, by have := h.dep; simp only [PyData.depth]; omega⟩
theorem Sm.non : Sm 1 0 .none := ⟨by simp [PyData.showable], by simp [PyData.canLay0], by simp [PyData.leavesShort], by simp [PyData.bulk], by simp [PyData.depth]⟩
theorem Sm.str {z : Str} {n : Nat} (hz : z.cps.size ≤ n) (hc : (z.cps.toList.all fun c => decide (c < 16 ^ 8)) = true) (ho : PyData.strOk z = true) : Sm 1 n (.str z) :=
  ⟨by simp [PyData.showable], by simp [PyData.canLay0, ho], by simpa only [PyData.leavesShort] using hc, by simpa only [PyData.bulk] using hz, by simp [PyData.depth]⟩
theorem log2_lt {i : Int} (h0 : -99999 ≤ i) (h1 : i ≤ 99999) : i.natAbs.log2 < 1920 := by
  by_cases h : i.natAbs = 0
  · rw [h]; decide
  · have : i.natAbs.log2 < 17 := (Nat.log2_lt h).mpr (show i.natAbs < 2 ^ 17 by omega)
    omega
theorem Sm.int {i : Int} (h0 : -9999 ≤ i) (h1 : i ≤ 9999) : Sm 1 0 (.int i) := by
  refine ⟨?_, by simp [PyData.canLay0], ?_, by simp [PyData.bulk], by simp [PyData.depth]⟩
  · simp only [PyData.showable, decide_eq_true_eq]
    exact log2_lt (by omega) (by omega)
  · simp only [PyData.leavesShort, decide_eq_true_eq]
    exact PyData.shown_int_le (by omega)
theorem Sm.fits {k n : Nat} {d : PyData} (h : Sm k n d) (hn : n ≤ 1000000) : d.shown.length ≤ sizeLine := PyData.shown_fits_bulk (B := 13) (by decide) (by decide) h.lv (Nat.le_trans h.blk (Nat.le_trans hn (by decide)))
theorem Sm.shaped {k n : Nat} {d : PyData} (h : Sm k n d) (hk : k ≤ 64) : SeqAt.shaped d = true := by
  unfold SeqAt.shaped
  rw [h.lay, Bool.true_and]
  exact decide_eq_true (Nat.le_trans h.dep hk)
/-! ### repr of any data -/
section
variable {X : Cx}
theorem wpAny_repr {prog : Program} {w : World} {A : Around} {E : Value → Shared → Prop} {s : Shared} {Q : Value → Shared → Prop} {v : Value} {d : PyData} {as : List Addr} (r : Reads s.heap v d as) (hs : d.showable = true) (hd : d.hasDict = false) (hz : d.shown.length ≤ sizeLine)
    (hg : A.guards = some []) (hu : A.units + (d.depth + 1) < cLine) (hQ : ∀ h' u tk, (∀ b o, s.heap.get? b = some o → h'.get? b = some o) → Q (.str d.shown u) { s with heap := h', toks := tk }) : wpAny (model prog w) A (call (.builtin "repr") [v]) Q E s := by
  cases r with
  | none => exact PySem.P.repr_of_none (hQ _ _ _ fun _ _ e => e)
  | bool b => exact PySem.P.repr_of_bool (hQ _ _ _ fun _ _ e => e)
  | int i t => exact PySem.P.repr_of_int (by simpa only [PyData.showable, decide_eq_true_eq] using hs) (by simpa only [PyData.shown] using hQ _ _ _ fun _ _ e => e)
  | str x t => exact PySem.P.repr_of_str (by simpa only [PyData.shown] using hQ _ _ _ fun _ _ e => e) (by simpa only [PyData.shown] using hz)
  | list a b c e => exact repr_of_reads' (.list a b c e) hs (fun z => by rw [hd] at z; cases z) hg hu (fun _ _ z => z) hQ hz
  | tuple a b c e => exact repr_of_reads' (.tuple a b c e) hs (fun z => by rw [hd] at z; cases z) hg hu (fun _ _ z => z) hQ hz
  | dict a b c e f => simp [PyData.hasDict] at hd
/-- repr(x), x any data -/
theorem call_reprA (hgu : X.A.guards = some []) (hu : X.A.units + 66 < cLine) : CallR X (.builtin "repr") (fun xs H Q => ∃ (x : V) (d : PyData) (k n : Nat), xs = [x] ∧ Dp X.K H x d ∧ Sm k n d ∧ k ≤ 64 ∧ n ≤ 1000000 ∧ Q (.str d.shown) H) := by
  intro pins s σ H xs us Q I r h
  obtain ⟨x, d, k, n, rfl, hd, sm, hk, hn, q⟩ := h
  obtain ⟨u, rfl, rx⟩ := vals1 r
  obtain ⟨as, rd⟩ := Dp.reads I d _ u hd rx
  have hdp := sm.dep
  exact wpAny_repr rd sm.sh (PyData.hasDict_of_canLay _ sm.lay) (sm.fits hn) hgu (by omega) (fun h' u tk k => ⟨.str d.shown, H, I.kept (t' := tk) k, ⟨_, rfl⟩, q⟩)
end
/-! ### values that are brought: None, integers, tuples of at most three such, at most so deep -/
inductive VOk : Nat → PyData → Prop where
  | non {n} : VOk n .none
  | int {n i} : -9999 ≤ i → i ≤ 9999 → VOk n (.int i)
  | tup {n ds} : (∀ d ∈ ds, VOk n d) → ds.length ≤ 3 → VOk (n + 1) (.tuple ds)
mutual
inductive VAt (H : Hp) : V → PyData → Prop where
  | non : VAt H .non .none
  | int (i : Int) : VAt H (.int i) (.int i)
  | tup {a : Addr} {xs : List V} {ds : List PyData} : H a = some (.tup xs) → VsAt H xs ds → VAt H (.ref a) (.tuple ds)
inductive VsAt (H : Hp) : List V → List PyData → Prop where
  | nil : VsAt H [] []
  | cons {v vs d ds} : VAt H v d → VsAt H vs ds → VsAt H (v :: vs) (d :: ds)
end
/-- tuples stay -/
def IsT : Option HO → Prop
  | some (.tup _) => True
  | some (.frz _ (.tup _)) => True
  | _ => False
def TK (H H' : Hp) : Prop := ∀ a, IsT (H a) → H' a = H a
theorem TK.refl (H : Hp) : TK H H := fun _ _ => rfl
theorem TK.trans {H H1 H2 : Hp} (a : TK H H1) (b : TK H1 H2) : TK H H2 := fun x h => (b x (by rw [a x h]; exact h)).trans (a x h)
theorem TK.of {H H' : Hp} (g : Same H H') : TK H H' := fun a h => by
  cases e : H a with
  | none => rw [e] at h; exact h.elim
  | some o => exact g a _ e
theorem TK.but {S : List Addr} {H H' : Hp} (g : But S H H') (h : ∀ a ∈ S, ¬ IsT (H a)) : TK H H' := fun a n => by
  cases e : H a with
  | none => rw [e] at n; exact n.elim
  | some o => exact g a _ (fun m => h a m n) e
theorem TK.put {H : Hp} {p : Addr} {o u : HO} (h : H p = some o) (n : ¬ IsT (some o)) : TK H (upd H p u) := fun a e => by
  rw [upd_ne (fun z => n (by rw [← h, ← z]; exact e))]
theorem TK.t {H H' : Hp} (g : TK H H') {a : Addr} {xs : List V} (h : H a = some (.tup xs)) : H' a = some (.tup xs) := by
  rw [g a (by rw [h]; trivial), h]
theorem TK.f {H H' : Hp} (g : TK H H') {a : Addr} {xs : List V} (h : TF H a xs) : TF H' a xs := by
  obtain ⟨o, h, d⟩ := h
  exact ⟨o, by rw [g a (by rw [h]; trivial), h], d⟩
mutual
theorem VAt.mono {H H' : Hp} (g : TK H H') : ∀ {v : V} {d : PyData}, VAt H v d → VAt H' v d
  | _, _, .non => .non
  | _, _, .int i => .int i
  | _, _, .tup a b => .tup (g.t a) (VsAt.mono g b)
theorem VsAt.mono {H H' : Hp} (g : TK H H') : ∀ {v : List V} {d : List PyData}, VsAt H v d → VsAt H' v d
  | _, _, .nil => .nil
  | _, _, .cons a b => .cons (VAt.mono g a) (VsAt.mono g b)
end
mutual
theorem VAt.dp {K : PySem.W.Frag} {H : Hp} : ∀ {v : V} {d : PyData}, VAt H v d → Dp K H v d
  | _, _, .non => .non
  | _, _, .int i => .int i
  | _, _, .tup a b => .tup (.of a) (VsAt.dp b)
theorem VsAt.dp {K : PySem.W.Frag} {H : Hp} : ∀ {v : List V} {d : List PyData}, VsAt H v d → DpAll K H v d
  | _, _, .nil => .nil
  | _, _, .cons a b => .cons (VAt.dp a) (VsAt.dp b)
end
theorem VOk.up {n : Nat} {d : PyData} (h : VOk n d) : VOk (n + 1) d := by
  induction h with
  | non => exact .non
  | int a b => exact .int a b
  | tup a b ih => exact .tup (fun d hd => ih d hd) b
def vb : Nat → Nat
  | 0 => 0
  | n + 1 => (vb n + 1) * 3
theorem VOk.sm : ∀ {n : Nat} {d : PyData}, VOk n d → Sm (n + 1) (vb n) d := by
  intro n d h
  induction h with
  | non => exact Sm.non.mono (by omega) (by omega)
  | int a b => exact (Sm.int a b).mono (by omega) (by omega)
  | tup a b ih => exact (Sms.all ih).tup.mono (Nat.le_refl _) (Nat.mul_le_mul_left _ b)
theorem VsAt.snoc {H : Hp} {v : V} {d : PyData} (h : VAt H v d) : ∀ {vs : List V} {ds : List PyData}, VsAt H vs ds → VsAt H (vs ++ [v]) (ds ++ [d])
  | _, _, .nil => .cons h .nil
  | _, _, .cons a b => .cons a (VsAt.snoc h b)
theorem VsAt.len {H : Hp} : ∀ {vs : List V} {ds : List PyData}, VsAt H vs ds → vs.length = ds.length
  | _, _, .nil => rfl
  | _, _, .cons _ b => congrArg (· + 1) b.len
theorem VsAt.get {H : Hp} : ∀ {xs : List V} {b : List PyData} {i : Nat} {x : V}, VsAt H xs b → xs[i]? = some x → ∃ it, b[i]? = some it ∧ VAt H x it
  | _, _, 0, _, .cons h _, e => by cases e; exact ⟨_, rfl, h⟩
  | _, _, i + 1, x, .cons _ r, e => VsAt.get (i := i) r e
  | _, _, _, _, .nil, e => by cases e
end Fp
/-! A door, as a plain thing -/
namespace Fp
open PySem PySem.Spec PyProof.Rows L2
abbrev Lv := Option Int
def lvV : Lv → V
  | none => .non
  | some i => .int i
structure Deed where
  stp : Bool
  p : Nat
  x : V
structure DS where
  came : List (Option V)
  lev : List Lv
  heard : List (Option V)
  seen : List (Option (List Lv))
  deeds : List Deed
inductive Told where
  | level (i : Int) | look (l : List Lv) | wait | word (v : V)
theorem getD_set {α : Type} (l : List (Option α)) (p q : Nat) (x : Option α) : (l.set p x).getD q none = if p = q ∧ p < l.length then x else l.getD q none := by
  simp only [List.getD_eq_getElem?_getD, List.getElem?_set]
  by_cases h : p = q
  · subst h
    by_cases h2 : p < l.length
    · simp [h2]
    · have e : l[p]? = none := List.getElem?_eq_none (by omega)
      simp [h2, e]
  · simp [h]
theorem getD_none_of {α : Type} {l : List (Option α)} {q : Nat} {x : α} (h : l.getD q none = some x) : q < l.length ∧ l[q]? = some (some x) := by
  rw [List.getD_eq_getElem?_getD] at h
  cases e : l[q]? with
  | none => rw [e] at h; cases h
  | some y =>
    rw [e] at h
    have h' : y = some x := h
    exact ⟨(List.getElem?_eq_some_iff.mp e).1, by rw [h']⟩
theorem getD_of {α : Type} {l : List (Option α)} {q : Nat} {y : Option α} (h : l[q]? = some y) : l.getD q none = y := by
  rw [List.getD_eq_getElem?_getD, h]; rfl
theorem mem_getD {α : Type} {l : List (Option α)} {x : α} : some x ∈ l ↔ ∃ q, l.getD q none = some x := by
  constructor
  · intro h
    obtain ⟨q, hq⟩ := List.getElem?_of_mem h
    exact ⟨q, getD_of hq⟩
  · rintro ⟨q, hq⟩
    exact List.mem_of_getElem? (getD_none_of hq).2
namespace DS
def new (n : Nat) : DS := ⟨List.replicate n none, List.replicate n none, List.replicate n none, List.replicate n none, []⟩
def cm (s : DS) (p : Nat) : Option V := s.came.getD p none
def lv (s : DS) (p : Nat) : Lv := s.lev.getD p none
def sn (s : DS) (p : Nat) : Option (List Lv) := s.seen.getD p none
def stgOf (a : Lv) (b : Option (List Lv)) : Nat := match a with
  | none => 0
  | some i => if i = 1 then (if b.isSome then 2 else 1) else 3
def stg (s : DS) (p : Nat) : Nat := stgOf (s.lv p) (s.sn p)
def kindOf : Nat → Str
  | 1 => "look" | 3 => "ask" | _ => "level"
def next (s : DS) (p : Nat) : Option Str := if (s.cm p).isSome then some (kindOf (s.stg p)) else none
def isTwo (a : Lv) : Bool := decide (a = some 2)
def two (s : DS) : Nat := s.lev.findIdx isTwo
def saw (s : DS) (p : Nat) : Bool := decide (some 2 ∈ (s.sn p).getD [])
def wr (s : DS) (p : Nat) : Int := if s.saw p then 0 else 2
def come (s : DS) (p : Nat) (v : V) : DS := { s with came := s.came.set p (some v), deeds := s.deeds ++ [⟨false, p, v⟩] }
def told (s : DS) (p : Nat) : Told := match s.stg p with
  | 0 => .level 1
  | 1 => .look s.lev
  | 2 => .level (s.wr p)
  | _ => if some 1 ∈ s.lev then .wait else .word ((s.cm s.two).getD .non)
def step (s : DS) (p : Nat) : DS := match s.stg p with
  | 0 => { s with deeds := s.deeds ++ [⟨true, p, .str "level"⟩], lev := s.lev.set p (some 1) }
  | 1 => { s with deeds := s.deeds ++ [⟨true, p, .str "look"⟩], seen := s.seen.set p (some s.lev) }
  | 2 => { s with deeds := s.deeds ++ [⟨true, p, .str "level"⟩], lev := s.lev.set p (some (s.wr p)) }
  | _ => if some 1 ∈ s.lev then { s with deeds := s.deeds ++ [⟨true, p, .str "ask"⟩] } else { s with deeds := s.deeds ++ [⟨true, p, .str "ask"⟩], heard := s.heard.set p (s.cm s.two) }
structure WF (s : DS) : Prop where
  n1 : 1 ≤ s.lev.length
  n5 : s.lev.length ≤ 5
  lc : s.came.length = s.lev.length
  lh : s.heard.length = s.lev.length
  ls : s.seen.length = s.lev.length
  vals : ∀ p x, s.lv p = some x → x = 0 ∨ x = 1 ∨ x = 2
  cmv : ∀ p, s.lv p ≠ none → s.cm p ≠ none
  snv : ∀ p, s.sn p ≠ none → s.lv p ≠ none
  lok : ∀ p x, s.lv p = some x → x ≠ 1 → s.sn p ≠ none
  z2 : ∀ p, s.lv p = some 0 → ∃ q, s.lv q = some 2
  s2 : ∀ p l, s.sn p = some l → some 2 ∈ l → ∃ q, s.lv q = some 2
theorem rep_none {α : Type} (n p : Nat) : (List.replicate n (none : Option α)).getD p none = none := by
  rw [List.getD_eq_getElem?_getD, List.getElem?_replicate]; split <;> rfl
theorem lv_new (n p : Nat) : (new n).lv p = none := rep_none n p
theorem sn_new (n p : Nat) : (new n).sn p = none := rep_none n p
theorem cm_new (n p : Nat) : (new n).cm p = none := rep_none n p
theorem WF.new {n : Nat} (h1 : 1 ≤ n) (h5 : n ≤ 5) : (new n).WF := by
  refine ⟨by simpa [DS.new] using h1, by simpa [DS.new] using h5, by simp [DS.new], by simp [DS.new], by simp [DS.new], ?_, ?_, ?_, ?_, ?_, ?_⟩ <;> intro p <;> simp only [lv_new, sn_new, cm_new] <;> simp
section
variable {s : DS} {p : Nat} {v : V}
theorem lv_come (q : Nat) : (s.come p v).lv q = s.lv q := rfl
theorem sn_come (q : Nat) : (s.come p v).sn q = s.sn q := rfl
theorem cm_come (q : Nat) : (s.come p v).cm q = if p = q ∧ p < s.came.length then some v else s.cm q := getD_set _ _ _ _
theorem WF.come (h : s.WF) : (s.come p v).WF := by
  refine ⟨h.n1, h.n5, by simp [DS.come, h.lc], h.lh, h.ls, h.vals, fun q hq => ?_, h.snv, h.lok, h.z2, h.s2⟩
  rw [cm_come]
  split
  · simp
  · exact h.cmv q hq
theorem stg_lt (s : DS) (p : Nat) : s.stg p ≤ 3 := by
  unfold stg stgOf
  split
  · omega
  · split
    · split <;> omega
    · omega
theorem stg0 : s.stg p = 0 ↔ s.lv p = none := by
  unfold stg stgOf
  cases s.lv p with
  | none => simp
  | some i => simp only; split <;> (try split) <;> simp
theorem stg1 : s.stg p = 1 ↔ s.lv p = some 1 ∧ s.sn p = none := by
  unfold stg stgOf
  cases s.lv p with
  | none => simp
  | some i =>
    simp only
    cases s.sn p <;> by_cases hi : i = 1 <;> simp [hi]
theorem stg2 : s.stg p = 2 ↔ s.lv p = some 1 ∧ s.sn p ≠ none := by
  unfold stg stgOf
  cases s.lv p with
  | none => simp
  | some i =>
    simp only
    cases s.sn p <;> by_cases hi : i = 1 <;> simp [hi]
theorem stg3 : s.stg p = 3 ↔ ∃ x, s.lv p = some x ∧ x ≠ 1 := by
  unfold stg stgOf
  cases s.lv p with
  | none => simp
  | some i =>
    simp only
    cases s.sn p <;> by_cases hi : i = 1 <;> simp [hi]
/-- the step by its stage -/
theorem step0 (h : s.stg p = 0) : s.step p = { s with deeds := s.deeds ++ [⟨true, p, .str "level"⟩], lev := s.lev.set p (some 1) } := by simp only [step, h]
theorem step1 (h : s.stg p = 1) : s.step p = { s with deeds := s.deeds ++ [⟨true, p, .str "look"⟩], seen := s.seen.set p (some s.lev) } := by simp only [step, h]
theorem step2 (h : s.stg p = 2) : s.step p = { s with deeds := s.deeds ++ [⟨true, p, .str "level"⟩], lev := s.lev.set p (some (s.wr p)) } := by simp only [step, h]
theorem step3 (h : s.stg p = 3) : s.step p = if some 1 ∈ s.lev then { s with deeds := s.deeds ++ [⟨true, p, .str "ask"⟩] } else { s with deeds := s.deeds ++ [⟨true, p, .str "ask"⟩], heard := s.heard.set p (s.cm s.two) } := by simp only [step, h]
theorem told0 (h : s.stg p = 0) : s.told p = .level 1 := by simp only [told, h]
theorem told1 (h : s.stg p = 1) : s.told p = .look s.lev := by simp only [told, h]
theorem told2 (h : s.stg p = 2) : s.told p = .level (s.wr p) := by simp only [told, h]
theorem told3 (h : s.stg p = 3) : s.told p = if some 1 ∈ s.lev then .wait else .word ((s.cm s.two).getD .non) := by simp only [told, h]
theorem cm_step (q : Nat) : (s.step p).cm q = s.cm q := by
  unfold step
  split <;> (try split) <;> rfl
theorem came_step : (s.step p).came = s.came := by
  unfold step
  split <;> (try split) <;> rfl
theorem len_step : (s.step p).lev.length = s.lev.length := by
  unfold step
  split <;> (try split) <;> simp
theorem two_lev (h : ∃ q, s.lv q = some 2) : s.two < s.lev.length ∧ s.lv s.two = some 2 ∧ ∀ m, m < s.two → s.lv m ≠ some 2 := by
  obtain ⟨q, hq⟩ := h
  obtain ⟨hl, he⟩ := getD_none_of hq
  have hm : ∃ x ∈ s.lev, isTwo x = true := ⟨some 2, List.mem_of_getElem? he, by simp [isTwo]⟩
  have h1 : s.two < s.lev.length := List.findIdx_lt_length_of_exists hm
  refine ⟨h1, ?_, fun m hlt => ?_⟩
  · have e : isTwo s.lev[s.two] = true := List.findIdx_getElem (p := isTwo) (xs := s.lev) (w := h1)
    have e' : s.lev[s.two] = some 2 := by simpa [isTwo] using e
    exact getD_of (by rw [List.getElem?_eq_getElem h1, e'])
  · intro z
    have hml : m < s.lev.length := by omega
    have e : isTwo s.lev[m] = false := by simpa using List.not_of_lt_findIdx (p := isTwo) (xs := s.lev) hlt
    have z' : s.lev[m] = some 2 := by
      obtain ⟨_, z2⟩ := getD_none_of z
      rw [List.getElem?_eq_getElem hml] at z2
      exact Option.some.inj z2
    rw [z'] at e
    simp [isTwo] at e
theorem findIdx_ext {α : Type} {f g : α → Bool} : ∀ {l m : List α}, l.length = m.length → (∀ (i : Nat) x y, l[i]? = some x → m[i]? = some y → f x = g y) → l.findIdx f = m.findIdx g
  | [], [], _, _ => rfl
  | [], _ :: _, h, _ => by simp at h
  | _ :: _, [], h, _ => by simp at h
  | a :: l, b :: m, h, hp => by
    have e := hp 0 a b rfl rfl
    rw [List.findIdx_cons, List.findIdx_cons, e, findIdx_ext (l := l) (m := m) (by simpa using h) fun i x y hx hy => hp (i + 1) x y (by simpa using hx) (by simpa using hy)]
theorem two_same {s t : DS} (hl : t.lev.length = s.lev.length) (h : ∀ q, t.lv q = some 2 ↔ s.lv q = some 2) : t.two = s.two := by
  refine findIdx_ext hl fun i x y hx hy => ?_
  have h1 := h i
  rw [show t.lv i = x from getD_of hx, show s.lv i = y from getD_of hy] at h1
  unfold isTwo
  exact decide_eq_decide.mpr h1
theorem lv_step0 (h : s.stg p = 0) (hp : p < s.lev.length) (q : Nat) : (s.step p).lv q = if p = q then some 1 else s.lv q := by
  rw [step0 h]
  show (s.lev.set p (some 1)).getD q none = _
  rw [getD_set]
  by_cases e : p = q <;> simp [e, hp, lv] <;> omega
theorem lv_step1 (h : s.stg p = 1) (q : Nat) : (s.step p).lv q = s.lv q := by rw [step1 h]; rfl
theorem lv_step2 (h : s.stg p = 2) (hp : p < s.lev.length) (q : Nat) : (s.step p).lv q = if p = q then some (s.wr p) else s.lv q := by
  rw [step2 h]
  show (s.lev.set p (some (s.wr p))).getD q none = _
  rw [getD_set]
  by_cases e : p = q
  · subst e; simp [hp]
  · simp [e, lv]
theorem lv_step3 (h : s.stg p = 3) (q : Nat) : (s.step p).lv q = s.lv q := by rw [step3 h]; split <;> rfl
theorem sn_step1 (h : s.stg p = 1) (hp : p < s.seen.length) (q : Nat) : (s.step p).sn q = if p = q then some s.lev else s.sn q := by
  rw [step1 h]
  show (s.seen.set p (some s.lev)).getD q none = _
  rw [getD_set]
  by_cases e : p = q
  · subst e; simp [hp]
  · simp [e, sn]
theorem sn_stepN (h : s.stg p ≠ 1) (q : Nat) : (s.step p).sn q = s.sn q := by
  unfold step
  split <;> (try split) <;> first | rfl | (rename_i e; exact absurd e h)
theorem wr02 (s : DS) (p : Nat) : s.wr p = 0 ∧ s.saw p = true ∨ s.wr p = 2 ∧ s.saw p = false := by
  unfold wr
  cases s.saw p <;> simp
theorem saw_iff : s.saw p = true ↔ ∃ l, s.sn p = some l ∧ some 2 ∈ l := by
  unfold saw
  rw [decide_eq_true_iff]
  cases s.sn p with
  | none => simp
  | some l => simp
theorem lt_of_cm (h : s.WF) (hc : s.cm p ≠ none) : p < s.lev.length := by
  cases e : s.cm p with
  | none => exact absurd e hc
  | some v => rw [← h.lc]; exact (getD_none_of e).1
theorem has2_step (h : s.WF) (hc : s.cm p ≠ none) (h2 : ∃ q, s.lv q = some 2) : ∃ q, (s.step p).lv q = some 2 := by
  obtain ⟨q, hq⟩ := h2
  refine ⟨q, ?_⟩
  have hp := lt_of_cm h hc
  have := stg_lt s p
  rcases (show s.stg p = 0 ∨ s.stg p = 1 ∨ s.stg p = 2 ∨ s.stg p = 3 by omega) with e | e | e | e
  · rw [lv_step0 e hp, if_neg]; exact hq
    intro z; subst z; rw [stg0.mp e] at hq; cases hq
  · rw [lv_step1 e]; exact hq
  · rw [lv_step2 e hp, if_neg]; exact hq
    intro z; subst z; rw [(stg2.mp e).1] at hq; cases hq
  · rw [lv_step3 e]; exact hq
theorem WF.step (h : s.WF) (hc : s.cm p ≠ none) : (s.step p).WF := by
  have hp := lt_of_cm h hc
  have hps : p < s.seen.length := by rw [h.ls]; exact hp
  have h4 := stg_lt s p
  have hlen := len_step (s := s) (p := p)
  have k2 := has2_step h hc
  have lens : (s.step p).came.length = (s.step p).lev.length ∧ (s.step p).heard.length = (s.step p).lev.length ∧ (s.step p).seen.length = (s.step p).lev.length := by
    rw [hlen, came_step]
    refine ⟨h.lc, ?_, ?_⟩
    · unfold DS.step; split <;> (try split) <;> simp [h.lh]
    · unfold DS.step; split <;> (try split) <;> simp [h.ls]
  rcases (show s.stg p = 0 ∨ s.stg p = 1 ∨ s.stg p = 2 ∨ s.stg p = 3 by omega) with e | e | e | e
  · have L := lv_step0 e hp
    have S : ∀ q, (s.step p).sn q = s.sn q := sn_stepN (by omega)
    refine ⟨by rw [hlen]; exact h.n1, by rw [hlen]; exact h.n5, lens.1, lens.2.1, lens.2.2, fun q x hq => ?_, fun q hq => ?_, fun q hq => ?_, fun q x hq hx => ?_, fun q hq => ?_, fun q l hq hl => ?_⟩
    · rw [L] at hq; split at hq
      · cases hq; omega
      · exact h.vals q x hq
    · rw [cm_step]; rw [L] at hq; split at hq
      · rename_i z; subst z; exact hc
      · exact h.cmv q hq
    · rw [S] at hq; rw [L]; split
      · simp
      · exact h.snv q hq
    · rw [S]; rw [L] at hq; split at hq
      · cases hq; exact absurd rfl hx
      · exact h.lok q x hq hx
    · rw [L] at hq; split at hq
      · cases hq
      · exact k2 (h.z2 q hq)
    · rw [S] at hq; exact k2 (h.s2 q l hq hl)
  · have L := lv_step1 e
    have S := sn_step1 e hps
    obtain ⟨e1, e2⟩ := stg1.mp e
    refine ⟨by rw [hlen]; exact h.n1, by rw [hlen]; exact h.n5, lens.1, lens.2.1, lens.2.2, fun q x hq => h.vals q x (by rw [← L]; exact hq), fun q hq => ?_, fun q hq => ?_, fun q x hq hx => ?_, fun q hq => ?_, fun q l hq hl => ?_⟩
    · rw [cm_step]; exact h.cmv q (by rw [← L]; exact hq)
    · rw [L]; rw [S] at hq; split at hq
      · rename_i z; subst z; rw [e1]; simp
      · exact h.snv q hq
    · rw [S]; split
      · simp
      · exact h.lok q x (by rw [← L]; exact hq) hx
    · exact k2 (h.z2 q (by rw [← L]; exact hq))
    · rw [S] at hq; split at hq
      · cases hq; exact k2 (mem_getD.mp hl)
      · exact k2 (h.s2 q l hq hl)
  · have L := lv_step2 e hp
    have S : ∀ q, (s.step p).sn q = s.sn q := sn_stepN (by omega)
    obtain ⟨e1, e2⟩ := stg2.mp e
    have w2 := wr02 s p
    refine ⟨by rw [hlen]; exact h.n1, by rw [hlen]; exact h.n5, lens.1, lens.2.1, lens.2.2, fun q x hq => ?_, fun q hq => ?_, fun q hq => ?_, fun q x hq hx => ?_, fun q hq => ?_, fun q l hq hl => ?_⟩
    · rw [L] at hq; split at hq
      · cases hq; omega
      · exact h.vals q x hq
    · rw [cm_step]; rw [L] at hq; split at hq
      · rename_i z; subst z; exact hc
      · exact h.cmv q hq
    · rw [S] at hq; rw [L]; split
      · simp
      · exact h.snv q hq
    · rw [S]; rw [L] at hq; split at hq
      · rename_i z; subst z; exact e2
      · exact h.lok q x hq hx
    · rw [L] at hq; split at hq
      · rename_i z; subst z
        rcases w2 with ⟨_, w⟩ | ⟨w, _⟩
        · obtain ⟨l, hl, hl2⟩ := saw_iff.mp w
          exact k2 (h.s2 _ l hl hl2)
        · rw [w] at hq; cases hq
      · exact k2 (h.z2 q hq)
    · rw [S] at hq; exact k2 (h.s2 q l hq hl)
  · have L := lv_step3 e
    have S : ∀ q, (s.step p).sn q = s.sn q := sn_stepN (by omega)
    exact ⟨by rw [hlen]; exact h.n1, by rw [hlen]; exact h.n5, lens.1, lens.2.1, lens.2.2, fun q x hq => h.vals q x (by rw [← L]; exact hq), fun q hq => by rw [cm_step]; exact h.cmv q (by rw [← L]; exact hq), fun q hq => by rw [L]; exact h.snv q (by rw [← S]; exact hq),
      fun q x hq hx => by rw [S]; exact h.lok q x (by rw [← L]; exact hq) hx, fun q hq => k2 (h.z2 q (by rw [← L]; exact hq)), fun q l hq hl => k2 (h.s2 q l (by rw [← S]; exact hq) hl)⟩
/-- who asks while nobody stands at 1 finds somebody at 2, who came -/
theorem ask_two (h : s.WF) (e : s.stg p = 3) : ∃ q, s.lv q = some 2 := by
  obtain ⟨x, hx, h1⟩ := stg3.mp e
  rcases h.vals p x hx with rfl | rfl | rfl
  · exact h.z2 p hx
  · exact absurd rfl h1
  · exact ⟨p, hx⟩
theorem two_came (h : s.WF) (e : ∃ q, s.lv q = some 2) : ∃ v, s.cm s.two = some v := by
  obtain ⟨_, h2, _⟩ := two_lev e
  cases c : s.cm s.two with
  | none => exact absurd c (h.cmv _ (by rw [h2]; simp))
  | some v => exact ⟨v, rfl⟩
/-! ### going on -/
theorem stg_step (h : s.WF) (hc : s.cm p ≠ none) (q : Nat) : (s.step p).stg q = if p = q then min 3 (s.stg p + 1) else s.stg q := by
  have hp := lt_of_cm h hc
  have hps : p < s.seen.length := by rw [h.ls]; exact hp
  have h4 := stg_lt s p
  rcases (show s.stg p = 0 ∨ s.stg p = 1 ∨ s.stg p = 2 ∨ s.stg p = 3 by omega) with e | e | e | e
  · by_cases z : p = q
    · subst z
      have hsn : s.sn p = none := by
        cases c : s.sn p with
        | none => rfl
        | some l => exact absurd (stg0.mp e) (h.snv p (by rw [c]; simp))
      rw [if_pos rfl, e]
      exact stg1.mpr ⟨by rw [lv_step0 e hp, if_pos rfl], by rw [sn_stepN (by omega)]; exact hsn⟩
    · rw [if_neg z]; unfold stg; rw [lv_step0 e hp, if_neg z, sn_stepN (by omega)]
  · by_cases z : p = q
    · subst z
      rw [if_pos rfl, e]
      exact stg2.mpr ⟨by rw [lv_step1 e]; exact (stg1.mp e).1, by rw [sn_step1 e hps, if_pos rfl]; simp⟩
    · rw [if_neg z]; unfold stg; rw [lv_step1 e, sn_step1 e hps, if_neg z]
  · by_cases z : p = q
    · subst z
      rw [if_pos rfl, e]
      refine stg3.mpr ⟨s.wr p, by rw [lv_step2 e hp, if_pos rfl], ?_⟩
      rcases wr02 s p with ⟨w, _⟩ | ⟨w, _⟩ <;> rw [w] <;> decide
    · rw [if_neg z]; unfold stg; rw [lv_step2 e hp, if_neg z, sn_stepN (by omega)]
  · have : (s.step p).stg q = s.stg q := by unfold stg; rw [lv_step3 e, sn_stepN (by omega)]
    rw [this]
    by_cases z : p = q
    · subst z; rw [if_pos rfl, e]; rfl
    · rw [if_neg z]
theorem stg_come (q : Nat) : (s.come p v).stg q = s.stg q := rfl
theorem no_one (h : ∀ q, s.stg q = 0 ∨ s.stg q = 3) : some 1 ∉ s.lev := fun m => by
  obtain ⟨q, hq⟩ := mem_getD.mp m
  have hq : s.lv q = some 1 := hq
  rcases h q with e | e
  · rw [stg0.mp e] at hq; cases hq
  · obtain ⟨x, hx, hx1⟩ := stg3.mp e
    rw [hq] at hx
    cases hx
    exact hx1 rfl
end
end DS
end Fp
/-! A door in the heap; promises of the program's defs -/
namespace Fp
open PySem PySem.Spec PyProof.Rows L2
def dfl (n : Int) (a b c e f : Addr) : List (Str × V) := [("many", .int n), ("came", .ref a), ("levels", .ref b), ("heard", .ref c), ("seen", .ref e), ("deeds", .ref f)]
structure DC (K : PySem.W.Frag) (C : Addr) : Prop where
  cl : Cls K C
  nM : NoAttr K C "many"
  nC : NoAttr K C "came"
  nL : NoAttr K C "levels"
  nH : NoAttr K C "heard"
  nS : NoAttr K C "seen"
  nD : NoAttr K C "deeds"
section
variable {n n' : Int} {a b c e f a' b' c' e' f' : Addr}
theorem d_many : (dfl n a b c e f).lookup ("many" : Str) = some (.int n) := by kernel_rfl
theorem d_came : (dfl n a b c e f).lookup ("came" : Str) = some (.ref a) := by kernel_rfl
theorem d_lev : (dfl n a b c e f).lookup ("levels" : Str) = some (.ref b) := by kernel_rfl
theorem d_heard : (dfl n a b c e f).lookup ("heard" : Str) = some (.ref c) := by kernel_rfl
theorem d_seen : (dfl n a b c e f).lookup ("seen" : Str) = some (.ref e) := by kernel_rfl
theorem d_deeds : (dfl n a b c e f).lookup ("deeds" : Str) = some (.ref f) := by kernel_rfl
theorem dp_came : putF "came" (.ref a') (dfl n a b c e f) = dfl n a' b c e f := by kernel_rfl
theorem dp_lev : putF "levels" (.ref b') (dfl n a b c e f) = dfl n a b' c e f := by kernel_rfl
theorem dp_heard : putF "heard" (.ref c') (dfl n a b c e f) = dfl n a b c' e f := by kernel_rfl
theorem dp_seen : putF "seen" (.ref e') (dfl n a b c e f) = dfl n a b c e' f := by kernel_rfl
theorem dp_deeds : putF "deeds" (.ref f') (dfl n a b c e f) = dfl n a b c e f' := by kernel_rfl
theorem d_all : putF "deeds" (.ref f) (putF "seen" (.ref e) (putF "heard" (.ref c) (putF "levels" (.ref b) (putF "came" (.ref a) (putF "many" (.int n) []))))) = dfl n a b c e f := by kernel_rfl
theorem no_check : (dfl n a b c e f).lookup ("check_player" : Str) = none := by kernel_rfl
theorem no_next : (dfl n a b c e f).lookup ("next" : Str) = none := by kernel_rfl
theorem no_shows : (dfl n a b c e f).lookup ("shows_level" : Str) = none := by kernel_rfl
theorem no_asks : (dfl n a b c e f).lookup ("asks" : Str) = none := by kernel_rfl
theorem no_step : (dfl n a b c e f).lookup ("step" : Str) = none := by kernel_rfl
theorem no_come : (dfl n a b c e f).lookup ("come" : Str) = none := by kernel_rfl
theorem no_copy : (dfl n a b c e f).lookup ("copy" : Str) = none := by kernel_rfl
end
/-- (VALUE,), or None -/
def One (H : Hp) (x : V) : Option V → Prop
  | none => x = .non
  | some v => ∃ p, x = .ref p ∧ H p = some (.tup [v])
def SeenAt (H : Hp) (x : V) : Option (List Lv) → Prop
  | none => x = .non
  | some l => ∃ p, x = .ref p ∧ TF H p (l.map lvV)
def DeedAt (H : Hp) (x : V) (d : Deed) : Prop := ∃ p, x = .ref p ∧ H p = some (.tup [.str (if d.stp then "step" else "come"), .int (d.p : Nat), d.x])
theorem One.mono {H H' : Hp} (g : TK H H') {x : V} {o : Option V} (h : One H x o) : One H' x o := by
  cases o with
  | none => exact h
  | some v => obtain ⟨p, e, q⟩ := h; exact ⟨p, e, g.t q⟩
theorem SeenAt.mono {H H' : Hp} (g : TK H H') {x : V} {o : Option (List Lv)} (h : SeenAt H x o) : SeenAt H' x o := by
  cases o with
  | none => exact h
  | some v => obtain ⟨p, e, q⟩ := h; exact ⟨p, e, g.f q⟩
theorem DeedAt.mono {H H' : Hp} (g : TK H H') {x : V} {o : Deed} (h : DeedAt H x o) : DeedAt H' x o := by
  obtain ⟨p, e, q⟩ := h; exact ⟨p, e, g.t q⟩
theorem pr_imp {α β : Type} {F G : α → β → Prop} (f : ∀ a b, F a b → G a b) : ∀ {l : List α} {m : List β}, Paired F l m → Paired G l m
  | _, _, .nil => .nil
  | _, _, .cons a b => .cons (f _ _ a) (pr_imp f b)
theorem pr_len {α β : Type} {F : α → β → Prop} : ∀ {l : List α} {m : List β}, Paired F l m → l.length = m.length
  | _, _, .nil => rfl
  | _, _, .cons _ b => congrArg (· + 1) (pr_len b)
theorem pr_at {α β : Type} {F : α → β → Prop} : ∀ {l : List α} {m : List β} {i : Nat} {y : β}, Paired F l m → m[i]? = some y → ∃ x, l[i]? = some x ∧ F x y
  | _, _, 0, _, .cons h _, e => by cases e; exact ⟨_, rfl, h⟩
  | _, _, i + 1, x, .cons _ r, e => pr_at (i := i) r e
  | _, _, _, _, .nil, e => by cases e
theorem pr_set {α β : Type} {F : α → β → Prop} {x : α} {y : β} (h : F x y) : ∀ {l : List α} {m : List β} (i : Nat), Paired F l m → Paired F (l.set i x) (m.set i y)
  | _, _, _, .nil => .nil
  | _, _, 0, .cons _ r => .cons h r
  | _, _, i + 1, .cons a r => .cons a (pr_set h i r)
theorem pr_snoc {α β : Type} {F : α → β → Prop} {a : α} {b : β} (h : F a b) : ∀ {l : List α} {m : List β}, Paired F l m → Paired F (l ++ [a]) (m ++ [b])
  | _, _, .nil => .cons h .nil
  | _, _, .cons k r => .cons k (pr_snoc h r)
theorem pr_rep {α β : Type} {F : α → β → Prop} {x : α} {y : β} (h : F x y) : ∀ n : Nat, Paired F (List.replicate n x) (List.replicate n y)
  | 0 => .nil
  | n + 1 => .cons h (pr_rep h n)
/-- values that may be brought -/
def Good (H : Hp) (v : V) : Prop := ∃ d, VAt H v d ∧ VOk 3 d
theorem Good.mono {H H' : Hp} (g : TK H H') {v : V} (h : Good H v) : Good H' v := by obtain ⟨d, a, b⟩ := h; exact ⟨d, a.mono g, b⟩
structure DoorIn (C : Addr) (H : Hp) (d : Addr) (s : DS) (dx a b c e f : Addr) (cv hv sv dv : List V) : Prop where
  obj : H d = some (.ins C dx (dfl (s.lev.length : Nat) a b c e f))
  own : H dx = some (.own d)
  came : TF H a cv
  cameP : Paired (One H) cv s.came
  lev : TF H b (s.lev.map lvV)
  heard : TF H c hv
  heardP : Paired (One H) hv s.heard
  seen : TF H e sv
  seenP : Paired (SeenAt H) sv s.seen
  deeds : H f = some (.tup dv)
  deedsP : Paired (DeedAt H) dv s.deeds
  good : ∀ p v, s.cm p = some v → Good H v
  wf : s.WF
def DoorAt (C : Addr) (H : Hp) (d : Addr) (s : DS) : Prop := ∃ dx a b c e f cv hv sv dv, DoorIn C H d s dx a b c e f cv hv sv dv
theorem DoorIn.mono {C : Addr} {H H' : Hp} {d : Addr} {s : DS} {dx a b c e f : Addr} {cv hv sv dv : List V} (h : DoorIn C H d s dx a b c e f cv hv sv dv) (g : TK H H') (g1 : ∀ o, H d = some o → H' d = some o) (g2 : H' dx = H dx) : DoorIn C H' d s dx a b c e f cv hv sv dv :=
  ⟨g1 _ h.obj, by rw [g2]; exact h.own, g.f h.came, pr_imp (fun _ _ => One.mono g) h.cameP, g.f h.lev, g.f h.heard, pr_imp (fun _ _ => One.mono g) h.heardP, g.f h.seen, pr_imp (fun _ _ => SeenAt.mono g) h.seenP, g.t h.deeds, pr_imp (fun _ _ => DeedAt.mono g) h.deedsP, fun p v hv => (h.good p v hv).mono g, h.wf⟩
theorem DoorAt.same {C : Addr} {H H' : Hp} {d : Addr} {s : DS} (h : DoorAt C H d s) (g : Same H H') : DoorAt C H' d s := by
  obtain ⟨dx, a, b, c, e, f, cv, hv, sv, dv, h⟩ := h
  exact ⟨dx, a, b, c, e, f, cv, hv, sv, dv, h.mono (.of g) (fun o q => g _ _ q) (by rw [g _ _ h.own]; exact h.own.symm)⟩
/-- what is not an instance, an own dict or a tuple may change -/
theorem DoorAt.but {C : Addr} {H H' : Hp} {d : Addr} {s : DS} {S : List Addr} (h : DoorAt C H d s) (g : But S H H') (n : ∀ x ∈ S, (∃ xs, H x = some (.lst xs)) ∨ ∃ kvs, H x = some (.dK kvs)) : DoorAt C H' d s := by
  obtain ⟨dx, a, b, c, e, f, cv, hv, sv, dv, h⟩ := h
  have nd : d ∉ S := fun m => by
    rcases n d m with ⟨xs, z⟩ | ⟨xs, z⟩ <;> rw [h.obj] at z <;> cases z
  have nx : dx ∉ S := fun m => by
    rcases n dx m with ⟨xs, z⟩ | ⟨xs, z⟩ <;> rw [h.own] at z <;> cases z
  refine ⟨dx, a, b, c, e, f, cv, hv, sv, dv, h.mono (TK.but g fun x m z => ?_) (fun o q => g _ _ nd q) (by rw [g _ _ nx h.own]; exact h.own.symm)⟩
  rcases n x m with ⟨ys, z'⟩ | ⟨ys, z'⟩ <;> rw [z'] at z <;> exact z
theorem DoorAt.wf {C : Addr} {H : Hp} {d : Addr} {s : DS} (h : DoorAt C H d s) : s.WF := by
  obtain ⟨dx, a, b, c, e, f, cv, hv, sv, dv, h⟩ := h
  exact h.wf
theorem getD_at {α : Type} {l : List (Option α)} {p : Nat} (h : p < l.length) : l[p]? = some (l.getD p none) := by
  rw [List.getElem?_eq_getElem h]; exact congrArg some (getD_of (List.getElem?_eq_getElem h)).symm
theorem DS.WF.acm {s : DS} (W : s.WF) {p : Nat} (h : p < s.lev.length) : s.came[p]? = some (s.cm p) := getD_at (by rw [W.lc]; exact h)
theorem DS.WF.asn {s : DS} (W : s.WF) {p : Nat} (h : p < s.lev.length) : s.seen[p]? = some (s.sn p) := getD_at (by rw [W.ls]; exact h)
theorem alv {s : DS} {p : Nat} (h : p < s.lev.length) : s.lev[p]? = some (s.lv p) := getD_at h
theorem alvV {s : DS} {p : Nat} (h : p < s.lev.length) : (s.lev.map lvV)[p]? = some (lvV (s.lv p)) := by rw [List.getElem?_map, alv h]; rfl
theorem One.is {H : Hp} {x : V} {o : Option V} (h : One H x o) : decide (x = .non) = o.isNone := by
  cases o with
  | none => rw [show x = .non from h]; rfl
  | some v => obtain ⟨p, e, _⟩ := h; rw [e]; rfl
theorem SeenAt.is {H : Hp} {x : V} {o : Option (List Lv)} (h : SeenAt H x o) : decide (x = .non) = o.isNone := by
  cases o with
  | none => rw [show x = .non from h]; rfl
  | some v => obtain ⟨p, e, _⟩ := h; rw [e]; rfl
theorem lv_flat : ∀ l : List Lv, (l.map lvV).all flatV = true
  | [] => rfl
  | none :: l => by rw [List.map_cons, List.all_cons, lv_flat l]; rfl
  | some i :: l => by rw [List.map_cons, List.all_cons, lv_flat l]; rfl
theorem eqV_lv (i : Int) (a : Lv) : eqV (lvV a) (.int i) = decide (a = some i) := by
  cases a with
  | none => rfl
  | some j =>
    show (j == i) = _
    rw [Bool.eq_iff_iff]; simp
theorem inV_lv (i : Int) (l : List Lv) : inV (.int i) (l.map lvV) = decide (some i ∈ l) := by
  unfold inV
  rw [List.any_map, Bool.eq_iff_iff, List.any_eq_true, decide_eq_true_iff]
  constructor
  · rintro ⟨x, hx, e⟩
    have e' : eqV (lvV x) (.int i) = true := e
    rw [eqV_lv, decide_eq_true_iff] at e'
    exact e' ▸ hx
  · intro h
    exact ⟨some i, h, by show eqV (lvV (some i)) (.int i) = true; rw [eqV_lv]; simp⟩
def DS.log (s : DS) (p : Nat) : DS := { s with deeds := s.deeds ++ [⟨true, p, .str (DS.kindOf (s.stg p))⟩] }
theorem DS.log_step (s : DS) (p : Nat) : { (s.log p).step p with deeds := (s.log p).deeds } = s.step p := by
  have h4 := DS.stg_lt s p
  have e0 : (s.log p).stg p = s.stg p := rfl
  rcases (show s.stg p = 0 ∨ s.stg p = 1 ∨ s.stg p = 2 ∨ s.stg p = 3 by omega) with e | e | e | e
  · rw [DS.step0 e, DS.step0 (e0.trans e)]; unfold DS.log; rw [e]; rfl
  · rw [DS.step1 e, DS.step1 (e0.trans e)]; unfold DS.log; rw [e]; rfl
  · rw [DS.step2 e, DS.step2 (e0.trans e)]; unfold DS.log; rw [e]; rfl
  · rw [DS.step3 e, DS.step3 (e0.trans e)]; unfold DS.log; rw [e]; split <;> rfl
theorem DS.WF.log {s : DS} {p : Nat} (W : s.WF) : (s.log p).WF := ⟨W.n1, W.n5, W.lc, W.lh, W.ls, W.vals, W.cmv, W.snv, W.lok, W.z2, W.s2⟩
/-- a tuple, of either kind -/
def TT (H : Hp) (a : Addr) (xs : List V) : Prop := H a = some (.tup xs) ∨ TF H a xs
theorem TT.sq {K : PySem.W.Frag} {H : Hp} {a : Addr} {xs : List V} (h : TT H a xs) : SqT K H a xs := h.elim (fun h => .of h) fun h => h.sq
theorem TK.tt {H H' : Hp} (g : TK H H') {a : Addr} {xs : List V} (h : TT H a xs) : TT H' a xs := h.imp (fun h => g.t h) fun h => g.f h
/-- what a step tells -/
def ToldAt (H : Hp) (t : Addr) : Told → Prop
  | .level i => H t = some (.tup [.str "level", .int i])
  | .look l => ∃ q, H t = some (.tup [.str "look", .ref q]) ∧ TT H q (l.map lvV)
  | .wait => H t = some (.tup [.str "wait"])
  | .word v => H t = some (.tup [.str "word", v])
theorem ToldAt.mono {H H' : Hp} (g : TK H H') {t : Addr} {x : Told} (h : ToldAt H t x) : ToldAt H' t x := by
  cases x with
  | level i => exact g.t h
  | look l => obtain ⟨q, a, b⟩ := h; exact ⟨q, g.t a, g.tt b⟩
  | wait => exact g.t h
  | word v => exact g.t h
/-! ### the law's own door -/
def odict (l1 l2 l3 l4 l5 : Addr) (k : Int) : List (Key × V) := [(.inr "came", .ref l1), (.inr "levels", .ref l2), (.inr "stages", .ref l3), (.inr "won", .ref l4), (.inr "heard", .ref l5), (.inr "steps", .int k)]
section
variable {l1 l2 l3 l4 l5 : Addr} {k k' : Int}
theorem o_came : valV (odict l1 l2 l3 l4 l5 k) (.inr "came") = some (.ref l1) := by kernel_rfl
theorem o_lev : valV (odict l1 l2 l3 l4 l5 k) (.inr "levels") = some (.ref l2) := by kernel_rfl
theorem o_stg : valV (odict l1 l2 l3 l4 l5 k) (.inr "stages") = some (.ref l3) := by kernel_rfl
theorem o_won : valV (odict l1 l2 l3 l4 l5 k) (.inr "won") = some (.ref l4) := by kernel_rfl
theorem o_heard : valV (odict l1 l2 l3 l4 l5 k) (.inr "heard") = some (.ref l5) := by kernel_rfl
theorem o_steps : valV (odict l1 l2 l3 l4 l5 k) (.inr "steps") = some (.int k) := by kernel_rfl
theorem op_steps : putK (odict l1 l2 l3 l4 l5 k) (.inr "steps") (.int k') = odict l1 l2 l3 l4 l5 k' := by kernel_rfl
theorem o_merge : mergeK [] (odict l1 l2 l3 l4 l5 k) = odict l1 l2 l3 l4 l5 k := by kernel_rfl
theorem og_came {H : Hp} {o : Addr} (h : H o = some (.dK (odict l1 l2 l3 l4 l5 k))) : DGet H o (.str "came") (some (.ref l1)) := by
  have := DGet.k (k := .inr "came") h; rw [o_came] at this; exact this
theorem og_lev {H : Hp} {o : Addr} (h : H o = some (.dK (odict l1 l2 l3 l4 l5 k))) : DGet H o (.str "levels") (some (.ref l2)) := by
  have := DGet.k (k := .inr "levels") h; rw [o_lev] at this; exact this
theorem og_stg {H : Hp} {o : Addr} (h : H o = some (.dK (odict l1 l2 l3 l4 l5 k))) : DGet H o (.str "stages") (some (.ref l3)) := by
  have := DGet.k (k := .inr "stages") h; rw [o_stg] at this; exact this
theorem og_won {H : Hp} {o : Addr} (h : H o = some (.dK (odict l1 l2 l3 l4 l5 k))) : DGet H o (.str "won") (some (.ref l4)) := by
  have := DGet.k (k := .inr "won") h; rw [o_won] at this; exact this
theorem og_heard {H : Hp} {o : Addr} (h : H o = some (.dK (odict l1 l2 l3 l4 l5 k))) : DGet H o (.str "heard") (some (.ref l5)) := by
  have := DGet.k (k := .inr "heard") h; rw [o_heard] at this; exact this
theorem og_steps {H : Hp} {o : Addr} (h : H o = some (.dK (odict l1 l2 l3 l4 l5 k))) : DGet H o (.str "steps") (some (.int k)) := by
  have := DGet.k (k := .inr "steps") h; rw [o_steps] at this; exact this
theorem oput_steps {H : Hp} {o : Addr} (h : H o = some (.dK (odict l1 l2 l3 l4 l5 k))) : DPut H o (.str "steps") (.int k') (upd H o (.dK (odict l1 l2 l3 l4 l5 k'))) := by
  have := DPut.k (k := .inr "steps") (v := .int k') h (szt (by show 6 < _; decide)); rw [op_steps] at this; exact this
end
theorem ixn {n j : Nat} (h : j < n) : ixN n (j : Int) = some j := by
  unfold ixN
  rw [if_pos (by omega), if_pos (by omega)] <;> simp
def DS.won (s : DS) (p : Nat) : Bool := match s.sn p with
  | none => false
  | some l => !decide (some 2 ∈ l)
structure OwnIn (H : Hp) (o l1 l2 l3 l4 l5 : Addr) (s : DS) (cv hv : List V) (k : Int) : Prop where
  dict : H o = some (.dK (odict l1 l2 l3 l4 l5 k))
  came : H l1 = some (.lst cv)
  cameP : Paired (One H) cv s.came
  lev : H l2 = some (.lst (s.lev.map lvV))
  stg : H l3 = some (.lst ((List.range s.lev.length).map fun p => V.int (s.stg p : Nat)))
  won : H l4 = some (.lst ((List.range s.lev.length).map fun p => V.bl (s.won p)))
  heard : H l5 = some (.lst hv)
  heardP : Paired (One H) hv s.heard
  nd : [o, l1, l2, l3, l4, l5].Nodup
def OwnAt (H : Hp) (o : Addr) (L : List Addr) (s : DS) (k : Int) : Prop := ∃ l1 l2 l3 l4 l5 cv hv, L = [o, l1, l2, l3, l4, l5] ∧ OwnIn H o l1 l2 l3 l4 l5 s cv hv k
theorem OwnAt.but {H H' : Hp} {o : Addr} {L S : List Addr} {s : DS} {k : Int} (h : OwnAt H o L s k) (g : But S H H') (n : ∀ x ∈ S, x ∉ L) (tk : TK H H') : OwnAt H' o L s k := by
  obtain ⟨l1, l2, l3, l4, l5, cv, hv, rfl, h⟩ := h
  have w : ∀ x ∈ [o, l1, l2, l3, l4, l5], x ∉ S := fun x hx m => n x m hx
  exact ⟨l1, l2, l3, l4, l5, cv, hv, rfl, g _ _ (w o (by simp)) h.dict, g _ _ (w l1 (by simp)) h.came, pr_imp (fun _ _ => One.mono tk) h.cameP, g _ _ (w l2 (by simp)) h.lev, g _ _ (w l3 (by simp)) h.stg, g _ _ (w l4 (by simp)) h.won, g _ _ (w l5 (by simp)) h.heard, pr_imp (fun _ _ => One.mono tk) h.heardP, h.nd⟩
theorem OwnAt.same {H H' : Hp} {o : Addr} {L : List Addr} {s : DS} {k : Int} (h : OwnAt H o L s k) (g : Same H H') : OwnAt H' o L s k := h.but (S := []) (.of g) (fun _ m => by cases m) (.of g)
/-- what stands at its places -/
theorem OwnAt.kind {H : Hp} {o : Addr} {L : List Addr} {s : DS} {k : Int} (h : OwnAt H o L s k) : ∀ x ∈ L, (∃ xs, H x = some (.lst xs)) ∨ ∃ kvs, H x = some (.dK kvs) := by
  obtain ⟨l1, l2, l3, l4, l5, cv, hv, rfl, h⟩ := h
  intro x hx
  simp only [List.mem_cons, List.not_mem_nil, or_false] at hx
  rcases hx with rfl | rfl | rfl | rfl | rfl | rfl
  · exact .inr ⟨_, h.dict⟩
  · exact .inl ⟨_, h.came⟩
  · exact .inl ⟨_, h.lev⟩
  · exact .inl ⟨_, h.stg⟩
  · exact .inl ⟨_, h.won⟩
  · exact .inl ⟨_, h.heard⟩
theorem none0 {P : Program} {w : World} {K : PySem.W.Frag} {mg : Str → Option Value} {base : Heap} {f : Addr} {fd : FuncData} {sp : Sp} {ps : List Str} (h : ∀ vs H Q E, ¬ sp vs H Q E) : FnOk P w K mg base CX0 0 f fd ps sp :=
  ⟨fun vs H Q E q => absurd q (h vs H Q E), fun A outer s H args us vs Q E _ _ _ _ q => absurd q (h vs H Q E)⟩
/-! ### promises -/
def vc : Nat → Nat
  | 0 => 2
  | n + 1 => 2 + 3 * vc n
def spVal (n : Nat) : Sp := fun vs H Q _ => ∃ (p : Addr) (deep m : Nat), vs = [.ref p, .int deep] ∧ deep < n ∧ deep ≤ 2 ∧ m + vc deep ≤ 900000 ∧ PotAt H p m ∧ ∀ v d H', But [p] H H' → VAt H' v d → VOk deep d → PotAt H' p (m + vc deep) → Q v H'
def spODoor : Sp := fun vs H Q _ => ∃ n : Nat, vs = [.int n] ∧ n ≤ 5 ∧ ∀ o L H', Same H H' → (∀ x ∈ L, H x = none) → OwnAt H' o L (DS.new n) 0 → Q (.ref o) H'
def spOCome : Sp := fun vs H Q _ => ∃ (o : Addr) (L : List Addr) (p : Nat) (v : V) (s : DS) (k : Int), vs = [.ref o, .int p, v] ∧ OwnAt H o L s k ∧ p < s.lev.length ∧ s.WF ∧ ∀ H', But L H H' → OwnAt H' o L (s.come p v) k → Q .non H'
def spOStep : Sp := fun vs H Q _ => ∃ (o : Addr) (L : List Addr) (p : Nat) (s : DS) (k : Int), vs = [.ref o, .int p] ∧ OwnAt H o L s k ∧ s.cm p ≠ none ∧ s.WF ∧ ∀ t H', But L H H' → ToldAt H' t (s.told p) → OwnAt H' o L (s.step p) (k + 1) → Q (.ref t) H'
/-- a drawn deed: a coming (None as long as the player is here), or a step -/
def spDeed : Sp := fun vs H Q _ => ∃ (pt o : Addr) (L : List Addr) (s : DS) (k : Int) (m : Nat), vs = [.ref pt, .ref o] ∧ OwnAt H o L s k ∧ s.WF ∧ pt ∉ L ∧ PotAt H pt m ∧ m < 800000 ∧
  ∀ (t : Addr) (p : Nat) (H' : Hp), But [pt] H H' → PotAt H' pt (m + 100) → p < s.lev.length →
    ((s.cm p = none ∧ ∃ q v, H' t = some (.tup [.int (p : Nat), .ref q]) ∧ H' q = some (.tup [v]) ∧ ∃ d, VAt H' v d ∧ VOk 2 d) ∨ (s.cm p ≠ none ∧ H' t = some (.tup [.int (p : Nat), .non]))) → Q (.ref t) H'
def spIsWhole : Sp := fun vs H Q _ => ∃ i : Int, vs = [.int i] ∧ Q (.bl true) H
def spBelow : Sp := fun vs H Q _ => ∃ i n : Int, vs = [.int i, .int n] ∧ Q (.bl (decide (0 ≤ i ∧ i < n))) H
def spExch (K : PySem.W.Frag) : Sp := fun vs H Q _ => ∃ (a : Addr) (xs : List V) (p : Nat) (v : V), vs = [.ref a, .int p, v] ∧ SqT K H a xs ∧ p < xs.length ∧ xs.length ≤ 1000 ∧ ∀ q H', Same H H' → TF H' q (xs.set p v) → Q (.ref q) H'
def spSmW (n : Nat) : Sp := fun vs H Q _ => ∃ (v : V) (d : PyData) (m : Nat) (deep : Int), vs = [v, .int deep] ∧ VAt H v d ∧ VOk m d ∧ m < n ∧ (m : Int) ≤ deep ∧ ∀ H', Same H H' → Q (.bl true) H'
def spSmall : Sp := fun vs H Q _ => ∃ v : V, vs = [v] ∧ Good H v ∧ ∀ H', Same H H' → Q (.bl true) H'
def spDInit (C : Addr) : Sp := fun vs H Q _ => ∃ (d dx : Addr) (n : Nat), vs = [.ref d, .int n] ∧ 1 ≤ n ∧ n ≤ 5 ∧ H d = some (.ins C dx []) ∧ H dx = some (.own d) ∧
  ∀ H', But [d] H H' → DoorAt C H' d (DS.new n) → Q .non H'
def spCheck (C : Addr) : Sp := fun vs H Q _ => ∃ (d : Addr) (p : Nat) (s : DS), vs = [.ref d, .int p] ∧ DoorAt C H d s ∧ p < s.lev.length ∧ Q .non H
def optS : Option Str → V
  | none => .non
  | some z => .str z
def spNext (C : Addr) : Sp := fun vs H Q _ => ∃ (d : Addr) (p : Nat) (s : DS), vs = [.ref d, .int p] ∧ DoorAt C H d s ∧ p < s.lev.length ∧ ∀ H', Same H H' → Q (optS (s.next p)) H'
def spShows (C : Addr) : Sp := fun vs H Q _ => ∃ (d : Addr) (p : Nat) (s : DS), vs = [.ref d, .int p] ∧ DoorAt C H d s ∧ p < s.lev.length ∧ (s.stg p = 0 ∨ s.stg p = 2) ∧ s.cm p ≠ none ∧
  ∀ t H', But [d] H H' → ToldAt H' t (s.told p) → DoorAt C H' d { s.step p with deeds := s.deeds } → Q (.ref t) H'
def spAsks (C : Addr) : Sp := fun vs H Q _ => ∃ (d : Addr) (p : Nat) (s : DS), vs = [.ref d, .int p] ∧ DoorAt C H d s ∧ p < s.lev.length ∧ s.stg p = 3 ∧ s.cm p ≠ none ∧
  ∀ t H', But [d] H H' → ToldAt H' t (s.told p) → DoorAt C H' d { s.step p with deeds := s.deeds } → Q (.ref t) H'
def spStep (C : Addr) : Sp := fun vs H Q _ => ∃ (d : Addr) (p : Nat) (s : DS), vs = [.ref d, .int p] ∧ DoorAt C H d s ∧ s.cm p ≠ none ∧ s.deeds.length < 100000 ∧
  ∀ t H', But [d] H H' → ToldAt H' t (s.told p) → DoorAt C H' d (s.step p) → Q (.ref t) H'
def spCome (C : Addr) : Sp := fun vs H Q _ => ∃ (d : Addr) (p : Nat) (v : V) (s : DS), vs = [.ref d, .int p, v] ∧ DoorAt C H d s ∧ p < s.lev.length ∧ s.cm p = none ∧ Good H v ∧ s.deeds.length < 100000 ∧
  ∀ H', But [d] H H' → DoorAt C H' d (s.come p v) → Q .non H'
def DS.held (s : DS) : List Nat := (List.range s.lev.length).filter fun p => decide (s.lv p = some 1)
def spHeld (C : Addr) : Sp := fun vs H Q _ => ∃ (d : Addr) (s : DS), vs = [.ref d] ∧ DoorAt C H d s ∧ ∀ t H', Same H H' → H' t = some (.tup (s.held.map fun (p : Nat) => V.int (p : Int))) → Q (.ref t) H'
end Fp
namespace Fp
open PySem PySem.Spec PyProof.Rows L2
def top (i : Nat) : Stmt := PySem.Challenge.pw_fewplaymany_k41_what_is_refused_at_doors.main.body.getD i (.Pass ⟨0, 0, 0, 0⟩)
structure PTx (mg : Str → Option Value) : Prop where
  isinstance : mg "isinstance" = none
  int : mg "int" = none
  bool : mg "bool" = none
  tuple : mg "tuple" = none
  all : mg "all" = none
  len : mg "len" = none
  enumerate : mg "enumerate" = none
  c_MOST_PLAYERS : ∃ t, mg "MOST_PLAYERS" = some (.int 5 t)
  c_MOST_DEEP : ∃ t, mg "MOST_DEEP" = some (.int 12 t)
  c_MOST_ENTRIES : ∃ t, mg "MOST_ENTRIES" = some (.int 60 t)
  c_MOST_INTEGER : ∃ t, mg "MOST_INTEGER" = some (.int 9999 t)
section
variable {P : Program} {w : World} {K : PySem.W.Frag} {mg : Str → Option Value} {base : Heap} {f : Addr} {fd : FuncData} {C : Addr}
abbrev s_is_whole : Stmt := top 9
theorem sc_is_whole : FnScope ["value"] ["value"] (defScope s_is_whole) := ⟨rfl, rfl, rfl, by decide +kernel, rfl, by decide +kernel, by decide +kernel⟩
theorem ok_is_whole (F : Fun K "is_whole" "is_whole" s_is_whole f fd) (T : PTx mg) : FnOk P w K mg base CX0 1 f fd ["value"] spIsWhole := by
  refine F.ok sc_is_whole (fun vs H Q E h => ?_) (fun cdv A outer s H vs Q E hr h => ?_)
  · obtain ⟨i, rfl, _⟩ := h
    rfl
  obtain ⟨i, rfl, q⟩ := h
  refine ⟨_, (pss_one (ps_ret (pe_and (pe_callB call_isi rfl T.isinstance (by decide +kernel) (pa_cons (pv 0) (pa_cons (pe_bltn (v := .ty "int") rfl T.int boot_int rfl) pa_nil))) (pe_one (pe_not (pe_callB call_isi rfl T.isinstance (by decide +kernel) (pa_cons (pv 0) (pa_cons (pe_bltn (v := .ty "bool") rfl T.bool boot_bool rfl) pa_nil)))))))), ?_⟩
  exact ⟨_, rfl, _, _, _, _, true, rfl, .ty "int", .base (.int i), by first | rfl | decide +kernel | kernel_rfl, _, rfl, iteT ⟨_, rfl, _, _, _, _, false, rfl, .ty "bool", .base (.int i), by first | rfl | decide +kernel | kernel_rfl, _, rfl, q⟩⟩
abbrev s_is_below : Stmt := top 10
theorem sc_is_below : FnScope ["value", "many"] ["value", "many"] (defScope s_is_below) := ⟨rfl, rfl, rfl, by decide +kernel, rfl, by decide +kernel, by decide +kernel⟩
theorem ok_is_below (F : Fun K "is_below" "is_below" s_is_below f fd) (T : PTx mg) (G_is_whole : Fd P w K mg base CX0 "is_whole" 1 ["value"] spIsWhole) : FnOk P w K mg base CX0 2 f fd ["value", "many"] spBelow := by
  refine F.ok sc_is_below (fun vs H Q E h => ?_) (fun cdv A outer s H vs Q E hr h => ?_)
  · obtain ⟨i, n, rfl, _⟩ := h
    rfl
  obtain ⟨i, n, rfl, q⟩ := h
  refine ⟨_, (pss_one (ps_ret (pe_and (pe_fd G_is_whole (hr.mono (by first | decide | omega)) rfl (pa_cons (pv 0) pa_nil)) (pe_one (pe_chain op_le op_lt pe_int (pv 0) (pv 1)))))), ?_⟩
  refine ⟨_, rfl, i, rfl, _, rfl, iteT ⟨_, rfl, _, _, rfl, rfl, _, rfl, ?_⟩⟩
  refine ite2 (fun c => ?_) (fun c => ?_)
  · refine ⟨_, rfl, _, _, rfl, rfl, ?_⟩
    have c' : 0 ≤ i := of_decide_eq_true c
    have e : decide (0 ≤ i ∧ i < n) = decide (i < n) := by simp [c']
    rw [e] at q
    exact q
  · have c' : ¬ 0 ≤ i := of_decide_eq_false (by simpa using c)
    have e : decide (0 ≤ i ∧ i < n) = false := decide_eq_false (fun z => c' z.1)
    rw [e] at q
    exact q
abbrev s_exchanged : Stmt := top 12
theorem sc_exchanged : FnScope ["row", "at", "thing"] ["row", "at", "thing"] (defScope s_exchanged) := ⟨rfl, rfl, rfl, by decide +kernel, rfl, by decide +kernel, by decide +kernel⟩
theorem ok_exchanged (F : Fun K "exchanged" "exchanged" s_exchanged f fd) : FnOk P w K mg base CX0 1 f fd ["row", "at", "thing"] (spExch K) := by
  refine F.ok sc_exchanged (fun vs H Q E h => ?_) (fun cdv A outer s H vs Q E hr h => ?_)
  · obtain ⟨a, xs, p, v, rfl, _⟩ := h
    rfl
  obtain ⟨a, xs, p, v, rfl, ha, hp, hx, k⟩ := h
  refine ⟨_, (pss_one (ps_ret (pe_op op_catF (pe_mid (pe_op op_catF (pe_slice sl_tupA (pv 0) po_none (po_some (pv 1))) (pe_tupF (pa_cons (pv 2) pa_nil)))) (pe_slice sl_tupA (pv 0) (po_some (pe_op op_add (pv 1) pe_int)) po_none)))), ?_⟩
  have hs1 : HT.sIx xs.length xs.length (some (p : Int)) = p := by rw [HT.sIx_nat]; omega
  have hs0 : HT.sIx xs.length 0 none = 0 := rfl
  have hs2 : HT.sIx xs.length 0 (some ((p : Int) + 1)) = p + 1 := by rw [show (p : Int) + 1 = ((p + 1 : Nat) : Int) by omega, HT.sIx_nat]; omega
  have hs3 : HT.sIx xs.length xs.length none = xs.length := rfl
  have hz := sizeLine_eq
  have c1 : cutV xs none (some (p : Int)) = xs.take p := by unfold cutV; rw [hs0, hs1]; simp
  have c2 : cutV xs (some ((p : Int) + 1)) none = xs.drop (p + 1) := by unfold cutV; rw [hs2, hs3, List.take_of_length_le (by simp)]
  have es : xs.set p v = (xs.take p ++ [v]) ++ xs.drop (p + 1) := by rw [List.set_eq_take_append_cons_drop, if_pos hp]; simp
  refine ⟨fun y H' => ∃ q, y = .ref q ∧ Same H H' ∧ TF H' q (xs.take p ++ [v]), ?_, ?_⟩
  · refine ⟨_, rfl, _, rfl, _, rfl, a, xs, rfl, ha, fun z => ?_, fun _ q1 n1 => ?_⟩
    · rw [hs1] at z; omega
    rw [c1]
    have g1 := same_new n1 (.tup (xs.take p))
    refine ⟨_, rfl, (by show 1 ≤ sizeLine; omega), fun q2 o2 n2 d2 => ?_⟩
    have g2 := same_new n2 (.frz o2 (.tup [v]))
    refine ⟨q1, q2, _, _, rfl, rfl, .of (g2 _ _ upd_same), TF.sq ⟨o2, upd_same, d2⟩, ?_, ?_, ?_, ?_⟩
    · simp; omega
    · intro z
      exact ⟨q2, rfl, g1.trans g2, o2, by rw [upd_same, z]; rfl, d2⟩
    · intro _ z; cases z
    · intro z _ q3 o3 n3 d3
      exact ⟨q3, rfl, (g1.trans g2).trans (same_new n3 _), o3, upd_same, d3⟩
  · rintro y H1 ⟨q, rfl, g, hq⟩
    refine ⟨_, rfl, _, rfl, _, _, rfl, rfl, _, rfl, a, xs, rfl, ha.ext g, fun z => ?_, fun _ q1 n1 => ?_⟩
    · rw [hs2] at z; omega
    rw [c2]
    have g1 := same_new n1 (.tup (xs.drop (p + 1)))
    refine ⟨q, q1, _, _, rfl, rfl, ((TK.of g1).f hq).sq, .of upd_same, ?_, ?_, ?_, ?_⟩
    · simp; omega
    · intro z; simp at z
    · intro _ z
      rw [z, List.append_nil] at es
      exact k q _ (g.trans g1) (by rw [es]; exact (TK.of g1).f hq)
    · intro _ _ q3 o3 n3 d3
      exact k q3 _ ((g.trans g1).trans (same_new n3 _)) ⟨o3, by rw [upd_same, es], d3⟩
abbrev s_is_small_within : Stmt := top 18
theorem sc_is_small_within : FnScope ["value", "deep", "thing"] ["value", "deep"] (defScope s_is_small_within) := ⟨rfl, rfl, rfl, by decide +kernel, rfl, by decide +kernel, by decide +kernel⟩
theorem ok_small_within {n : Nat} (F : Fun K "is_small_within" "is_small_within" s_is_small_within f fd) (T : PTx mg) (G_is_whole : Fd P w K mg base CX0 "is_whole" 1 ["value"] spIsWhole) (G_is_small_within : Fd P w K mg base CX0 "is_small_within" (n + 1) ["value", "deep"] (spSmW n)) : FnOk P w K mg base CX0 (n + 2) f fd ["value", "deep"] (spSmW (n + 1)) := by
  refine F.ok sc_is_small_within (fun vs H Q E h => ?_) (fun cdv A outer s H vs Q E hr h => ?_)
  · obtain ⟨v, d, m, deep, rfl, _⟩ := h
    rfl
  obtain ⟨v, d, m, deep, rfl, hv, ho, hm, hd, k⟩ := h
  have hr1 : Room 1 _ := hr.mono (by omega)
  refine ⟨_, (pss_cons (ps_if (pt_val (pe_callB call_isi rfl T.isinstance (by decide +kernel) (pa_cons (pv 0) (pa_cons (pe_bltn (v := .ty "tuple") rfl T.tuple boot_tuple rfl) pa_nil)))) (pss_cons (ps_if (PW.pt (pw_or (pt_cmpR op_eq (pv 1) pe_int (nomark _)) (pw_or1 (pt_cmpR op_gt (pe_callB call_len rfl T.len (by decide +kernel) (pa_cons (pv 0) pa_nil)) (pe_cI T.c_MOST_ENTRIES) (nomark _))))) (pss_one (ps_ret pe_bl)) pss_nil)
  (pss_one (ps_ret (pe_callB (cr_all rfl) rfl T.all (by decide +kernel) (pa_cons (pe_lc (own := [("thing", 2)]) (g := (gName 2)) (tt := tYes) rfl sc_is_small_within.nd (pi_tup (pv 0)) (blkOk_by (own := [("thing", 2)]) (N := ["value", "deep", "thing"]) (sc := defScope s_is_small_within) (by decide +kernel)) (fun _ _ _ _ _ => (pg_name (i := 2) sc_is_small_within.nd rfl (Or.inl rfl))) (fun _ _ _ _ _ => pts_nil) (fun _ _ _ _ _ => (pe_fd G_is_small_within hr rfl (pa_cons (pv 2) (pa_cons (pe_op op_sub (pv 1) pe_int) pa_nil))))) pa_nil))))) pss_nil)
  (pss_one (ps_ret (pe_or (pe_cmpR op_isN (pv 0) pe_non (nomark _)) (pe_one (pe_and (pe_fd G_is_whole hr1 rfl (pa_cons (pv 0) pa_nil)) (pe_one (pe_chain op_le op_le (pe_un un_neg (pe_cI T.c_MOST_INTEGER)) (pv 0) (pe_cI T.c_MOST_INTEGER))))))))), ?_⟩
  cases hv with
  | non =>
    refine ⟨_, rfl, _, _, _, _, false, rfl, .ty "tuple", .base .non, by first | rfl | decide +kernel | kernel_rfl, _, rfl, iteF ?_⟩
    exact ⟨_, rfl, rfl, _, rfl, iteT (k H (Same.refl _))⟩
  | int i =>
    have hi : -9999 ≤ i ∧ i ≤ 9999 := by cases ho with | int a b => exact ⟨a, b⟩
    refine ⟨_, rfl, _, _, _, _, false, rfl, .ty "tuple", .base (.int i), by first | rfl | decide +kernel | kernel_rfl, _, rfl, iteF ?_⟩
    refine ⟨_, rfl, rfl, _, rfl, iteF ⟨_, rfl, i, rfl, _, rfl, iteT ?_⟩⟩
    refine ⟨_, rfl, _, rfl, _, _, rfl, rfl, _, rfl, ite_yes (decide_eq_true hi.1) ⟨_, _, rfl, rfl, ?_⟩⟩
    show Q (.bl (decide (i ≤ 9999))) H
    rw [decide_eq_true hi.2]
    exact k H (Same.refl _)
  | @tup a xs ds ha hxs =>
    obtain ⟨m', rfl, hds, hlen⟩ : ∃ m', m = m' + 1 ∧ (∀ d ∈ ds, VOk m' d) ∧ ds.length ≤ 3 := by cases ho with | tup a b => exact ⟨_, rfl, a, b⟩
    have hl3 : xs.length ≤ 3 := by rw [hxs.len]; exact hlen
    refine ⟨_, rfl, _, _, _, _, true, rfl, .ty "tuple", .base (.tup ha), by first | rfl | decide +kernel | kernel_rfl, _, rfl, iteT ?_⟩
    refine ⟨_, rfl, rfl, _, rfl, ite_no (decide_eq_false (fun z => by injection z with z; omega)) ?_⟩
    refine ⟨_, rfl, _, xs.length, rfl, .inr ⟨xs, .of ha, rfl⟩, _, _, rfl, rfl, _, rfl, ite_no (decide_eq_false (by omega)) ?_⟩
    refine ⟨_, rfl, a, rfl, ⟨_, .of ha⟩, fun D hD => ?_⟩
    refine lc_tup (K := K) (a := a) (xs := xs) (fun i H' => Same H H' ∧ H' D = some (.lst ((List.replicate i true).map V.bl))) ⟨same_new hD _, upd_same⟩ (fun i H' _ z => .of (z.1 _ _ ha)) ?_ ?_
    · rintro i x H2 hx ⟨g2, hD2⟩
      obtain ⟨it, hit, hI⟩ := hxs.get hx
      refine ⟨rfl, _, rfl, _, rfl, _, _, rfl, rfl, x, it, m', _, rfl, hI.mono (.of g2), hds it (List.mem_of_getElem? hit), by omega, by omega, fun H3 g3 => ?_⟩
      refine ⟨_, g3 _ _ hD2, szt (by rw [List.length_map, List.length_replicate]; have := get_lt hx; omega), fun b o q => ?_, ?_⟩
      · rw [upd_ne (ne_of_none q hD)]
        exact g3 _ _ (g2 b o q)
      · rw [upd_same, List.replicate_succ', List.map_append]; rfl
    · rintro H2 ⟨g2, hD2⟩
      refine ⟨D, List.replicate xs.length true, rfl, .of hD2, ?_⟩
      rw [show (List.replicate xs.length true).all id = true by simp]
      exact k _ g2
theorem all_small (F : Fun K "is_small_within" "is_small_within" s_is_small_within f fd) (b : Binds K fd ["value", "deep"] []) (m : mg "is_small_within" = some (.ref f)) (T : PTx mg) (G_is_whole : Fd P w K mg base CX0 "is_whole" 1 ["value"] spIsWhole) : ∀ n : Nat, Fd P w K mg base CX0 "is_small_within" (n + 1) ["value", "deep"] (spSmW n)
  | 0 => ⟨f, fd, m, F.kp, b, (none0 (fun vs H Q E h => by obtain ⟨v, d, m, deep, _, _, _, h, _⟩ := h; omega)).mono (Nat.zero_le _)⟩
  | n + 1 => ⟨f, fd, m, F.kp, b, ok_small_within F T G_is_whole (all_small F b m T G_is_whole n)⟩
abbrev s_is_small_value : Stmt := top 17
theorem sc_is_small_value : FnScope ["value"] ["value"] (defScope s_is_small_value) := ⟨rfl, rfl, rfl, by decide +kernel, rfl, by decide +kernel, by decide +kernel⟩
theorem ok_small_value (F : Fun K "is_small_value" "is_small_value" s_is_small_value f fd) (T : PTx mg) (G_is_small_within : Fd P w K mg base CX0 "is_small_within" 6 ["value", "deep"] (spSmW 5)) : FnOk P w K mg base CX0 7 f fd ["value"] spSmall := by
  refine F.ok sc_is_small_value (fun vs H Q E h => ?_) (fun cdv A outer s H vs Q E hr h => ?_)
  · obtain ⟨v, rfl, _⟩ := h
    rfl
  obtain ⟨v, rfl, ⟨d, hv, ho⟩, k⟩ := h
  refine ⟨_, (pss_one (ps_ret (pe_fd G_is_small_within (hr.mono (by first | decide | omega)) rfl (pa_cons (pv 0) (pa_cons (pe_cI T.c_MOST_DEEP) pa_nil))))), ?_⟩
  exact ⟨_, rfl, v, d, 3, 12, rfl, hv, ho, by decide, by decide, k⟩
abbrev s_Door_init : Stmt := inClass (top 21) 0
theorem sc_Door_init : FnScope ["self", "many"] ["self", "many"] (defScope s_Door_init) := ⟨rfl, rfl, rfl, by decide +kernel, rfl, by decide +kernel, by decide +kernel⟩
theorem ok_Door_init (F : Fun K "__init__" "Door.__init__" s_Door_init f fd) (T : PTx mg) (hC : DC K C) (G_is_whole : Fd P w K mg base CX0 "is_whole" 1 ["value"] spIsWhole) : FnOk P w K mg base CX0 2 f fd ["self", "many"] (spDInit C) := by
  refine F.ok sc_Door_init (fun vs H Q E h => ?_) (fun cdv A outer s H vs Q E hr h => ?_)
  · obtain ⟨d, dx, n, rfl, _⟩ := h
    rfl
  obtain ⟨d, dx, n, rfl, h1, h5, hd, hx, k⟩ := h
  refine ⟨_, (pss_cons (ps_if (PW.pt (pw_or (pt_not (pt_val (pe_fd G_is_whole (hr.mono (by first | decide | omega)) rfl (pa_cons (pv 1) pa_nil)))) (pw_or1 (pt_not (pt_chain op_le op_le pe_int (pv 1) (pe_cI T.c_MOST_PLAYERS)))))) (pss_one (ps_no)) pss_nil)
  (pss_cons (ps_fld (pv 0) (pv 1) rfl)
  (pss_cons (ps_fld (pv 0) (pe_op op_repF (pe_tupF (pa_cons pe_non pa_nil)) (pv 1)) rfl)
  (pss_cons (ps_fld (pv 0) (pe_op op_repF (pe_tupF (pa_cons pe_non pa_nil)) (pv 1)) rfl)
  (pss_cons (ps_fld (pv 0) (pe_op op_repF (pe_tupF (pa_cons pe_non pa_nil)) (pv 1)) rfl)
  (pss_cons (ps_fld (pv 0) (pe_op op_repF (pe_tupF (pa_cons pe_non pa_nil)) (pv 1)) rfl)
  (pss_one (ps_fld (pv 0) (pe_tup pa_nil) rfl)))))))), ?_⟩
  have hn : (1 : Int) ≤ n ∧ (n : Int) ≤ 5 := by omega
  refine ⟨_, rfl, n, rfl, _, rfl, iteF ⟨_, rfl, _, _, rfl, rfl, _, rfl, ite_yes (decide_eq_true hn.1) ⟨_, _, rfl, rfl, _, rfl, ?_⟩⟩⟩
  rw [decide_eq_true hn.2]
  refine iteF ?_
  have rep : ∀ (H1 : Hp) (σ : L2.St) (Q1 : V → Hp → Prop), σ[1]? = some (some (.int n)) → (∀ q H', Same H1 H' → TF H' q (List.replicate n .non) → Q1 (.ref q) H') → tOp (rRepF K) (tTupF (tCons (tC .non) tNil)) (tVar 1) σ H1 Q1 := by
    intro H1 σ Q1 hσ hq
    refine ⟨szl (by decide), fun t o nt dt => ⟨_, hσ, t, n, [.non], rfl, rfl, TF.sq ⟨o, upd_same, dt⟩, by simp, by omega, by omega, by decide, fun z => ?_, fun z p o2 np d2 => ?_⟩⟩
    · have : n = 1 := by omega
      subst this
      exact hq t _ (same_new nt _) ⟨o, upd_same, dt⟩
    · refine hq p _ ((same_new nt _).trans (same_new np _)) ⟨o2, ?_, d2⟩
      rw [upd_same]
      simp
  refine ⟨_, rfl, _, rfl, d, C, dx, [], rfl, hd, hC.cl, hC.nM, by decide, ?_⟩
  have b1 : But [d] H (upd H d (.ins C dx (putF "many" (.int n) []))) := (But.refl _ H).put (by simp)
  have x1 : upd H d (.ins C dx (putF "many" (.int n) [])) dx = some (.own d) := by
    rw [upd_ne (fun z => by rw [z, hd] at hx; cases hx)]; exact hx
  refine rep _ _ _ rfl fun a H2 g2 h2 => ?_
  refine ⟨_, rfl, d, C, dx, _, rfl, g2 _ _ upd_same, hC.cl, hC.nC, by show 1 < 1000; decide, ?_⟩
  have nx : dx ≠ d := fun z => by rw [z, hd] at hx; cases hx
  have b2 := (b1.trans (.of g2)).put (p := d) (o := .ins C dx (putF "came" (.ref a) (putF "many" (.int n) []))) (by simp)
  have ad : a ≠ d := fun z => by obtain ⟨o, z2, _⟩ := h2; have q := g2 _ _ upd_same; rw [← z, z2] at q; cases q
  refine rep _ _ _ rfl fun b H3 g3 h3 => ?_
  refine ⟨_, rfl, d, C, dx, _, rfl, g3 _ _ upd_same, hC.cl, hC.nL, by show 2 < 1000; decide, ?_⟩
  have b3 := (b2.trans (.of g3)).put (p := d) (o := .ins C dx (putF "levels" (.ref b) (putF "came" (.ref a) (putF "many" (.int n) [])))) (by simp)
  have bd : b ≠ d := fun z => by obtain ⟨o, z2, _⟩ := h3; have q := g3 _ _ upd_same; rw [← z, z2] at q; cases q
  refine rep _ _ _ rfl fun c H4 g4 h4 => ?_
  refine ⟨_, rfl, d, C, dx, _, rfl, g4 _ _ upd_same, hC.cl, hC.nH, by show 3 < 1000; decide, ?_⟩
  have b4 := (b3.trans (.of g4)).put (p := d) (o := .ins C dx (putF "heard" (.ref c) (putF "levels" (.ref b) (putF "came" (.ref a) (putF "many" (.int n) []))))) (by simp)
  have cd : c ≠ d := fun z => by obtain ⟨o, z2, _⟩ := h4; have q := g4 _ _ upd_same; rw [← z, z2] at q; cases q
  refine rep _ _ _ rfl fun e H5 g5 h5' => ?_
  refine ⟨_, rfl, d, C, dx, _, rfl, g5 _ _ upd_same, hC.cl, hC.nS, by show 4 < 1000; decide, ?_⟩
  have b5 := (b4.trans (.of g5)).put (p := d) (o := .ins C dx (putF "seen" (.ref e) (putF "heard" (.ref c) (putF "levels" (.ref b) (putF "came" (.ref a) (putF "many" (.int n) [])))))) (by simp)
  have ed : e ≠ d := fun z => by obtain ⟨o, z2, _⟩ := h5'; have q := g5 _ _ upd_same; rw [← z, z2] at q; cases q
  refine ⟨szl (by decide), fun f nf => ?_⟩
  have fd : f ≠ d := fun z => by rw [z, upd_same] at nf; cases nf
  refine ⟨_, rfl, d, C, dx, _, rfl, by rw [upd_ne (Ne.symm fd)]; exact upd_same, hC.cl, hC.nD, by show 5 < 1000; decide, ?_⟩
  have b6 := (b5.new (o := .tup []) nf).put (p := d) (o := .ins C dx (putF "deeds" (.ref f) (putF "seen" (.ref e) (putF "heard" (.ref c) (putF "levels" (.ref b) (putF "came" (.ref a) (putF "many" (.int n) []))))))) (by simp)
  rw [d_all] at b6 ⊢
  have kp : ∀ {q : Addr} {o : HO}, q ≠ d → H5 q = some o → upd (upd (upd H5 d (.ins C dx (putF "seen" (.ref e) (putF "heard" (.ref c) (putF "levels" (.ref b) (putF "came" (.ref a) (putF "many" (.int n) []))))))) f (.tup [])) d (.ins C dx (dfl n a b c e f)) q = some o := fun {q o} ne h => by
    rw [upd_ne ne, upd_ne (fun z => by rw [z] at h; rw [upd_ne fd, h] at nf; cases nf), upd_ne ne]; exact h
  have k4 : ∀ {q : Addr} {o : HO}, q ≠ d → H4 q = some o → H5 q = some o := fun {q o} ne h => g5 _ _ (by rw [upd_ne ne]; exact h)
  have k3 : ∀ {q : Addr} {o : HO}, q ≠ d → H3 q = some o → H4 q = some o := fun {q o} ne h => g4 _ _ (by rw [upd_ne ne]; exact h)
  have k2 : ∀ {q : Addr} {o : HO}, q ≠ d → H2 q = some o → H3 q = some o := fun {q o} ne h => g3 _ _ (by rw [upd_ne ne]; exact h)
  have tf : ∀ {q : Addr} {xs : List V} {Ha Hb : Hp}, q ≠ d → TF Ha q xs → (∀ {o}, Ha q = some o → Hb q = some o) → TF Hb q xs := fun _ ⟨o, h, z⟩ f => ⟨o, f h, z⟩
  have rp : ∀ {β : Type} {F : V → Option β → Prop}, F .non none → Paired F (List.replicate n .non) (List.replicate n (none : Option β)) := fun h => pr_rep h n
  refine k _ b6 ⟨dx, a, b, c, e, f, List.replicate n .non, List.replicate n .non, List.replicate n .non, [], ?_⟩
  refine ⟨?_, ?_, tf ad h2 fun h => kp ad (k4 ad (k3 ad (k2 ad h))), rp rfl, ?_, tf cd h4 fun h => kp cd (k4 cd h), rp rfl, tf ed h5' fun h => kp ed h, rp rfl, ?_, .nil, fun p v hv => ?_, DS.WF.new h1 h5⟩
  · rw [upd_same]; show _ = some (HO.ins C dx (dfl ((List.replicate n (none : Lv)).length : Nat) a b c e f)); rw [List.length_replicate]
  · exact kp nx (k4 nx (k3 nx (k2 nx (g2 _ _ x1))))
  · show TF _ b ((List.replicate n (none : Lv)).map lvV); rw [List.map_replicate]; exact tf bd h3 fun h => kp bd (k4 bd (k3 bd h))
  · rw [upd_ne fd]; exact upd_same
  · rw [DS.cm_new] at hv; cases hv
abbrev s_Door_check_player : Stmt := inClass (top 21) 7
theorem sc_Door_check_player : FnScope ["self", "player"] ["self", "player"] (defScope s_Door_check_player) := ⟨rfl, rfl, rfl, by decide +kernel, rfl, by decide +kernel, by decide +kernel⟩
theorem ok_Door_check_player (F : Fun K "check_player" "Door.check_player" s_Door_check_player f fd) (T : PTx mg) (hC : DC K C) (G_is_below : Fd P w K mg base CX0 "is_below" 2 ["value", "many"] spBelow) : FnOk P w K mg base CX0 3 f fd ["self", "player"] (spCheck C) := by
  refine F.ok sc_Door_check_player (fun vs H Q E h => ?_) (fun cdv A outer s H vs Q E hr h => ?_)
  · obtain ⟨d, p, s, rfl, _⟩ := h
    rfl
  obtain ⟨d, p, s, rfl, hD, hp, k⟩ := h
  refine ⟨_, (pss_one (ps_if (pt_not (pt_val (pe_fd G_is_below (hr.mono (by first | decide | omega)) rfl (pa_cons (pv 1) (pa_cons (pe_fld (pv 0) rfl) pa_nil))))) (pss_one (ps_no)) pss_nil)), ?_⟩
  obtain ⟨dx, a, b, c, e, f, cv, hv, sv, dv, D⟩ := hD
  refine ⟨_, rfl, _, rfl, d, C, dx, _, _, rfl, D.obj, hC.cl, hC.nM, d_many, _, _, rfl, _, rfl, ?_⟩
  rw [decide_eq_true (show (0 : Int) ≤ (p : Int) ∧ (p : Int) < (s.lev.length : Nat) by omega)]
  exact iteF k
abbrev s_Door_next : Stmt := inClass (top 21) 6
theorem sc_Door_next : FnScope ["self", "player"] ["self", "player"] (defScope s_Door_next) := ⟨rfl, rfl, rfl, by decide +kernel, rfl, by decide +kernel, by decide +kernel⟩
theorem ok_Door_next (F : Fun K "next" "Door.next" s_Door_next f fd) (T : PTx mg) (hC : DC K C) (M_check_player : Md P w K mg base CX0 C "check_player" 3 ["self", "player"] (spCheck C)) : FnOk P w K mg base CX0 4 f fd ["self", "player"] (spNext C) := by
  refine F.ok sc_Door_next (fun vs H Q E h => ?_) (fun cdv A outer s H vs Q E hr h => ?_)
  · obtain ⟨d, p, s, rfl, _⟩ := h
    rfl
  obtain ⟨d, p, s, rfl, hD, hp, k⟩ := h
  refine ⟨_, (pss_cons (ps_expr (pe_md (pv 0) hC.cl M_check_player (hr.mono (by first | decide | omega)) (pa_cons (pv 1) pa_nil)))
  (pss_cons (ps_if (pt_cmpR op_isN (pe_ix ix_tup (pe_fld (pv 0) rfl) (pv 1) (fun _ _ => rfl)) pe_non (nomark _)) (pss_one (ps_ret pe_non)) pss_nil)
  (pss_cons (ps_if (pt_cmpR op_in_seq (pe_ix ix_tup (pe_fld (pv 0) rfl) (pv 1) (fun _ _ => rfl)) (pe_tup (pa_cons pe_int (pa_cons pe_int pa_nil))) rfl) (pss_one (ps_ret pe_str)) pss_nil)
  (pss_cons (ps_if (PW.pt (pw_and (pt_cmpR op_eq (pe_ix ix_tup (pe_fld (pv 0) rfl) (pv 1) (fun _ _ => rfl)) pe_int (nomark _)) (pw_and1 (pt_cmpR op_isN (pe_ix ix_tup (pe_fld (pv 0) rfl) (pv 1) (fun _ _ => rfl)) pe_non (nomark _))))) (pss_one (ps_ret pe_str)) pss_nil)
  (pss_one (ps_ret pe_str)))))), ?_⟩
  have hD' := hD
  obtain ⟨dx, a, b, c, e, f, cv, hv, sv, dv, D⟩ := hD'
  have W := D.wf
  refine ⟨_, rfl, d, dx, _, rfl, D.obj, no_check, _, rfl, d, p, s, rfl, hD, hp, ?_⟩
  obtain ⟨xc, hxc, oc⟩ := pr_at D.cameP (W.acm hp)
  obtain ⟨xs, hxs, os⟩ := pr_at D.seenP (W.asn hp)
  refine ⟨_, rfl, d, C, dx, _, _, rfl, D.obj, hC.cl, hC.nC, d_came, _, rfl, a, cv, _, _, rfl, rfl, D.came.sq, atI_nat hxc, rfl, _, rfl, ?_⟩
  rw [oc.is]
  cases hc : s.cm p with
  | none =>
    have k' := k H (Same.refl _)
    unfold DS.next at k'
    rw [hc] at k'
    exact iteT k'
  | some v =>
    refine iteF ?_
    have flx : flatV (lvV (s.lv p)) = true := by cases s.lv p <;> rfl
    refine ⟨_, rfl, d, C, dx, _, _, rfl, D.obj, hC.cl, hC.nL, d_lev, _, rfl, b, _, _, _, rfl, rfl, D.lev.sq, atI_nat (alvV hp), szl (by decide), fun t nt => ⟨t, [.int 0, .int 2], rfl, .inr (.of upd_same), flx, rfl, _, rfl, ?_⟩⟩
    have g := same_new nt (.tup [.int 0, .int 2])
    have k' := k _ g
    unfold DS.next at k'
    rw [hc] at k'
    have D' := D.mono (.of g) (fun o q => g _ _ q) (by rw [g _ _ D.own]; exact D.own.symm)
    have ein : inV (lvV (s.lv p)) [.int 0, .int 2] = decide (s.lv p = some 0 ∨ s.lv p = some 2) := by
      cases s.lv p with
      | none => rfl
      | some x => show ((0 == x) || ((2 == x) || false)) = _; rw [Bool.or_false, Bool.eq_iff_iff]; simp; omega
    have es : scal (lvV (s.lv p)) (.int 1) = true := by cases s.lv p <;> rfl
    rw [ein]
    refine ite2 (fun cc => ?_) (fun cc => ?_)
    · have cc := of_decide_eq_true cc
      have e : s.stg p = 3 := DS.stg3.mpr (by rcases cc with z | z <;> exact ⟨_, z, by decide⟩)
      rw [e] at k'
      exact k'
    · have cc : ¬ (s.lv p = some 0 ∨ s.lv p = some 2) := of_decide_eq_false (by simpa using cc)
      refine ⟨_, rfl, d, C, dx, _, _, rfl, D'.obj, hC.cl, hC.nL, d_lev, _, rfl, b, _, _, _, rfl, rfl, D'.lev.sq, atI_nat (alvV hp), es, _, rfl, ?_⟩
      refine ite2 (fun c1 => ?_) (fun c1 => ?_)
      · have c1 : s.lv p = some 1 := by
          have c1 := of_decide_eq_true c1
          cases z : s.lv p with
          | none => rw [z] at c1; cases c1
          | some x => rw [z] at c1; injection c1 with c1; rw [c1]
        refine ⟨_, rfl, d, C, dx, _, _, rfl, D'.obj, hC.cl, hC.nS, d_seen, _, rfl, e, sv, _, _, rfl, rfl, D'.seen.sq, atI_nat hxs, rfl, _, rfl, ?_⟩
        rw [os.is]
        cases z : s.sn p with
        | none => rw [DS.stg1.mpr ⟨c1, z⟩] at k'; exact iteT k'
        | some l => rw [DS.stg2.mpr ⟨c1, by rw [z]; simp⟩] at k'; exact iteF k'
      · have c1 : s.lv p ≠ some 1 := fun z => c1 (by rw [z]; rfl)
        refine iteF ?_
        have e : s.lv p = none := by
          cases z : s.lv p with
          | none => rfl
          | some x =>
            rcases W.vals p x z with rfl | rfl | rfl
            · exact absurd (.inl z) cc
            · exact absurd z c1
            · exact absurd (.inr z) cc
        rw [DS.stg0.mpr e] at k'
        exact k'
abbrev s_Door_shows_level : Stmt := inClass (top 21) 8
theorem sc_Door_shows_level : FnScope ["self", "player", "level"] ["self", "player"] (defScope s_Door_shows_level) := ⟨rfl, rfl, rfl, by decide +kernel, rfl, by decide +kernel, by decide +kernel⟩
theorem ok_Door_shows_level (F : Fun K "shows_level" "Door.shows_level" s_Door_shows_level f fd) (hC : DC K C) (G_exchanged : Fd P w K mg base CX0 "exchanged" 1 ["row", "at", "thing"] (spExch K)) : FnOk P w K mg base CX0 2 f fd ["self", "player"] (spShows C) := by
  refine F.ok sc_Door_shows_level (fun vs H Q E h => ?_) (fun cdv A outer s H vs Q E hr h => ?_)
  · obtain ⟨d, p, s, rfl, _⟩ := h
    rfl
  obtain ⟨d, p, s, rfl, hD, hp, hs, hc, k⟩ := h
  refine ⟨_, (pss_cons (ps_set (i := 2) sc_Door_shows_level.nd rfl (Or.inl rfl) pe_int)
  (C8.pss_cut (ps_if (pt_cmpR op_notN (pe_ix ix_tup (pe_fld (pv 0) rfl) (pv 1) (fun _ _ => rfl)) pe_non (nomark _)) (pss_one (ps_set (i := 2) sc_Door_shows_level.nd rfl (Or.inl rfl) (pe_ifExp (pt_cmpR op_in_seq pe_int (pe_ix ix_tup (pe_fld (pv 0) rfl) (pv 1) (fun _ _ => rfl)) rfl) pe_int pe_int))) pss_nil)
  (pss_cons (ps_fld (pv 0) (pe_fd G_exchanged (hr.mono (by first | decide | omega)) rfl (pa_cons (pe_fld (pv 0) rfl) (pa_cons (pv 1) (pa_cons (pv 2) pa_nil)))) rfl)
  (pss_one (ps_ret (pe_tup (pa_cons pe_str (pa_cons (pv 2) pa_nil)))))))), ?_⟩
  obtain ⟨dx, a, b, c, e, f, cv, hv, sv, dv, D⟩ := hD
  have W := D.wf
  obtain ⟨xs, hxs, os⟩ := pr_at D.seenP (W.asn hp)
  have hn0 : s.stg p = 0 → s.sn p = none := fun z => by
    cases q : s.sn p with
    | none => rfl
    | some l => exact absurd (DS.stg0.mp z) (W.snv p (by rw [q]; simp))
  have stepL : ∀ x : Int, s.told p = .level x → s.step p = { s with deeds := (s.step p).deeds, lev := s.lev.set p (some x) } := fun x hx => by
    rcases hs with z | z
    · rw [DS.step0 z]; rw [DS.told0 z] at hx; injection hx with hx; rw [← hx]
    · rw [DS.step2 z]; rw [DS.told2 z] at hx; injection hx with hx; rw [← hx]
  refine ⟨fun σ H1 => ∃ x : Int, σ = [some (.ref d), some (.int p), some (.int x)] ∧ H1 = H ∧ s.told p = .level x, ?_, ?_⟩
  · refine ⟨_, rfl, d, C, dx, _, _, rfl, D.obj, hC.cl, hC.nS, d_seen, _, rfl, e, sv, _, _, rfl, rfl, D.seen.sq, atI_nat hxs, rfl, _, rfl, ?_⟩
    rw [os.is]
    cases z : s.sn p with
    | none =>
      refine iteF ⟨1, rfl, rfl, ?_⟩
      rcases hs with z' | z'
      · exact DS.told0 z'
      · exact absurd z (DS.stg2.mp z').2
    | some l =>
      have z2 : s.stg p = 2 := by
        rcases hs with z' | z'
        · rw [hn0 z'] at z; cases z
        · exact z'
      have tl : s.told p = .level (s.wr p) := DS.told2 z2
      rw [z] at os
      obtain ⟨q, rfl, hq⟩ := os
      refine iteT ⟨_, rfl, d, C, dx, _, _, rfl, D.obj, hC.cl, hC.nS, d_seen, _, rfl, e, sv, _, _, rfl, rfl, D.seen.sq, atI_nat hxs, q, _, rfl, .inr hq.sq, rfl, lv_flat l, _, rfl, ?_⟩
      have sw : s.saw p = decide (some 2 ∈ l) := by unfold DS.saw; rw [z]; rfl
      rw [show (if false = true then !inV (.int 2) (l.map lvV) else inV (.int 2) (l.map lvV)) = s.saw p by rw [sw, inV_lv]; rfl]
      refine ite2 (fun c => ⟨0, rfl, rfl, ?_⟩) (fun c => ⟨2, rfl, rfl, ?_⟩)
      · rw [tl]; unfold DS.wr; rw [if_pos c]
      · rw [tl]; unfold DS.wr; rw [if_neg c]
  · rintro σ H1 ⟨x, rfl, rfl, ht⟩
    refine ⟨_, rfl, d, C, dx, _, _, rfl, D.obj, hC.cl, hC.nL, d_lev, _, rfl, _, rfl, b, _, p, _, rfl, D.lev.sq, by rw [List.length_map]; exact hp, by rw [List.length_map]; have := W.n5; omega, fun q H2 g2 h2 => ?_⟩
    refine ⟨_, rfl, d, C, dx, _, rfl, g2 _ _ D.obj, hC.cl, hC.nL, by show 6 < 1000; decide, ?_⟩
    rw [dp_lev]
    have b3 := (But.of (S := [d]) g2).put (o := .ins C dx (dfl (s.lev.length : Nat) a q c e f)) (p := d) (by simp)
    refine ⟨_, rfl, szl (by show 2 ≤ _; decide), fun t nt => ?_⟩
    have tk : TK H1 (upd H2 d (.ins C dx (dfl (s.lev.length : Nat) a q c e f))) := (TK.of g2).trans (.put (g2 _ _ D.obj) fun z => z)
    have ndq : q ≠ d := fun z => by obtain ⟨o, z2, _⟩ := h2; have := g2 _ _ D.obj; rw [← z, z2] at this; cases this
    have h2' : TF (upd H2 d (.ins C dx (dfl (s.lev.length : Nat) a q c e f))) q ((s.lev.map lvV).set p (.int x)) := by obtain ⟨o, z2, z3⟩ := h2; exact ⟨o, by rw [upd_ne ndq]; exact z2, z3⟩
    have ndx : dx ≠ d := fun z => by have := D.obj; rw [← z, D.own] at this; cases this
    refine k t _ (b3.new nt) (by rw [ht]; exact upd_same) ?_
    have D2 : DoorIn C (upd H2 d (.ins C dx (dfl (s.lev.length : Nat) a q c e f))) d { s.step p with deeds := s.deeds } dx a q c e f cv hv sv dv := by
      have wf2 := W.step hc
      have es := stepL x ht
      have e1 : (s.step p).lev = s.lev.set p (some x) := by rw [es]
      have e2 : (s.step p).came = s.came := by rw [es]
      have e3 : (s.step p).heard = s.heard := by rw [es]
      have e4 : (s.step p).seen = s.seen := by rw [es]
      refine ⟨?_, ?_, tk.f D.came, ?_, ?_, tk.f D.heard, ?_, tk.f D.seen, ?_, tk.t D.deeds, pr_imp (fun _ _ => DeedAt.mono tk) D.deedsP, fun r v hv => (D.good r v (by rw [← DS.cm_step (p := p)]; exact hv)).mono tk, ⟨wf2.n1, wf2.n5, wf2.lc, wf2.lh, wf2.ls, wf2.vals, wf2.cmv, wf2.snv, wf2.lok, wf2.z2, wf2.s2⟩⟩
      · rw [upd_same]; show _ = some (HO.ins C dx (dfl ((s.step p).lev.length : Nat) a q c e f)); rw [DS.len_step]
      · rw [upd_ne ndx]; exact g2 _ _ D.own
      · show Paired _ cv (s.step p).came; rw [e2]; exact pr_imp (fun _ _ => One.mono tk) D.cameP
      · show TF _ q ((s.step p).lev.map lvV); rw [e1, List.map_set]; exact h2'
      · show Paired _ hv (s.step p).heard; rw [e3]; exact pr_imp (fun _ _ => One.mono tk) D.heardP
      · show Paired _ sv (s.step p).seen; rw [e4]; exact pr_imp (fun _ _ => SeenAt.mono tk) D.seenP
    exact DoorAt.same ⟨_, _, _, _, _, _, _, _, _, _, D2⟩ (same_new nt _)
abbrev s_Door_asks : Stmt := inClass (top 21) 9
theorem sc_Door_asks : FnScope ["self", "player", "word"] ["self", "player"] (defScope s_Door_asks) := ⟨rfl, rfl, rfl, by decide +kernel, rfl, by decide +kernel, by decide +kernel⟩
theorem ok_Door_asks (F : Fun K "asks" "Door.asks" s_Door_asks f fd) (hC : DC K C) (G_exchanged : Fd P w K mg base CX0 "exchanged" 1 ["row", "at", "thing"] (spExch K)) : FnOk P w K mg base CX0 2 f fd ["self", "player"] (spAsks C) := by
  refine F.ok sc_Door_asks (fun vs H Q E h => ?_) (fun cdv A outer s H vs Q E hr h => ?_)
  · obtain ⟨d, p, s, rfl, _⟩ := h
    rfl
  obtain ⟨d, p, s, rfl, hD, hp, hs, hc, k⟩ := h
  refine ⟨_, (pss_cons (ps_if (pt_cmpR op_in_seq pe_int (pe_fld (pv 0) rfl) rfl) (pss_one (ps_ret (pe_tup (pa_cons pe_str pa_nil)))) pss_nil)
  (pss_cons (ps_set (i := 2) sc_Door_asks.nd rfl (Or.inl rfl) (pe_ix ix_tup (pe_fld (pv 0) rfl) (pe_tindex (pe_fld (pv 0) rfl) pe_int) (fun _ _ => rfl)))
  (pss_cons (ps_fld (pv 0) (pe_fd G_exchanged (hr.mono (by first | decide | omega)) rfl (pa_cons (pe_fld (pv 0) rfl) (pa_cons (pv 1) (pa_cons (pv 2) pa_nil)))) rfl)
  (pss_one (ps_ret (pe_tup (pa_cons pe_str (pa_cons (pe_ix ix_tup (pv 2) pe_int (fun _ _ => rfl)) pa_nil)))))))), ?_⟩
  obtain ⟨dx, a, b, c, e, f, cv, hv, sv, dv, D⟩ := hD
  have W := D.wf
  refine ⟨_, rfl, d, C, dx, _, _, rfl, D.obj, hC.cl, hC.nL, d_lev, b, _, rfl, .inr D.lev.sq, rfl, lv_flat s.lev, _, rfl, ?_⟩
  rw [show (if false = true then !inV (.int 1) (s.lev.map lvV) else inV (.int 1) (s.lev.map lvV)) = decide (some 1 ∈ s.lev) by rw [inV_lv]; rfl]
  have et := DS.told3 hs
  have es := DS.step3 hs
  refine ite2 (fun z => ?_) (fun z => ?_)
  · have z := of_decide_eq_true z
    rw [if_pos z] at et es
    refine ⟨szl (by decide), fun t nt => ?_⟩
    refine k t _ (.of (same_new nt _)) (by rw [et]; exact upd_same) ?_
    rw [es]
    exact DoorAt.same ⟨_, _, _, _, _, _, _, _, _, _, D⟩ (same_new nt _)
  · have z : ¬ some 1 ∈ s.lev := of_decide_eq_false (by simpa using z)
    rw [if_neg z] at et es
    have h2 := DS.ask_two W hs
    obtain ⟨l1, l2, l3⟩ := DS.two_lev h2
    obtain ⟨v, hv2⟩ := DS.two_came W h2
    obtain ⟨xc, hxc, oc⟩ := pr_at D.cameP (W.acm l1)
    rw [hv2] at oc
    obtain ⟨q, rfl, hq⟩ := oc
    refine ⟨_, rfl, d, C, dx, _, _, rfl, D.obj, hC.cl, hC.nC, d_came, ?_⟩
    refine ⟨_, rfl, d, C, dx, _, _, rfl, D.obj, hC.cl, hC.nL, d_lev, ⟨b, _, rfl, D.lev⟩, b, _, s.two, lvV (s.lv s.two), rfl, D.lev.sq, rfl, lv_flat s.lev, alvV l1, by rw [eqV_lv, l2]; decide, fun m z' hm hz' => ?_, ?_⟩
    · rw [alvV (by omega)] at hz'
      cases hz'
      rw [eqV_lv]
      exact decide_eq_false (l3 m hm)
    refine ⟨a, cv, _, _, rfl, rfl, D.came.sq, atI_nat hxc, ?_⟩
    refine ⟨_, rfl, d, C, dx, _, _, rfl, D.obj, hC.cl, hC.nH, d_heard, _, rfl, _, rfl, c, hv, p, _, rfl, D.heard.sq, ?_, ?_, fun r H2 g2 h2r => ?_⟩
    · rw [pr_len D.heardP, W.lh]; exact hp
    · rw [pr_len D.heardP, W.lh]; have := W.n5; omega
    refine ⟨_, rfl, d, C, dx, _, rfl, g2 _ _ D.obj, hC.cl, hC.nH, by show 6 < 1000; decide, ?_⟩
    rw [dp_heard]
    have b3 := (But.of (S := [d]) g2).put (o := .ins C dx (dfl (s.lev.length : Nat) a b r e f)) (p := d) (by simp)
    have tk : TK H (upd H2 d (.ins C dx (dfl (s.lev.length : Nat) a b r e f))) := (TK.of g2).trans (.put (g2 _ _ D.obj) fun z => z)
    have ndr : r ≠ d := fun z => by obtain ⟨o, z2, _⟩ := h2r; have := g2 _ _ D.obj; rw [← z, z2] at this; cases this
    have ndx : dx ≠ d := fun z => by have := D.obj; rw [← z, D.own] at this; cases this
    have h2' : TF (upd H2 d (.ins C dx (dfl (s.lev.length : Nat) a b r e f))) r (hv.set p (.ref q)) := by obtain ⟨o, z2, z3⟩ := h2r; exact ⟨o, by rw [upd_ne ndr]; exact z2, z3⟩
    refine ⟨_, rfl, q, [v], _, _, rfl, rfl, .of (tk.t hq), atI_nat (j := 0) rfl, szl (by show 2 ≤ _; decide), fun t nt => ?_⟩
    refine k t _ (b3.new nt) (by rw [et, hv2]; exact upd_same) ?_
    have D2 : DoorIn C (upd H2 d (.ins C dx (dfl (s.lev.length : Nat) a b r e f))) d { s.step p with deeds := s.deeds } dx a b r e f cv (hv.set p (.ref q)) sv dv := by
      have wf2 := W.step hc
      have e1 : (s.step p).lev = s.lev := by rw [es]
      have e2 : (s.step p).came = s.came := by rw [es]
      have e3 : (s.step p).heard = s.heard.set p (some v) := by rw [es]; show s.heard.set p (s.cm s.two) = _; rw [hv2]
      have e4 : (s.step p).seen = s.seen := by rw [es]
      refine ⟨?_, ?_, tk.f D.came, ?_, ?_, h2', ?_, tk.f D.seen, ?_, tk.t D.deeds, pr_imp (fun _ _ => DeedAt.mono tk) D.deedsP, fun r v hv => (D.good r v (by rw [← DS.cm_step (p := p)]; exact hv)).mono tk, ⟨wf2.n1, wf2.n5, wf2.lc, wf2.lh, wf2.ls, wf2.vals, wf2.cmv, wf2.snv, wf2.lok, wf2.z2, wf2.s2⟩⟩
      · rw [upd_same]; show _ = some (HO.ins C dx (dfl ((s.step p).lev.length : Nat) a b r e f)); rw [DS.len_step]
      · rw [upd_ne ndx]; exact g2 _ _ D.own
      · show Paired _ cv (s.step p).came; rw [e2]; exact pr_imp (fun _ _ => One.mono tk) D.cameP
      · show TF _ b ((s.step p).lev.map lvV); rw [e1]; exact tk.f D.lev
      · show Paired _ (hv.set p (.ref q)) (s.step p).heard; rw [e3]; exact pr_set (show One _ (.ref q) (some v) from ⟨q, rfl, tk.t hq⟩) p (pr_imp (fun _ _ => One.mono tk) D.heardP)
      · show Paired _ sv (s.step p).seen; rw [e4]; exact pr_imp (fun _ _ => SeenAt.mono tk) D.seenP
    exact DoorAt.same ⟨_, _, _, _, _, _, _, _, _, _, D2⟩ (same_new nt _)
abbrev s_Door_step : Stmt := inClass (top 21) 5
theorem sc_Door_step : FnScope ["self", "player", "kind"] ["self", "player"] (defScope s_Door_step) := ⟨rfl, rfl, rfl, by decide +kernel, rfl, by decide +kernel, by decide +kernel⟩
theorem ok_Door_step (F : Fun K "step" "Door.step" s_Door_step f fd) (hC : DC K C) (G_exchanged : Fd P w K mg base CX0 "exchanged" 1 ["row", "at", "thing"] (spExch K)) (M_next : Md P w K mg base CX0 C "next" 4 ["self", "player"] (spNext C)) (M_shows_level : Md P w K mg base CX0 C "shows_level" 2 ["self", "player"] (spShows C)) (M_asks : Md P w K mg base CX0 C "asks" 2 ["self", "player"] (spAsks C)) : FnOk P w K mg base CX0 5 f fd ["self", "player"] (spStep C) := by
  refine F.ok sc_Door_step (fun vs H Q E h => ?_) (fun cdv A outer s H vs Q E hr h => ?_)
  · obtain ⟨d, p, s, rfl, _⟩ := h
    rfl
  obtain ⟨d, p, s, rfl, hD, hc, hdl, k⟩ := h
  refine ⟨_, (pss_cons (ps_set (i := 2) sc_Door_step.nd rfl (Or.inl rfl) (pe_md (pv 0) hC.cl M_next (hr.mono (by first | decide | omega)) (pa_cons (pv 1) pa_nil)))
  (pss_cons (ps_if (pt_cmpR op_isN (pv 2) pe_non (nomark _)) (pss_one (ps_no)) pss_nil)
  (pss_cons (ps_fld (pv 0) (pe_mid (pe_op op_catA (pe_fld (pv 0) rfl) (pe_tup (pa_cons (pe_tup (pa_cons pe_str (pa_cons (pv 1) (pa_cons (pv 2) pa_nil)))) pa_nil)))) rfl)
  (pss_cons (ps_if (pt_cmpR op_eq (pv 2) pe_str (nomark _)) (pss_one (ps_ret (pe_md (pv 0) hC.cl M_shows_level (hr.mono (by first | decide | omega)) (pa_cons (pv 1) pa_nil)))) pss_nil)
  (pss_cons (ps_if (pt_cmpR op_eq (pv 2) pe_str (nomark _)) (pss_cons (ps_fld (pv 0) (pe_fd G_exchanged (hr.mono (by first | decide | omega)) rfl (pa_cons (pe_fld (pv 0) rfl) (pa_cons (pv 1) (pa_cons (pe_fld (pv 0) rfl) pa_nil)))) rfl)
  (pss_one (ps_ret (pe_tup (pa_cons pe_str (pa_cons (pe_fld (pv 0) rfl) pa_nil)))))) pss_nil)
  (pss_one (ps_ret (pe_md (pv 0) hC.cl M_asks (hr.mono (by first | decide | omega)) (pa_cons (pv 1) pa_nil))))))))), ?_⟩
  have hD0 := hD
  obtain ⟨dx, a, b, c, e, f, cv, hv, sv, dv, D⟩ := hD0
  have W := D.wf
  have hp := DS.lt_of_cm W hc
  have en : s.next p = some (DS.kindOf (s.stg p)) := by unfold DS.next; rw [if_pos (by cases z : s.cm p with | none => exact absurd z hc | some v => rfl)]
  refine ⟨_, rfl, d, dx, _, rfl, D.obj, no_next, _, rfl, d, p, s, rfl, hD, hp, fun H1 g1 => ?_⟩
  rw [en]
  refine ⟨_, rfl, rfl, _, rfl, iteF ?_⟩
  have D1 := D.mono (.of g1) (fun o q => g1 _ _ q) (by rw [g1 _ _ D.own]; exact D.own.symm)
  refine ⟨fun y H' => ∃ q t1, y = .ref q ∧ Same H1 H' ∧ H' q = some (.tup (dv ++ [.ref t1])) ∧ H' t1 = some (.tup [.str "step", .int p, .str (DS.kindOf (s.stg p))]), ?_, ?_⟩
  · refine ⟨_, rfl, d, C, dx, _, _, rfl, D1.obj, hC.cl, hC.nD, d_deeds, _, rfl, _, rfl, szl (by show 3 ≤ _; decide), fun t1 n1 => ?_⟩
    refine ⟨szl (by show 1 ≤ _; decide), fun t2 n2 => ?_⟩
    have ga := same_new n1 (.tup [.str "step", .int p, .str (DS.kindOf (s.stg p))])
    have gb := same_new n2 (.tup [.ref t1])
    have h1 := gb _ _ (show upd H1 t1 (.tup [.str "step", .int p, .str (DS.kindOf (s.stg p))]) t1 = _ from upd_same)
    refine ⟨f, t2, dv, _, rfl, rfl, .of (gb _ _ (ga _ _ D1.deeds)), .of upd_same, ?_, fun z => ?_, fun _ z => ?_, fun _ _ q nq => ?_⟩
    · rw [pr_len D1.deedsP]; exact szl (by show s.deeds.length + 1 ≤ _; omega)
    · exact ⟨t2, t1, rfl, ga.trans gb, by rw [z]; exact upd_same, h1⟩
    · cases z
    · exact ⟨q, t1, rfl, (ga.trans gb).trans (same_new nq _), upd_same, same_new nq _ _ _ h1⟩
  rintro y H2 ⟨f2, t1, rfl, g2, hf2, ht1⟩
  refine ⟨_, rfl, d, C, dx, _, rfl, g2 _ _ D1.obj, hC.cl, hC.nD, by show 6 < 1000; decide, ?_⟩
  rw [dp_deeds]
  have b3 := (But.of (S := [d]) (g1.trans g2)).put (o := .ins C dx (dfl (s.lev.length : Nat) a b c e f2)) (p := d) (by simp)
  have ndx : dx ≠ d := fun z => by have := D.obj; rw [← z, D.own] at this; cases this
  have tk : TK H1 (upd H2 d (.ins C dx (dfl (s.lev.length : Nat) a b c e f2))) := (TK.of g2).trans (.put (g2 _ _ D1.obj) fun z => z)
  have ne : ∀ {q : Addr} {xs : List V}, H2 q = some (.tup xs) → q ≠ d := fun h z => by have := g2 _ _ D1.obj; rw [← z, h] at this; cases this
  have D3 : DoorIn C (upd H2 d (.ins C dx (dfl (s.lev.length : Nat) a b c e f2))) d (s.log p) dx a b c e f2 cv hv sv (dv ++ [.ref t1]) := by
    refine ⟨upd_same, by rw [upd_ne ndx]; exact g2 _ _ D1.own, tk.f D1.came, pr_imp (fun _ _ => One.mono tk) D1.cameP, tk.f D1.lev, tk.f D1.heard, pr_imp (fun _ _ => One.mono tk) D1.heardP, tk.f D1.seen, pr_imp (fun _ _ => SeenAt.mono tk) D1.seenP, by rw [upd_ne (ne hf2)]; exact hf2, ?_, fun r v hv => (D1.good r v hv).mono tk, W.log⟩
    exact pr_snoc ⟨t1, rfl, by rw [upd_ne (ne ht1)]; exact ht1⟩ (pr_imp (fun _ _ => DeedAt.mono tk) D1.deedsP)
  have els := DS.log_step s p
  have e0 : (s.log p).stg p = s.stg p := rfl
  have hk4 := DS.stg_lt s p
  have done : ∀ t H', But [d] (upd H2 d (.ins C dx (dfl (s.lev.length : Nat) a b c e f2))) H' → ToldAt H' t ((s.log p).told p) → DoorAt C H' d { (s.log p).step p with deeds := (s.log p).deeds } → Q (.ref t) H' := fun t H' gg ht hD => by
    rw [els] at hD
    exact k t H' (b3.trans gg) ht hD
  refine ⟨_, rfl, rfl, _, rfl, ?_⟩
  rcases (show s.stg p = 0 ∨ s.stg p = 1 ∨ s.stg p = 2 ∨ s.stg p = 3 by omega) with z | z | z | z
  · refine ite_yes (by rw [z]; decide +kernel) ⟨_, rfl, d, dx, _, rfl, D3.obj, no_shows, _, rfl, d, p, _, rfl, ⟨_, _, _, _, _, _, _, _, _, _, D3⟩, hp, .inl z, hc, done⟩
  · refine ite_no (by rw [z]; decide +kernel) ⟨_, rfl, rfl, _, rfl, ite_yes (by rw [z]; decide +kernel) ?_⟩
    have hlen : sv.length = s.lev.length := by rw [pr_len D3.seenP]; exact W.ls
    refine ⟨_, rfl, d, C, dx, _, _, rfl, D3.obj, hC.cl, hC.nS, d_seen, _, rfl, _, rfl, d, C, dx, _, _, rfl, D3.obj, hC.cl, hC.nL, d_lev, e, sv, p, _, rfl, D3.seen.sq, by rw [hlen]; exact hp, by rw [hlen]; have := W.n5; omega, fun r H4 g4 h4 => ?_⟩
    refine ⟨_, rfl, d, C, dx, _, rfl, g4 _ _ D3.obj, hC.cl, hC.nS, by show 6 < 1000; decide, ?_⟩
    rw [dp_seen]
    have tk4 : TK _ (upd H4 d (.ins C dx (dfl (s.lev.length : Nat) a b c r f2))) := (TK.of g4).trans (.put (g4 _ _ D3.obj) fun z => z)
    have ndr : r ≠ d := fun z => by obtain ⟨o, z2, _⟩ := h4; have := g4 _ _ D3.obj; rw [← z, z2] at this; cases this
    have h4' : TF (upd H4 d (.ins C dx (dfl (s.lev.length : Nat) a b c r f2))) r (sv.set p (.ref b)) := by obtain ⟨o, z2, z3⟩ := h4; exact ⟨o, by rw [upd_ne ndr]; exact z2, z3⟩
    have b5 := (But.of (S := [d]) g4).put (o := .ins C dx (dfl (s.lev.length : Nat) a b c r f2)) (p := d) (by simp)
    refine ⟨_, rfl, d, C, dx, _, _, rfl, upd_same, hC.cl, hC.nL, d_lev, szl (by show 2 ≤ _; decide), fun t nt => ?_⟩
    have hlb : TF (upd H4 d (.ins C dx (dfl (s.lev.length : Nat) a b c r f2))) b (s.lev.map lvV) := tk4.f D3.lev
    refine done t _ (b5.new nt) (by rw [DS.told1 (s := s.log p) z]; exact ⟨b, upd_same, .inr ((TK.of (same_new nt _)).f hlb)⟩) (DoorAt.same ⟨dx, a, b, c, r, f2, cv, hv, sv.set p (.ref b), dv ++ [.ref t1], ?_⟩ (same_new nt _))
    have wf2 := (W.log (p := p)).step (p := p) hc
    have es := DS.step1 (s := s.log p) z
    have e4 : ((s.log p).step p).seen = s.seen.set p (some s.lev) := by rw [es]; rfl
    have e1 : ((s.log p).step p).lev = s.lev := by rw [es]; rfl
    have e2 : ((s.log p).step p).came = s.came := by rw [es]; rfl
    have e3 : ((s.log p).step p).heard = s.heard := by rw [es]; rfl
    refine ⟨?_, by rw [upd_ne ndx]; exact g4 _ _ D3.own, tk4.f D3.came, ?_, ?_, tk4.f D3.heard, ?_, h4', ?_, tk4.t D3.deeds, pr_imp (fun _ _ => DeedAt.mono tk4) D3.deedsP, fun r v hv => (D3.good r v (by rw [← DS.cm_step (p := p)]; exact hv)).mono tk4, ⟨wf2.n1, wf2.n5, wf2.lc, wf2.lh, wf2.ls, wf2.vals, wf2.cmv, wf2.snv, wf2.lok, wf2.z2, wf2.s2⟩⟩
    · rw [upd_same]; show _ = some (HO.ins C dx (dfl (((s.log p).step p).lev.length : Nat) a b c r f2)); rw [e1]; rfl
    · show Paired _ cv ((s.log p).step p).came; rw [e2]; exact pr_imp (fun _ _ => One.mono tk4) D3.cameP
    · show TF _ b (((s.log p).step p).lev.map lvV); rw [e1]; exact hlb
    · show Paired _ hv ((s.log p).step p).heard; rw [e3]; exact pr_imp (fun _ _ => One.mono tk4) D3.heardP
    · show Paired _ (sv.set p (.ref b)) ((s.log p).step p).seen; rw [e4]; exact pr_set (show SeenAt _ (.ref b) (some s.lev) from ⟨b, rfl, hlb⟩) p (pr_imp (fun _ _ => SeenAt.mono tk4) D3.seenP)
  · refine ite_yes (by rw [z]; decide +kernel) ⟨_, rfl, d, dx, _, rfl, D3.obj, no_shows, _, rfl, d, p, _, rfl, ⟨_, _, _, _, _, _, _, _, _, _, D3⟩, hp, .inr z, hc, done⟩
  · refine ite_no (by rw [z]; decide +kernel) ⟨_, rfl, rfl, _, rfl, ite_no (by rw [z]; decide +kernel) ?_⟩
    exact ⟨_, rfl, d, dx, _, rfl, D3.obj, no_asks, _, rfl, d, p, _, rfl, ⟨_, _, _, _, _, _, _, _, _, _, D3⟩, hp, z, hc, done⟩
abbrev s_Door_come : Stmt := inClass (top 21) 4
theorem sc_Door_come : FnScope ["self", "player", "value"] ["self", "player", "value"] (defScope s_Door_come) := ⟨rfl, rfl, rfl, by decide +kernel, rfl, by decide +kernel, by decide +kernel⟩
theorem ok_Door_come (F : Fun K "come" "Door.come" s_Door_come f fd) (hC : DC K C) (G_exchanged : Fd P w K mg base CX0 "exchanged" 1 ["row", "at", "thing"] (spExch K)) (G_is_small_value : Fd P w K mg base CX0 "is_small_value" 7 ["value"] spSmall) (M_check_player : Md P w K mg base CX0 C "check_player" 3 ["self", "player"] (spCheck C)) : FnOk P w K mg base CX0 8 f fd ["self", "player", "value"] (spCome C) := by
  refine F.ok sc_Door_come (fun vs H Q E h => ?_) (fun cdv A outer s H vs Q E hr h => ?_)
  · obtain ⟨d, p, v, s, rfl, _⟩ := h
    rfl
  obtain ⟨d, p, v, s, rfl, hD, hp, hc, hg, hdl, k⟩ := h
  refine ⟨_, (pss_cons (ps_expr (pe_md (pv 0) hC.cl M_check_player (hr.mono (by first | decide | omega)) (pa_cons (pv 1) pa_nil)))
  (pss_cons (ps_if (pt_not (pt_val (pe_fd G_is_small_value (hr.mono (by first | decide | omega)) rfl (pa_cons (pv 2) pa_nil)))) (pss_one (ps_no)) pss_nil)
  (pss_cons (ps_if (pt_cmpR op_notN (pe_ix ix_tup (pe_fld (pv 0) rfl) (pv 1) (fun _ _ => rfl)) pe_non (nomark _)) (pss_one (ps_no)) pss_nil)
  (pss_cons (ps_fld (pv 0) (pe_fd G_exchanged (hr.mono (by first | decide | omega)) rfl (pa_cons (pe_fld (pv 0) rfl) (pa_cons (pv 1) (pa_cons (pe_tup (pa_cons (pv 2) pa_nil)) pa_nil)))) rfl)
  (pss_one (ps_fld (pv 0) (pe_mid (pe_op op_catA (pe_fld (pv 0) rfl) (pe_tup (pa_cons (pe_tup (pa_cons pe_str (pa_cons (pv 1) (pa_cons (pv 2) pa_nil)))) pa_nil)))) rfl)))))), ?_⟩
  have hD0 := hD
  obtain ⟨dx, a, b, c, e, f, cv, hv, sv, dv, D⟩ := hD0
  have W := D.wf
  refine ⟨_, rfl, d, dx, _, rfl, D.obj, no_check, _, rfl, d, p, s, rfl, hD, hp, ?_⟩
  refine ⟨_, rfl, v, rfl, hg, fun H1 g1 => ⟨_, rfl, iteF ?_⟩⟩
  have D1 := D.mono (.of g1) (fun o q => g1 _ _ q) (by rw [g1 _ _ D.own]; exact D.own.symm)
  obtain ⟨xc, hxc, oc⟩ := pr_at D1.cameP (W.acm hp)
  refine ⟨_, rfl, d, C, dx, _, _, rfl, D1.obj, hC.cl, hC.nC, d_came, _, rfl, a, cv, _, _, rfl, rfl, D1.came.sq, atI_nat hxc, rfl, _, rfl, ?_⟩
  rw [oc.is, hc]
  refine iteF ?_
  have hlen : cv.length = s.lev.length := by rw [pr_len D1.cameP, W.lc]
  refine ⟨_, rfl, d, C, dx, _, _, rfl, D1.obj, hC.cl, hC.nC, d_came, _, rfl, _, rfl, szl (by show 1 ≤ _; decide), fun t0 n0 => ?_⟩
  have g0 := same_new n0 (.tup [v])
  refine ⟨a, cv, p, _, rfl, D1.came.sq.ext g0, by rw [hlen]; exact hp, by rw [hlen]; have := W.n5; omega, fun r H2 g2 h2 => ?_⟩
  refine ⟨_, rfl, d, C, dx, _, rfl, g2 _ _ (g0 _ _ D1.obj), hC.cl, hC.nC, by show 6 < 1000; decide, ?_⟩
  rw [dp_came]
  have hobj2 := g2 _ _ (g0 _ _ D1.obj)
  have ndx : dx ≠ d := fun z => by have := D.obj; rw [← z, D.own] at this; cases this
  have ndr : r ≠ d := fun z => by obtain ⟨o, z2, _⟩ := h2; rw [← z, z2] at hobj2; cases hobj2
  have tk : TK H1 (upd H2 d (.ins C dx (dfl (s.lev.length : Nat) r b c e f))) := ((TK.of g0).trans (TK.of g2)).trans (.put hobj2 fun z => z)
  have b3 := (But.of (S := [d]) ((g1.trans g0).trans g2)).put (o := .ins C dx (dfl (s.lev.length : Nat) r b c e f)) (p := d) (by simp)
  have h2' : TF (upd H2 d (.ins C dx (dfl (s.lev.length : Nat) r b c e f))) r (cv.set p (.ref t0)) := by obtain ⟨o, z2, z3⟩ := h2; exact ⟨o, by rw [upd_ne ndr]; exact z2, z3⟩
  have ht0 : H2 t0 = some (.tup [v]) := g2 _ _ upd_same
  have ht0' : upd H2 d (.ins C dx (dfl (s.lev.length : Nat) r b c e f)) t0 = some (.tup [v]) := by rw [upd_ne (fun z => by rw [z, hobj2] at ht0; cases ht0)]; exact ht0
  refine ⟨fun y H' => ∃ q t1, y = .ref q ∧ Same (upd H2 d (.ins C dx (dfl (s.lev.length : Nat) r b c e f))) H' ∧ H' q = some (.tup (dv ++ [.ref t1])) ∧ H' t1 = some (.tup [.str "come", .int p, v]), ?_, ?_⟩
  · refine ⟨_, rfl, d, C, dx, _, _, rfl, upd_same, hC.cl, hC.nD, d_deeds, _, rfl, _, rfl, szl (by show 3 ≤ _; decide), fun t1 n1 => ?_⟩
    refine ⟨szl (by show 1 ≤ _; decide), fun t2 n2 => ?_⟩
    have ga := same_new n1 (.tup [.str "come", .int p, v])
    have gb := same_new n2 (.tup [.ref t1])
    have h1 := gb _ _ (show upd (upd H2 d (.ins C dx (dfl (s.lev.length : Nat) r b c e f))) t1 (.tup [.str "come", .int p, v]) t1 = _ from upd_same)
    refine ⟨f, t2, dv, _, rfl, rfl, .of (gb _ _ (ga _ _ (tk.t D1.deeds))), .of upd_same, ?_, fun z => ?_, fun _ z => ?_, fun _ _ q nq => ?_⟩
    · rw [pr_len D1.deedsP]; exact szl (by show s.deeds.length + 1 ≤ _; omega)
    · exact ⟨t2, t1, rfl, ga.trans gb, by rw [z]; exact upd_same, h1⟩
    · cases z
    · exact ⟨q, t1, rfl, (ga.trans gb).trans (same_new nq _), upd_same, same_new nq _ _ _ h1⟩
  rintro y H3 ⟨f2, t1, rfl, g3, hf2, ht1⟩
  refine ⟨_, rfl, d, C, dx, _, rfl, g3 _ _ upd_same, hC.cl, hC.nD, by show 6 < 1000; decide, ?_⟩
  rw [dp_deeds]
  have hobj3 := g3 _ _ (show upd H2 d (.ins C dx (dfl (s.lev.length : Nat) r b c e f)) d = _ from upd_same)
  have b4 := (b3.trans (.of g3)).put (o := .ins C dx (dfl (s.lev.length : Nat) r b c e f2)) (p := d) (by simp)
  have tk2 : TK (upd H2 d (.ins C dx (dfl (s.lev.length : Nat) r b c e f))) (upd H3 d (.ins C dx (dfl (s.lev.length : Nat) r b c e f2))) := (TK.of g3).trans (.put hobj3 fun z => z)
  have tk3 := tk.trans tk2
  have ne : ∀ {q : Addr} {xs : List V}, H3 q = some (.tup xs) → q ≠ d := fun h z => by rw [← z, h] at hobj3; cases hobj3
  refine k _ b4 ⟨dx, r, b, c, e, f2, cv.set p (.ref t0), hv, sv, dv ++ [.ref t1], ?_⟩
  refine ⟨upd_same, by rw [upd_ne ndx]; exact g3 _ _ (by rw [upd_ne ndx]; exact g2 _ _ (g0 _ _ D1.own)), tk2.f h2', ?_, tk3.f D1.lev, tk3.f D1.heard, pr_imp (fun _ _ => One.mono tk3) D1.heardP, tk3.f D1.seen, pr_imp (fun _ _ => SeenAt.mono tk3) D1.seenP, by rw [upd_ne (ne hf2)]; exact hf2, ?_, fun r v' hv => ?_, W.come⟩
  · exact pr_set (show One _ (.ref t0) (some v) from ⟨t0, rfl, tk2.t ht0'⟩) p (pr_imp (fun _ _ => One.mono tk3) D1.cameP)
  · exact pr_snoc ⟨t1, rfl, by rw [upd_ne (ne ht1)]; exact ht1⟩ (pr_imp (fun _ _ => DeedAt.mono tk3) D1.deedsP)
  · rw [DS.cm_come] at hv
    split at hv
    · cases hv; exact (hg.mono (.of g1)).mono tk3
    · exact (D1.good r v' hv).mono tk3
end
end Fp
namespace Fp
open PySem PySem.Spec PyProof.Rows L2
structure LTx (mg : Str → Option Value) : Prop where
  len : mg "len" = none
  int : mg "int" = none
  sum : mg "sum" = none
  abs : mg "abs" = none
  list : mg "list" = none
  tuple : mg "tuple" = none
  range : mg "range" = none
  max : mg "max" = none
  min : mg "min" = none
  repr : mg "repr" = none
  all : mg "all" = none
  enumerate : mg "enumerate" = none
theorem modNat'' : True := trivial
theorem atI0 {α : Type} {l : List α} {v : α} (h : l[0]? = some v) : atI l 0 = some v := atI_nat (j := 0) h
section
variable {P : Program} {w : World} {K : PySem.W.Frag} {mg : Str → Option Value} {base : Heap} {f : Addr} {fd : FuncData} {C : Addr}
abbrev s_law_take : Stmt := top 24
theorem sc_law_take : FnScope ["pot", "upto", "digit", "prime", "blend"] ["pot", "upto"] (defScope s_law_take) := ⟨rfl, rfl, rfl, by decide +kernel, rfl, by decide +kernel, by decide +kernel⟩
theorem ok_law_take (F : Fun K "_law_take" "_law_take" s_law_take f fd) (T : LTx mg) : FnOk P w K mg base CX0 1 f fd ["pot", "upto"] spTake := by
  refine F.ok sc_law_take (fun vs H Q E h => ?_) (fun cdv A outer s H vs Q E hr h => ?_)
  · obtain ⟨p, u, n, rfl, _⟩ := h
    rfl
  obtain ⟨p, u, n, rfl, h0, h1, hn, hP, q⟩ := h
  obtain ⟨a, b, c, hp, hb0, hb1, hc0, hc1⟩ := hP
  refine ⟨_, (pss_cons (ps_if (pt_cmpR op_gt (pe_ix ix_list (pv 0) pe_int (fun _ _ => rfl)) pe_int (nomark _)) (pss_cons (ps_set (i := 2) sc_law_take.nd rfl (Or.inl rfl) (pe_op op_mod (pe_callTy call_int1 rfl T.int (by decide +kernel) (pa_cons (pe_ix ix_list (pv 0) pe_int (fun _ _ => rfl)) pa_nil)) (pv 1)))
  (pss_cons (ps_asg (pe_op op_fdiv (pe_ix ix_list (pv 0) pe_int (fun _ _ => rfl)) (pv 1)) (pg_sub (pv 0) pe_int set_list))
  (pss_one (ps_ret (pv 2))))) pss_nil)
  (pss_cons (ps_asg (pe_op op_add (pe_ix ix_list (pv 0) pe_int (fun _ _ => rfl)) pe_int) (pg_sub (pv 0) pe_int set_list))
  (pss_cons (ps_set (i := 3) sc_law_take.nd rfl (Or.inl rfl) (pe_ix ix_list (pe_lst (pa_cons pe_int (pa_cons pe_int (pa_cons pe_int (pa_cons pe_int (pa_cons pe_int pa_nil)))))) (pe_op op_mod (pe_callTy call_int1 rfl T.int (by decide +kernel) (pa_cons (pe_ix ix_list (pv 0) pe_int (fun _ _ => rfl)) pa_nil)) pe_int) (fun _ _ => rfl)))
  (pss_cons (ps_set (i := 4) sc_law_take.nd rfl (Or.inl rfl) (pe_op op_mod (pe_callTy call_int1 rfl T.int (by decide +kernel) (pa_cons (pe_op op_pow (pe_callTy call_int1 rfl T.int (by decide +kernel) (pa_cons (pe_op op_add (pe_op op_add (pe_ix ix_list (pv 0) pe_int (fun _ _ => rfl)) (pe_op op_mul (pe_op op_mul pe_int (pe_ix ix_list (pv 0) pe_int (fun _ _ => rfl))) (pe_ix ix_list (pv 0) pe_int (fun _ _ => rfl)))) pe_int) pa_nil)) pe_int) pa_nil)) (pv 3)))
  (pss_one (ps_ret (pe_op op_mod (pe_callTy call_int1 rfl T.int (by decide +kernel) (pa_cons (pe_op op_fdiv (pe_op op_mul (pv 4) (pe_op op_add (pe_op op_mod (pe_callTy call_int1 rfl T.int (by decide +kernel) (pa_cons (pv 4) pa_nil)) pe_int) (pe_op op_mul pe_int (pe_ix ix_list (pv 0) pe_int (fun _ _ => rfl))))) pe_int) pa_nil)) (pv 1)))))))), ?_⟩
  refine ⟨_, rfl, p, _, _, _, rfl, rfl, .of hp, rfl, _, _, rfl, rfl, _, rfl, ?_⟩
  refine ite2 (fun ca => ?_) (fun ca => ?_)
  · refine ⟨_, rfl, p, _, _, _, rfl, rfl, .of hp, rfl, .inl ⟨_, rfl, _, rfl, _, _, rfl, rfl, h0, ?_⟩⟩
    refine ⟨_, rfl, p, _, _, _, rfl, rfl, .of hp, rfl, _, rfl, _, _, rfl, rfl, ⟨h0, by omega⟩, ?_⟩
    refine ⟨_, rfl, p, _, _, _, rfl, rfl, hp, rfl, ?_⟩
    refine ⟨_, rfl, ?_⟩
    obtain ⟨d, hd, hd2⟩ := modNat a h0
    show Q (V.int (a % u)) _
    rw [hd]
    refine q d _ hd2 ((But.refl _ H).put (by simp)) ?_
    exact ⟨a / u, b, c, upd_same, hb0, hb1, hc0, by omega⟩
  · refine ⟨_, rfl, p, _, _, _, rfl, rfl, .of hp, rfl, _, _, rfl, rfl, ?_⟩
    refine ⟨_, rfl, p, _, _, _, rfl, rfl, hp, rfl, ?_⟩
    have hp1 : upd H p (.lst [V.int a, V.int b, V.int (c + 1)]) p = some (.lst [V.int a, V.int b, V.int (c + 1)]) := upd_same
    have g1 : But [p] H (upd H p (.lst [V.int a, V.int b, V.int (c + 1)])) := (But.refl _ H).put (by simp)
    refine ⟨(by show 5 ≤ sizeLine; decide), fun l hl => ?_⟩
    have g2 := g1.new (o := .lst [V.int 2147483647, V.int 2147483629, V.int 2147483587, V.int 2147483579, V.int 2147483563]) hl
    have np : p ≠ l := ne_of_none hp1 hl
    have hp2 : upd (upd H p (.lst [V.int a, V.int b, V.int (c + 1)])) l (.lst [V.int 2147483647, V.int 2147483629, V.int 2147483587, V.int 2147483579, V.int 2147483563]) p = some (.lst [V.int a, V.int b, V.int (c + 1)]) := by
      rw [upd_ne np]; exact hp1
    obtain ⟨i5, hi5, hi5b⟩ := modNat (c + 1) (show (0 : Int) < 5 by decide)
    obtain ⟨pr, hpr, hpr0, hpr1⟩ : ∃ pr : Int, ([V.int 2147483647, V.int 2147483629, V.int 2147483587, V.int 2147483579, V.int 2147483563] : List V)[i5]? = some (.int pr) ∧ 0 < pr ∧ pr < 2147483648 := by
      have : i5 < 5 := by omega
      match i5, this with
      | 0, _ => exact ⟨_, rfl, by decide, by decide⟩
      | 1, _ => exact ⟨_, rfl, by decide, by decide⟩
      | 2, _ => exact ⟨_, rfl, by decide, by decide⟩
      | 3, _ => exact ⟨_, rfl, by decide, by decide⟩
      | 4, _ => exact ⟨_, rfl, by decide, by decide⟩
    refine ⟨_, rfl, p, _, _, _, rfl, rfl, .of hp2, rfl, .inl ⟨_, rfl, _, _, rfl, rfl, (by show (0 : Int) < 5; decide), ?_⟩⟩
    refine ⟨l, _, (c + 1) % 5, _, rfl, rfl, .of upd_same, (by rw [hi5]; exact atI_nat hpr), ?_⟩
    refine ⟨_, rfl, p, _, _, _, rfl, rfl, .of hp2, rfl, _, rfl, p, _, _, _, rfl, rfl, .of hp2, rfl, _, _, rfl, rfl, .inl (by constructor <;> decide), ?_⟩
    refine ⟨_, rfl, p, _, _, _, rfl, rfl, .of hp2, rfl, _, _, rfl, rfl, .inr (by constructor <;> omega), _, _, rfl, rfl, _, _, rfl, rfl, .inl ⟨_, rfl, _, _, rfl, rfl, ⟨by decide, by decide, ?_⟩, .inl ⟨_, rfl, ?_⟩⟩⟩
    · have hq := sq_le 101065 (c := c + 1) (by omega) (by omega)
      generalize 101065 * (c + 1) * (c + 1) = z at hq ⊢
      omega
    refine ⟨_, rfl, _, _, rfl, rfl, hpr0, ?_⟩
    obtain ⟨bl, hbl, hbl2⟩ := modNat ((b + 101065 * (c + 1) * (c + 1) + 1459) ^ 3) hpr0
    refine ⟨_, rfl, _, rfl, .inl ⟨_, rfl, _, _, rfl, rfl, (by show (0 : Int) < 11487; decide), ?_⟩⟩
    refine ⟨_, rfl, p, _, _, _, rfl, rfl, .of hp2, rfl, _, _, rfl, rfl, .inl (by constructor <;> decide), _, _, rfl, rfl, _, _, rfl, rfl, .inl ?_, ?_⟩
    · show -(2 ^ 64) < (b + 101065 * (c + 1) * (c + 1) + 1459) ^ (Int.toNat 3) % pr ∧ (b + 101065 * (c + 1) * (c + 1) + 1459) ^ (Int.toNat 3) % pr < 2 ^ 64
      have e3 : Int.toNat 3 = 3 := rfl
      rw [e3, hbl]; constructor <;> omega
    refine ⟨_, _, rfl, rfl, ⟨by decide, by decide⟩, .inl ⟨_, rfl, _, rfl, _, _, rfl, rfl, h0, ?_⟩⟩
    refine (fun (z : ∀ x : Int, Q (.int (x % u)) (upd (upd H p (.lst [V.int a, V.int b, V.int (c + 1)])) l (.lst [V.int 2147483647, V.int 2147483629, V.int 2147483587, V.int 2147483579, V.int 2147483563]))) => z _) (fun x => ?_)
    obtain ⟨d, hd, hd2⟩ := modNat x h0
    rw [hd]
    exact q d _ hd2 g2 ⟨a, b, c + 1, hp2, hb0, hb1, by omega, by omega⟩
abbrev s_law_of : Stmt := top 25
theorem sc_law_of : FnScope ["pot", "some"] ["pot", "some"] (defScope s_law_of) := ⟨rfl, rfl, rfl, by decide +kernel, rfl, by decide +kernel, by decide +kernel⟩
theorem ok_law_of (F : Fun K "_law_of" "_law_of" s_law_of f fd) (T : LTx mg) (G_law_take : Fd P w K mg base CX0 "_law_take" 1 ["pot", "upto"] spTake) : FnOk P w K mg base CX0 2 f fd ["pot", "some"] (spOf K) := by
  refine F.ok sc_law_of (fun vs H Q E h => ?_) (fun cdv A outer s H vs Q E hr h => ?_)
  · obtain ⟨p, q, xs, n, rfl, _⟩ := h
    rfl
  obtain ⟨p, q, xs, n, rfl, hS, hne, hx, hx1, hn, hP, k⟩ := h
  refine ⟨_, (pss_one (ps_ret (pe_ix ix_list (pv 1) (pe_fd G_law_take (hr.mono (by first | decide | omega)) rfl (pa_cons (pv 0) (pa_cons (pe_callB call_len rfl T.len (by decide +kernel) (pa_cons (pv 1) pa_nil)) pa_nil))) (fun _ _ => rfl)))), ?_⟩
  have hpos : 0 < xs.length := List.length_pos_iff.mpr hx
  refine ⟨_, rfl, _, rfl, _, rfl, _, xs.length, rfl, .inl ⟨xs, hS, rfl⟩, p, _, n, rfl, by omega, by omega, hn, hP, fun d H' hd g hP' => ?_⟩
  have hdl : d < xs.length := by omega
  refine ⟨q, xs, _, xs[d], rfl, rfl, g.seq hS (by simpa using hne), atI_nat (by simp [hdl]), ?_⟩
  exact k d _ H' (by simp [hdl]) g hP'
abbrev s_law_cells : Stmt := top 26
theorem sc_law_cells : FnScope ["script", "limit"] ["script", "limit"] (defScope s_law_cells) := ⟨rfl, rfl, rfl, by decide +kernel, rfl, by decide +kernel, by decide +kernel⟩
theorem ok_law_cells (F : Fun K "_law_cells" "_law_cells" s_law_cells f fd) (T : LTx mg) : FnOk P w K mg base CX0 1 f fd ["script", "limit"] (spCells K) := by
  refine F.ok sc_law_cells (fun vs H Q E h => ?_) (fun cdv A outer s H vs Q E hr h => ?_)
  · obtain ⟨p, xs, m, rfl, _⟩ := h
    rfl
  obtain ⟨p, xs, m, rfl, hS, hl, hm, k⟩ := h
  refine ⟨_, (pss_one (ps_ret (pe_listRg rfl rfl T.list (prg_1 rfl T.range (pe_callB (call_max2 rfl) rfl T.max (by decide +kernel) (pa_cons pe_int (pa_cons (pe_callB (call_min2 rfl) rfl T.min (by decide +kernel) (pa_cons (pv 1) (pa_cons (pe_callB call_len rfl T.len (by decide +kernel) (pa_cons (pv 0) pa_nil)) pa_nil))) pa_nil))))))), ?_⟩
  refine ⟨_, rfl, _, rfl, _, xs.length, rfl, .inl ⟨_, hS, (List.length_map _).symm⟩, _, _, rfl, _, _, rfl, ?_⟩
  generalize hz : (if (if (xs.length : Int) < (m : Int) then (xs.length : Int) else (m : Int)) > 1 then (if (xs.length : Int) < (m : Int) then (xs.length : Int) else (m : Int)) else 1) = z
  have hz1 : 0 ≤ z ∧ z < 1000 := by subst hz; split <;> (try split) <;> omega
  refine ⟨z, rfl, .of_le (by omega) (by omega) (by omega) (by omega), fun l hln => ?_⟩
  refine k l _ z.toNat (by omega) (same_new hln _) hln ?_
  rw [upd_same]
  unfold rgV
  rw [show (z - 0).toNat = z.toNat by omega]
  simp
abbrev s_law_pot : Stmt := top 23
theorem sc_law_pot : FnScope ["script", "place", "cell", "own", "small"] ["script", "place"] (defScope s_law_pot) := ⟨rfl, rfl, rfl, by decide +kernel, rfl, by decide +kernel, by decide +kernel⟩
theorem ok_law_pot (F : Fun K "_law_pot" "_law_pot" s_law_pot f fd) (T : LTx mg) : FnOk P w K mg base CX0 1 f fd ["script", "place"] (spPot K) := by
  refine F.ok sc_law_pot (fun vs H Q E h => ?_) (fun cdv A outer s H vs Q E hr h => ?_)
  · obtain ⟨p, xs, m, rfl, _⟩ := h
    rfl
  obtain ⟨p, xs, m, rfl, hS, hl, hm, k⟩ := h
  refine ⟨_, (C8.pss_cut (ps_set (i := 2) sc_law_pot.nd rfl (Or.inl rfl) (pe_ifExp (pt_cmpR op_lt (pv 1) (pe_callB call_len rfl T.len (by decide +kernel) (pa_cons (pv 0) pa_nil)) (nomark _)) (pe_ix ix_list (pv 0) (pv 1) (fun _ _ => rfl)) (pe_op op_add (pe_op op_add (pe_op op_mod (pe_callTy call_int1 rfl T.int (by decide +kernel) (pa_cons (pe_callB (cr_sum rfl) rfl T.sum (by decide +kernel) (pa_cons (pe_slice sl_list (pv 0) po_none (po_some pe_int)) pa_nil)) pa_nil)) pe_int) (pe_op op_mul pe_int (pv 1))) pe_int)))
  (pss_cons (ps_set (i := 3) sc_law_pot.nd rfl (Or.inl rfl) (pe_op op_mul (pe_op op_mod (pe_callTy call_int1 rfl T.int (by decide +kernel) (pa_cons (pe_callB call_abs rfl T.abs (by decide +kernel) (pa_cons (pv 2) pa_nil)) pa_nil)) (pe_op op_powB (pe_op op_pow pe_int pe_int) pe_int)) (pe_callTy call_int1 rfl T.int (by decide +kernel) (pa_cons (pe_cmpR op_ge (pe_callB call_abs rfl T.abs (by decide +kernel) (pa_cons (pv 2) pa_nil)) (pe_op op_pow pe_int pe_int) (nomark _)) pa_nil))))
  (pss_cons (ps_set (i := 4) sc_law_pot.nd rfl (Or.inl rfl) (pe_op op_mod (pe_callTy call_int1 rfl T.int (by decide +kernel) (pa_cons (pv 2) pa_nil)) pe_int))
  (pss_one (ps_ret (pe_lst (pa_cons (pv 3) (pa_cons (pe_op op_mod (pe_callTy call_int1 rfl T.int (by decide +kernel) (pa_cons (pe_op op_add (pe_op op_add (pe_op op_mul (pv 4) pe_int) (pe_op op_mul (pe_op op_mul pe_int (pv 1)) (pv 1))) pe_int) pa_nil)) pe_int) (pa_cons pe_int pa_nil))))))))), ?_⟩
  refine ⟨fun σ H1 => ∃ c : Int, σ = [some (.ref p), some (.int m), some (.int c), none, none] ∧ Same H H1, ?_, ?_⟩
  · refine ⟨_, rfl, _, rfl, _, xs.length, rfl, .inl ⟨_, hS, (List.length_map _).symm⟩, _, _, rfl, rfl, _, rfl, ?_⟩
    refine ite2 (fun c => ?_) (fun c => ?_)
    · have c' : m < xs.length := by have := of_decide_eq_true c; omega
      refine ⟨_, rfl, _, rfl, p, _, _, _, rfl, rfl, hS, atI_nat (by rw [List.getElem?_map, List.getElem?_eq_getElem c']; rfl), ?_⟩
      exact ⟨_, rfl, Same.refl _⟩
    · refine ⟨_, rfl, 1, rfl, p, _, rfl, hS, fun l hln => ?_⟩
      have hcut : cutV (xs.map V.int) none (some 1) = (xs.take 1).map V.int := by
        have e1 : HT.sIx (xs.map V.int).length 0 none = 0 := rfl
        have e2 := HT.sIx_nat (xs.map V.int).length (xs.map V.int).length 1
        unfold cutV
        rw [e1, show ((1 : Int)) = ((1 : Nat) : Int) from rfl, e2, List.length_map, List.drop_zero, ← List.map_take]
        cases xs <;> simp
      refine ⟨l, xs.take 1, rfl, .of (by rw [hcut]; exact upd_same), .inl ⟨_, rfl, _, _, rfl, rfl, (by show (0 : Int) < 1000003; decide), ?_⟩⟩
      refine ⟨_, rfl, _, _, rfl, rfl, .inl (by constructor <;> decide), _, _, rfl, rfl, _, _, rfl, rfl, ?_⟩
      exact ⟨_, rfl, same_new hln _⟩
  · rintro σ H1 ⟨c, rfl, g⟩
    refine ⟨_, rfl, _, rfl, .inl ⟨_, rfl, _, _, rfl, rfl, ⟨by decide, by decide, by decide⟩, ?_⟩⟩
    refine ⟨_, _, rfl, rfl, ⟨by decide, bits_ok 200 (by decide +kernel) (by decide) (by decide)⟩, ?_⟩
    refine ⟨_, _, rfl, rfl, (by show (0 : Int) < ((10 : Int) ^ Int.toNat 60) ^ Int.toNat 5; decide +kernel), ?_⟩
    refine ⟨_, rfl, _, rfl, _, _, rfl, rfl, ⟨by decide, by decide, by decide⟩, _, _, rfl, rfl, .inr ⟨_, rfl, _, _, rfl, rfl, .inr (b01 _), ?_⟩⟩
    refine ⟨_, rfl, .inl ⟨_, rfl, _, _, rfl, rfl, (by show (0 : Int) < 2305843009213693951; decide), ?_⟩⟩
    obtain ⟨sm, hs1, hs2⟩ := modNat c (u := 2305843009213693951) (by decide)
    refine ⟨_, rfl, _, rfl, _, _, rfl, rfl, .inr (by constructor <;> decide), _, rfl, _, _, rfl, rfl, .inl (by constructor <;> decide), _, rfl, _, _, rfl, rfl, .inr (by constructor <;> omega), ?_⟩
    refine ⟨_, _, rfl, rfl, _, _, rfl, rfl, .inl ⟨_, rfl, _, _, rfl, rfl, (by show (0 : Int) < 2305843009213693921; decide), ?_⟩⟩
    refine ⟨(by show 3 ≤ sizeLine; decide), fun l hln => ?_⟩
    refine k l _ (fun b o q => same_new hln _ b o (g b o q)) (g.free hln) ?_
    refine ⟨_, _, 0, upd_same, ?_, ?_, Int.le_refl 0, Int.le_refl 0⟩
    · exact Int.emod_nonneg _ (by decide)
    · exact Int.lt_trans (Int.emod_lt_of_pos _ (by decide)) (by decide)
end
end Fp
namespace Fp
open PySem PySem.Spec PyProof.Rows L2
def VALS : List V := [.non, .int 0, .int 1, .int 7, .int (-9999), .int 9999, .int 42, .int 7]
theorem vals_ok {d : Nat} {v : V} (h : VALS[d]? = some v) (H : Hp) (n : Nat) : ∃ x, VAt H v x ∧ VOk n x := by
  have hd := get_lt h
  have : d < 8 := hd
  match d, this with
  | 0, _ => cases h; exact ⟨_, .non, .non⟩
  | 1, _ => cases h; exact ⟨_, .int _, .int (by decide) (by decide)⟩
  | 2, _ => cases h; exact ⟨_, .int _, .int (by decide) (by decide)⟩
  | 3, _ => cases h; exact ⟨_, .int _, .int (by decide) (by decide)⟩
  | 4, _ => cases h; exact ⟨_, .int _, .int (by decide) (by decide)⟩
  | 5, _ => cases h; exact ⟨_, .int _, .int (by decide) (by decide)⟩
  | 6, _ => cases h; exact ⟨_, .int _, .int (by decide) (by decide)⟩
  | 7, _ => cases h; exact ⟨_, .int _, .int (by decide) (by decide)⟩
section
variable {P : Program} {w : World} {K : PySem.W.Frag} {mg : Str → Option Value} {base : Heap} {f : Addr} {fd : FuncData} {C : Addr}
abbrev s_law_drawn_value : Stmt := top 33
theorem sc_law_drawn_value : FnScope ["pot", "deep", "way", "lap"] ["pot", "deep"] (defScope s_law_drawn_value) := ⟨rfl, rfl, rfl, by decide +kernel, rfl, by decide +kernel, by decide +kernel⟩
theorem ok_law_drawn_value {n : Nat} (F : Fun K "_law_drawn_value" "_law_drawn_value" s_law_drawn_value f fd) (T : LTx mg) (G_law_take : Fd P w K mg base CX0 "_law_take" 1 ["pot", "upto"] spTake) (G_law_of : Fd P w K mg base CX0 "_law_of" 2 ["pot", "some"] (spOf K)) (G_law_drawn_value : Fd P w K mg base CX0 "_law_drawn_value" (n + 2) ["pot", "deep"] (spVal n)) :
    FnOk P w K mg base CX0 (n + 3) f fd ["pot", "deep"] (spVal (n + 1)) := by
  refine F.ok sc_law_drawn_value (fun vs H Q E h => ?_) (fun cdv A outer s H vs Q E hr h => ?_)
  · obtain ⟨p, deep, m, rfl, _⟩ := h
    rfl
  obtain ⟨p, deep, m, rfl, hd, hd2, hm, hP, k⟩ := h
  have hr1 : Room 1 _ := hr.mono (by omega)
  have hr2 : Room 2 _ := hr.mono (by omega)
  refine ⟨_, (pss_cons (ps_set (i := 2) sc_law_drawn_value.nd rfl (Or.inl rfl) (pe_mid (pe_fd G_law_take hr1 rfl (pa_cons (pv 0) (pa_cons (pe_ifExp (pt_cmpR op_gt (pv 1) pe_int (nomark _)) pe_int pe_int) pa_nil)))))
  (pss_cons (ps_if (pt_cmpR op_lt (pv 2) pe_int (nomark _)) (pss_one (ps_ret (pe_fd G_law_of hr2 rfl (pa_cons (pv 0) (pa_cons (pe_lst (pa_cons pe_non (pa_cons pe_int (pa_cons pe_int (pa_cons pe_int (pa_cons (pe_un un_neg pe_int) (pa_cons pe_int (pa_cons pe_int (pa_cons pe_int pa_nil))))))))) pa_nil))))) pss_nil)
  (pss_one (ps_ret (pe_callTy call_tuple_of rfl T.tuple (by decide +kernel) (pa_cons (pe_lc (own := [("lap", 3)]) (g := (gName 3)) (tt := tYes) rfl sc_law_drawn_value.nd (pi_range1 rfl T.range (pa_cons (pe_fd G_law_take hr1 rfl (pa_cons (pv 0) (pa_cons pe_int pa_nil))) pa_nil)) (blkOk_by (own := [("lap", 3)]) (N := ["pot", "deep", "way", "lap"]) (sc := defScope s_law_drawn_value) (by decide +kernel)) (fun _ _ _ _ _ => (pg_name (i := 3) sc_law_drawn_value.nd rfl (Or.inl rfl))) (fun _ _ _ _ _ => pts_nil) (fun _ _ _ _ _ => (pe_fd G_law_drawn_value hr rfl (pa_cons (pv 0) (pa_cons (pe_op op_sub (pv 1) pe_int) pa_nil))))) pa_nil)))))), ?_⟩
  refine ⟨fun y H' => ∃ d : Nat, y = .int d ∧ (4 ≤ d → 0 < deep) ∧ But [p] H H' ∧ PotAt H' p (m + 1), ?_, ?_⟩
  · refine ⟨_, rfl, _, rfl, _, _, rfl, rfl, _, rfl, ?_⟩
    refine ite2 (fun c => ?_) (fun c => ?_)
    · have c' := of_decide_eq_true c
      exact ⟨p, 6, m, rfl, by decide, by decide, by omega, hP, fun d H' _ g hp => ⟨d, rfl, fun _ => by omega, g, hp⟩⟩
    · exact ⟨p, 4, m, rfl, by decide, by decide, by omega, hP, fun d H' hd4 g hp => ⟨d, rfl, fun z => by omega, g, hp⟩⟩
  rintro y H1 ⟨d, rfl, hpos, g1, hP1⟩
  refine ⟨_, rfl, _, _, rfl, rfl, _, rfl, ?_⟩
  refine ite2 (fun c => ?_) (fun c => ?_)
  · refine ⟨_, rfl, _, rfl, szl (by decide), fun l nl => ?_⟩
    have np : p ≠ l := ne_of_none hP1.there.choose_spec nl
    have hP2 : PotAt (upd H1 l (.lst VALS)) p (m + 1) := by
      obtain ⟨a, b, c, h1, h2⟩ := hP1
      exact ⟨a, b, c, by rw [upd_ne np]; exact h1, h2⟩
    have hvd : 2 ≤ vc deep := by cases deep with | zero => exact Nat.le_refl _ | succ j => unfold vc; omega
    refine ⟨p, l, VALS, m + 1, rfl, .of upd_same, Ne.symm np, by decide, by decide, by omega, hP2, fun j v H2 hv g2 hP3 => ?_⟩
    obtain ⟨x, h1, h2⟩ := vals_ok hv H2 deep
    refine k v x H2 ((g1.new nl).trans g2) h1 h2 (hP3.mono ?_)
    cases deep with
    | zero => exact Nat.le_refl _
    | succ j => unfold vc; omega
  · have c' : ¬ (d : Int) < 4 := fun z => c (decide_eq_true z)
    have hpos := hpos (by omega)
    obtain ⟨e, rfl⟩ : ∃ e, deep = e + 1 := ⟨deep - 1, by omega⟩
    have hvc : vc e ≤ 8 := by
      rcases (show e = 0 ∨ e = 1 by omega) with rfl | rfl <;> decide
    refine ⟨_, rfl, p, 4, m + 1, rfl, by decide, by decide, by omega, hP1, fun q H2 hq g2 hP2 => ?_⟩
    refine ⟨_, rfl, by omega, by omega, fun D hD => ?_⟩
    have nD : p ≠ D := ne_of_none hP2.there.choose_spec hD
    refine lc_it (walk_range (lo := 0) (n := q)) (fun i H' => But [p] H2 H' ∧ PotAt H' p (m + 2 + i * vc e) ∧ ∃ xs ds, H' D = some (.lst xs) ∧ xs.length = i ∧ VsAt H' xs ds ∧ ∀ d ∈ ds, VOk e d) ?_ (fun _ _ _ _ => True.intro) ?_ ?_
    · refine ⟨(But.refl _ _).new hD, ?_, [], [], upd_same, rfl, .nil, fun _ h => by cases h⟩
      obtain ⟨a, b, c, h1, h2, h3, h4, h5⟩ := hP2
      exact ⟨a, b, c, by rw [upd_ne nD]; exact h1, h2, h3, h4, by omega⟩
    · rintro i x H3 H4 hi ⟨g3, hP3, xs, ds, hx, hl, hv, ho⟩ ⟨rfl, rfl⟩
      have hi3 : i * vc e ≤ 3 * 8 := Nat.mul_le_mul (by omega) hvc
      refine ⟨rfl, _, rfl, _, rfl, _, _, rfl, rfl, p, e, _, (by show [V.ref p, V.int (((e + 1 : Nat) : Int) - 1)] = _; rw [show (((e + 1 : Nat) : Int) - 1) = (e : Int) by omega]), by omega, by omega, ?_, hP3, fun v d H5 g5 h1 h2 hP5 => ?_⟩
      · have h1 : (i + 1) * vc e ≤ 3 * vc e := Nat.mul_le_mul_right _ (by omega)
        rw [Nat.succ_mul] at h1
        unfold vc at hm
        omega
      have hx5 := g5.at hx (by simpa using Ne.symm nD)
      have tk5 : TK H4 H5 := TK.but g5 fun a ha z => by
        rw [List.mem_singleton.mp ha] at z
        obtain ⟨ys, e⟩ := hP3.there
        rw [e] at z; exact z
      refine ⟨xs, hx5, szt (by omega), fun b o nb q => ?_, ?_, xs ++ [v], ds ++ [d], upd_same, by rw [List.length_append, hl]; rfl, ?_, fun d' hd' => ?_⟩
      · have q4 := g3 b o nb q
        rw [upd_ne (fun z => by subst z; rw [hD] at q; cases q)]
        exact g5 b o nb q4
      · obtain ⟨a, b, c, h1, h2, h3, h4, h6⟩ := hP5
        refine ⟨a, b, c, by rw [upd_ne nD]; exact h1, h2, h3, h4, ?_⟩
        rw [Nat.succ_mul]; omega
      · exact VsAt.snoc (h1.mono (.put hx5 fun z => z)) (VsAt.mono (tk5.trans (.put hx5 fun z => z)) hv)
      · rcases List.mem_append.mp hd' with z | z
        · exact ho d' z
        · rw [List.mem_singleton.mp z]; exact h2
    · rintro H3 ⟨g3, hP3, xs, ds, hx, hl, hv, ho⟩
      refine ⟨D, xs, rfl, .inl ⟨.of hx, fun l nl => ?_⟩⟩
      have gn := same_new nl (.tup xs)
      refine k _ (.tuple ds) _ ?_ (.tup upd_same (VsAt.mono (.of gn) hv)) (.tup ho (by rw [← hv.len, hl]; omega)) ?_
      · exact ((g1.trans g2).trans g3).new nl
      · obtain ⟨a, b, c, h1, h2, h3, h4, h6⟩ := hP3
        refine ⟨a, b, c, gn _ _ h1, h2, h3, h4, ?_⟩
        have : q * vc e ≤ 3 * vc e := Nat.mul_le_mul_right _ (by omega)
        unfold vc
        omega
theorem all_value (F : Fun K "_law_drawn_value" "_law_drawn_value" s_law_drawn_value f fd) (b : Binds K fd ["pot", "deep"] []) (m : mg "_law_drawn_value" = some (.ref f)) (T : LTx mg) (G_law_take : Fd P w K mg base CX0 "_law_take" 1 ["pot", "upto"] spTake) (G_law_of : Fd P w K mg base CX0 "_law_of" 2 ["pot", "some"] (spOf K)) : ∀ n : Nat, Fd P w K mg base CX0 "_law_drawn_value" (n + 2) ["pot", "deep"] (spVal n)
  | 0 => ⟨f, fd, m, F.kp, b, (none0 (fun vs H Q E h => by obtain ⟨p, deep, m, _, h, _⟩ := h; omega)).mono (Nat.zero_le _)⟩
  | n + 1 => ⟨f, fd, m, F.kp, b, ok_law_drawn_value F T G_law_take G_law_of (all_value F b m T G_law_take G_law_of n)⟩
abbrev s_law_door : Stmt := top 29
theorem sc_law_door : FnScope ["many"] ["many"] (defScope s_law_door) := ⟨rfl, rfl, rfl, by decide +kernel, rfl, by decide +kernel, by decide +kernel⟩
theorem ok_law_door (F : Fun K "_law_door" "_law_door" s_law_door f fd) : FnOk P w K mg base CX0 1 f fd ["many"] spODoor := by
  refine F.ok sc_law_door (fun vs H Q E h => ?_) (fun cdv A outer s H vs Q E hr h => ?_)
  · obtain ⟨n, rfl, _⟩ := h
    rfl
  obtain ⟨n, rfl, h5, k⟩ := h
  refine ⟨_, (pss_one (ps_ret (pe_disp (pps_cons pe_str (pe_op op_rep (pe_lst (pa_cons pe_non pa_nil)) (pv 0)) (pps_cons pe_str (pe_op op_rep (pe_lst (pa_cons pe_non pa_nil)) (pv 0)) (pps_cons pe_str (pe_op op_rep (pe_lst (pa_cons pe_int pa_nil)) (pv 0)) (pps_cons pe_str (pe_op op_rep (pe_lst (pa_cons pe_bl pa_nil)) (pv 0)) (pps_cons pe_str (pe_op op_rep (pe_lst (pa_cons pe_non pa_nil)) (pv 0)) (pps_cons pe_str pe_int pps_nil)))))) (by rfl) (by rfl) (by simp) (by decide)))), ?_⟩
  have rep : ∀ (H1 : Hp) (v : V) (Q1 : V → Hp → Prop), (∀ l H', Same H1 H' → H1 l = none → H' l = some (.lst (List.replicate n v)) → Q1 (.ref l) H') → tOp rRep (tLst (tCons (tC v) tNil)) (tVar 0) [some (.int n)] H1 Q1 := by
    intro H1 v Q1 hq
    refine ⟨szl (by show 1 ≤ _; decide), fun t nt => ⟨_, rfl, t, n, [v], rfl, rfl, upd_same, by omega, by omega, szl (by show 1 * _ ≤ _; omega), fun l nl => ?_⟩⟩
    refine hq l _ ((same_new nt _).trans (same_new nl _)) ((same_new nt _).free nl) ?_
    rw [upd_same]
    simp
  refine fun o no => ?_
  refine rep _ _ _ fun l1 H1 g1 n1 h1 => rep _ _ _ fun l2 H2 g2 n2 h2 => rep _ _ _ fun l3 H3 g3 n3 h3 => rep _ _ _ fun l4 H4 g4 n4 h4 => rep _ _ _ fun l5 H5 g5 n5 h5' => ?_
  have g0 := same_new no (.dK [])
  have ho5 : H5 o = some (.dK []) := g5 _ _ (g4 _ _ (g3 _ _ (g2 _ _ (g1 _ _ upd_same))))
  refine ⟨ho5, odict l1 l2 l3 l4 l5 0, rfl, by show 6 ≤ 15; decide, ?_⟩
  rw [o_merge]
  have gs : Same H (upd H5 o (.dK (odict l1 l2 l3 l4 l5 0))) := fun a u e => by
    rw [upd_ne (ne_of_none e no)]; exact g5 _ _ (g4 _ _ (g3 _ _ (g2 _ _ (g1 _ _ (g0 _ _ e)))))
  have ol : ∀ {l : Addr} {xs : List V}, H5 l = some (.lst xs) → l ≠ o := fun h z => by rw [z, ho5] at h; cases h
  have a1 := g5 _ _ (g4 _ _ (g3 _ _ (g2 _ _ h1)))
  have a2 := g5 _ _ (g4 _ _ (g3 _ _ h2))
  have a3 := g5 _ _ (g4 _ _ h3)
  have a4 := g5 _ _ h4
  have m2 : H l2 = none := g0.free (g1.free n2)
  have m3 : H l3 = none := g0.free (g1.free (g2.free n3))
  have m4 : H l4 = none := g0.free (g1.free (g2.free (g3.free n4)))
  have m5 : H l5 = none := g0.free (g1.free (g2.free (g3.free (g4.free n5))))
  have d12 : l1 ≠ l2 := ne_of_none h1 n2
  have d13 : l1 ≠ l3 := ne_of_none (g2 _ _ h1) n3
  have d14 : l1 ≠ l4 := ne_of_none (g3 _ _ (g2 _ _ h1)) n4
  have d15 : l1 ≠ l5 := ne_of_none (g4 _ _ (g3 _ _ (g2 _ _ h1))) n5
  have d23 : l2 ≠ l3 := ne_of_none h2 n3
  have d24 : l2 ≠ l4 := ne_of_none (g3 _ _ h2) n4
  have d25 : l2 ≠ l5 := ne_of_none (g4 _ _ (g3 _ _ h2)) n5
  have d34 : l3 ≠ l4 := ne_of_none h3 n4
  have d35 : l3 ≠ l5 := ne_of_none (g4 _ _ h3) n5
  have d45 : l4 ≠ l5 := ne_of_none h4 n5
  refine k o [o, l1, l2, l3, l4, l5] _ gs (fun x hx => ?_) ⟨l1, l2, l3, l4, l5, List.replicate n .non, List.replicate n .non, rfl, upd_same, by rw [upd_ne (ol a1)]; exact a1, pr_rep (show One _ .non none from rfl) n, ?_, ?_, ?_, by rw [upd_ne (ol h5')]; exact h5', pr_rep (show One _ .non none from rfl) n, ?_⟩
  · simp only [List.mem_cons, List.not_mem_nil, or_false] at hx
    rcases hx with rfl | rfl | rfl | rfl | rfl | rfl
    · exact no
    · exact g0.free n1
    · exact m2
    · exact m3
    · exact m4
    · exact m5
  · rw [upd_ne (ol a2), a2]; show _ = some (HO.lst ((List.replicate n (none : Lv)).map lvV)); rw [List.map_replicate]; rfl
  · rw [upd_ne (ol a3), a3]
    show _ = some (HO.lst ((List.range (List.replicate n (none : Lv)).length).map fun p => V.int ((DS.new n).stg p : Nat)))
    rw [List.length_replicate]
    have e : ∀ p, (DS.new n).stg p = 0 := fun p => DS.stg0.mpr (DS.lv_new n p)
    simp only [e]
    rw [List.map_const', List.length_range]; rfl
  · rw [upd_ne (ol a4), a4]
    show _ = some (HO.lst ((List.range (List.replicate n (none : Lv)).length).map fun p => V.bl ((DS.new n).won p)))
    rw [List.length_replicate]
    have e : ∀ p, (DS.new n).won p = false := fun p => by unfold DS.won; rw [DS.sn_new]
    simp only [e]
    rw [List.map_const', List.length_range]
  · simp only [List.nodup_cons, List.mem_cons, List.not_mem_nil, or_false, not_or, not_false_eq_true, List.nodup_nil, and_true]
    exact ⟨⟨(ol a1).symm, (ol a2).symm, (ol a3).symm, (ol a4).symm, (ol h5').symm⟩, ⟨d12, d13, d14, d15⟩, ⟨d23, d24, d25⟩, ⟨d34, d35⟩, d45⟩
abbrev s_law_door_come : Stmt := top 31
theorem sc_law_door_come : FnScope ["door", "player", "value"] ["door", "player", "value"] (defScope s_law_door_come) := ⟨rfl, rfl, rfl, by decide +kernel, rfl, by decide +kernel, by decide +kernel⟩
theorem ok_law_door_come (F : Fun K "_law_door_come" "_law_door_come" s_law_door_come f fd) : FnOk P w K mg base CX0 1 f fd ["door", "player", "value"] spOCome := by
  refine F.ok sc_law_door_come (fun vs H Q E h => ?_) (fun cdv A outer s H vs Q E hr h => ?_)
  · obtain ⟨o, L, p, v, s, k, rfl, _⟩ := h
    rfl
  obtain ⟨o, L, p, v, s, k0, rfl, hO, hp, W, k⟩ := h
  refine ⟨_, (pss_one (ps_asg (pe_tup (pa_cons (pv 2) pa_nil)) (pg_sub (pe_dget (hu_of hr) (pv 0) pe_str (fun _ _ => rfl)) (pv 1) set_list))), ?_⟩
  obtain ⟨l1, l2, l3, l4, l5, cv, hv, rfl, D⟩ := hO
  have nd := D.nd
  simp only [List.nodup_cons, List.mem_cons, List.not_mem_nil, or_false, not_or, not_false_eq_true, List.nodup_nil, and_true] at nd
  obtain ⟨⟨o1, o2, o3, o4, o5⟩, ⟨d12, d13, d14, d15⟩, ⟨d23, d24, d25⟩, ⟨d34, d35⟩, d45⟩ := nd
  refine ⟨_, rfl, szl (by show 1 ≤ _; decide), fun t nt => ?_⟩
  have g := same_new nt (.tup [v])
  have hl : cv.length = s.lev.length := by rw [pr_len D.cameP, W.lc]
  refine ⟨_, rfl, o, _, rfl, og_came (g _ _ D.dict), _, rfl, l1, cv, p, p, rfl, rfl, g _ _ D.came, ?_, ?_⟩
  · exact ixn (by rw [hl]; exact hp)
  have tk : TK H (upd (upd H t (.tup [v])) l1 (.lst (cv.set p (.ref t)))) := (TK.of g).trans (.put (g _ _ D.came) fun z => z)
  have ht : upd (upd H t (.tup [v])) l1 (.lst (cv.set p (.ref t))) t = some (.tup [v]) := by rw [upd_ne (fun z => by have := g _ _ D.came; rw [← z, upd_same] at this; cases this)]; exact upd_same
  refine k _ ((But.of g).put (by simp)) ⟨l1, l2, l3, l4, l5, cv.set p (.ref t), hv, rfl, ?_⟩
  refine ⟨by rw [upd_ne o1]; exact g _ _ D.dict, upd_same, pr_set (show One _ (.ref t) (some v) from ⟨t, rfl, ht⟩) p (pr_imp (fun _ _ => One.mono tk) D.cameP), by rw [upd_ne (Ne.symm d12)]; exact g _ _ D.lev, by rw [upd_ne (Ne.symm d13)]; exact g _ _ D.stg, by rw [upd_ne (Ne.symm d14)]; exact g _ _ D.won, by rw [upd_ne (Ne.symm d15)]; exact g _ _ D.heard, pr_imp (fun _ _ => One.mono tk) D.heardP, D.nd⟩
abbrev s_law_door_step : Stmt := top 32
theorem sc_law_door_step : FnScope ["door", "player", "stage"] ["door", "player"] (defScope s_law_door_step) := ⟨rfl, rfl, rfl, by decide +kernel, rfl, by decide +kernel, by decide +kernel⟩
theorem ok_law_door_step (F : Fun K "_law_door_step" "_law_door_step" s_law_door_step f fd) (T : LTx mg) : FnOk P w K mg base CX0 1 f fd ["door", "player"] spOStep := by
  refine F.ok sc_law_door_step (fun vs H Q E h => ?_) (fun cdv A outer s H vs Q E hr h => ?_)
  · obtain ⟨o, L, p, s, k, rfl, _⟩ := h
    rfl
  obtain ⟨o, L, p, s, k0, rfl, hO, hc, W, k⟩ := h
  refine ⟨_, (pss_cons (ps_set (i := 2) sc_law_door_step.nd rfl (Or.inl rfl) (pe_ix ix_list (pe_dget (hu_of hr) (pv 0) pe_str (fun _ _ => rfl)) (pv 1) (fun _ _ => rfl)))
  (pss_cons (ps_dput (hu_of hr) (pv 0) pe_str (pe_op op_add (pe_dget (hu_of hr) (pv 0) pe_str (fun _ _ => rfl)) pe_int) rfl)
  (pss_cons (ps_asg (pe_callB (call_min2 rfl) rfl T.min (by decide +kernel) (pa_cons pe_int (pa_cons (pe_op op_add (pv 2) pe_int) pa_nil))) (pg_sub (pe_dget (hu_of hr) (pv 0) pe_str (fun _ _ => rfl)) (pv 1) set_list))
  (pss_cons (ps_if (pt_cmpR op_eq (pv 2) pe_int (nomark _)) (pss_cons (ps_asg pe_int (pg_sub (pe_dget (hu_of hr) (pv 0) pe_str (fun _ _ => rfl)) (pv 1) set_list))
  (pss_one (ps_ret (pe_tup (pa_cons pe_str (pa_cons pe_int pa_nil)))))) pss_nil)
  (pss_cons (ps_if (pt_cmpR op_eq (pv 2) pe_int (nomark _)) (pss_cons (ps_asg (pe_cmpR op_notIn_seq pe_int (pe_dget (hu_of hr) (pv 0) pe_str (fun _ _ => rfl)) rfl) (pg_sub (pe_dget (hu_of hr) (pv 0) pe_str (fun _ _ => rfl)) (pv 1) set_list))
  (pss_one (ps_ret (pe_tup (pa_cons pe_str (pa_cons (pe_callTy call_tuple_of rfl T.tuple (by decide +kernel) (pa_cons (pe_dget (hu_of hr) (pv 0) pe_str (fun _ _ => rfl)) pa_nil)) pa_nil)))))) pss_nil)
  (pss_cons (ps_if (pt_cmpR op_eq (pv 2) pe_int (nomark _)) (pss_cons (ps_asg (pe_mid (pe_ifExp (pt_val (pe_ix ix_list (pe_dget (hu_of hr) (pv 0) pe_str (fun _ _ => rfl)) (pv 1) (fun _ _ => rfl))) pe_int pe_int)) (pg_sub (pe_dget (hu_of hr) (pv 0) pe_str (fun _ _ => rfl)) (pv 1) set_list))
  (pss_one (ps_ret (pe_tup (pa_cons pe_str (pa_cons (pe_ix ix_list (pe_dget (hu_of hr) (pv 0) pe_str (fun _ _ => rfl)) (pv 1) (fun _ _ => rfl)) pa_nil)))))) pss_nil)
  (pss_cons (ps_if (pt_cmpR op_in_seq pe_int (pe_dget (hu_of hr) (pv 0) pe_str (fun _ _ => rfl)) rfl) (pss_one (ps_ret (pe_tup (pa_cons pe_str pa_nil)))) pss_nil)
  (pss_cons (ps_asg (pe_ix ix_list (pe_dget (hu_of hr) (pv 0) pe_str (fun _ _ => rfl)) (pe_bm PySem.F.plainAttrs_list PySem.F.slot_list_index PySem.F.type_list_index mt_index (pe_dget (hu_of hr) (pv 0) pe_str (fun _ _ => rfl)) (pa_cons pe_int pa_nil)) (fun _ _ => rfl)) (pg_sub (pe_dget (hu_of hr) (pv 0) pe_str (fun _ _ => rfl)) (pv 1) set_list))
  (pss_one (ps_ret (pe_op op_catA (pe_tup (pa_cons pe_str pa_nil)) (pe_ix ix_list (pe_dget (hu_of hr) (pv 0) pe_str (fun _ _ => rfl)) (pv 1) (fun _ _ => rfl))))))))))))), ?_⟩
  obtain ⟨l1, l2, l3, l4, l5, cv, hv, rfl, D⟩ := hO
  have nd := D.nd
  simp only [List.nodup_cons, List.mem_cons, List.not_mem_nil, or_false, not_or, not_false_eq_true, List.nodup_nil, and_true] at nd
  obtain ⟨⟨o1, o2, o3, o4, o5⟩, ⟨d12, d13, d14, d15⟩, ⟨d23, d24, d25⟩, ⟨d34, d35⟩, d45⟩ := nd
  have hp := DS.lt_of_cm W hc
  have hps : p < s.seen.length := by rw [W.ls]; exact hp
  have hst : ((List.range s.lev.length).map fun p => V.int (s.stg p : Nat))[p]? = some (.int (s.stg p : Nat)) := by rw [List.getElem?_map, List.getElem?_range hp]; rfl
  refine ⟨_, rfl, o, _, rfl, og_stg D.dict, _, rfl, l3, _, _, _, rfl, rfl, .of D.stg, atI_nat hst, ?_⟩
  refine ⟨_, rfl, o, _, rfl, og_steps D.dict, _, _, rfl, rfl, _, rfl, o, _, rfl, oput_steps D.dict, ?_⟩
  have b1 : But [o, l1, l2, l3, l4, l5] H (upd H o (.dK (odict l1 l2 l3 l4 l5 (k0 + 1)))) := (But.refl _ _).put (by simp)
  have q1 : ∀ {l : Addr} {u : HO}, l ≠ o → H l = some u → upd H o (.dK (odict l1 l2 l3 l4 l5 (k0 + 1))) l = some u := fun ne h => by rw [upd_ne ne]; exact h
  refine ⟨_, rfl, _, _, rfl, rfl, _, _, rfl, _, rfl, o, _, rfl, og_stg upd_same, _, rfl, l3, _, p, p, rfl, rfl, q1 (Ne.symm o3) D.stg, ixn (by simpa using hp), ?_⟩
  generalize hm : (if (s.stg p : Int) + 1 < 3 then (s.stg p : Int) + 1 else 3) = m
  have hm' : m = ((min 3 (s.stg p + 1) : Nat) : Int) := by subst hm; split <;> omega
  subst hm'
  have b2 := b1.put (o := .lst (((List.range s.lev.length).map fun p => V.int (s.stg p : Nat)).set p (.int (min 3 (s.stg p + 1) : Nat)))) (p := l3) (by simp)
  have tk0 : TK H (upd (upd H o (.dK (odict l1 l2 l3 l4 l5 (k0 + 1)))) l3 (.lst (((List.range s.lev.length).map fun p => V.int (s.stg p : Nat)).set p (.int (min 3 (s.stg p + 1) : Nat))))) := (TK.put D.dict fun z => z).trans (.put (q1 (Ne.symm o3) D.stg) fun z => z)
  have est : ((List.range s.lev.length).map fun p => V.int (s.stg p : Nat)).set p (.int (min 3 (s.stg p + 1) : Nat)) = (List.range (s.step p).lev.length).map fun q => V.int ((s.step p).stg q : Nat) := by
    rw [DS.len_step]
    refine List.ext_getElem? fun i => ?_
    rw [List.getElem?_set, List.length_map, List.length_range, List.getElem?_map, List.getElem?_map]
    by_cases hi : i < s.lev.length
    · rw [List.getElem?_range hi]
      by_cases e : p = i
      · subst e; rw [if_pos rfl, if_pos hp, Option.map_some, DS.stg_step W hc, if_pos rfl]
      · rw [if_neg e, Option.map_some, Option.map_some, DS.stg_step W hc, if_neg e]
    · rw [List.getElem?_eq_none (by simpa using hi)]
      by_cases e : p = i
      · exact absurd (e ▸ hp) hi
      · rw [if_neg e]; rfl
  rw [est] at b2 tk0 ⊢
  generalize hH2 : upd (upd H o (.dK (odict l1 l2 l3 l4 l5 (k0 + 1)))) l3 (.lst ((List.range (s.step p).lev.length).map fun q => V.int ((s.step p).stg q : Nat))) = H2 at b2 tk0 ⊢
  have e_o : H2 o = some (.dK (odict l1 l2 l3 l4 l5 (k0 + 1))) := by rw [← hH2, upd_ne o3]; exact upd_same
  have e1 : H2 l1 = some (.lst cv) := by rw [← hH2, upd_ne d13]; exact q1 (Ne.symm o1) D.came
  have e2 : H2 l2 = some (.lst (s.lev.map lvV)) := by rw [← hH2, upd_ne d23]; exact q1 (Ne.symm o2) D.lev
  have e3 : H2 l3 = some (.lst ((List.range (s.step p).lev.length).map fun q => V.int ((s.step p).stg q : Nat))) := by rw [← hH2]; exact upd_same
  have e4 : H2 l4 = some (.lst ((List.range s.lev.length).map fun p => V.bl (s.won p))) := by rw [← hH2, upd_ne (Ne.symm d34)]; exact q1 (Ne.symm o4) D.won
  have e5 : H2 l5 = some (.lst hv) := by rw [← hH2, upd_ne (Ne.symm d35)]; exact q1 (Ne.symm o5) D.heard
  have cP := pr_imp (fun _ _ => One.mono tk0) D.cameP
  have hP := pr_imp (fun _ _ => One.mono tk0) D.heardP
  have won_same : (∀ q, (s.step p).sn q = s.sn q) → (List.range (s.step p).lev.length).map (fun p' => V.bl ((s.step p).won p')) = (List.range s.lev.length).map fun p => V.bl (s.won p) := fun h => by
    rw [DS.len_step]; refine List.map_congr_left fun q _ => ?_; unfold DS.won; rw [h]
  have came_s := DS.came_step (s := s) (p := p)
  have h4 := DS.stg_lt s p
  have tl : ∀ {i : Int} {l : List Lv} {xs : List V}, xs = l.map lvV → xs.all flatV = true := fun e => by rw [e]; exact lv_flat _
  rcases (show s.stg p = 0 ∨ s.stg p = 1 ∨ s.stg p = 2 ∨ s.stg p = 3 by omega) with z | z | z | z
  · refine ⟨_, rfl, rfl, _, rfl, ite_yes (by rw [z]; rfl) ?_⟩
    refine ⟨_, rfl, o, _, rfl, og_lev e_o, _, rfl, l2, _, p, p, rfl, rfl, e2, ixn (by simpa using hp), ?_⟩
    refine ⟨szl (by show 2 ≤ _; decide), fun t nt => ?_⟩
    have tk := TK.put (u := .lst ((s.lev.map lvV).set p (.int 1))) e2 (fun z => z)
    have gn := same_new nt (.tup [.str "level", .int 1])
    refine k t _ ((b2.put (p := l2) (by simp)).new nt) (by rw [DS.told0 z]; exact upd_same) (OwnAt.same ⟨l1, l2, l3, l4, l5, cv, hv, rfl, ?_⟩ gn)
    have es := DS.step0 z
    refine ⟨by rw [upd_ne o2]; exact e_o, by rw [upd_ne d12]; exact e1, ?_, ?_, by rw [upd_ne (Ne.symm d23)]; exact e3, ?_, by rw [upd_ne (Ne.symm d25)]; exact e5, ?_, D.nd⟩
    · rw [came_s]; exact pr_imp (fun _ _ => One.mono tk) cP
    · rw [upd_same, es]; show _ = some (HO.lst ((s.lev.set p (some 1)).map lvV)); rw [List.map_set]; rfl
    · rw [upd_ne (Ne.symm d24), e4, won_same (DS.sn_stepN (by omega))]
    · rw [es]; exact pr_imp (fun _ _ => One.mono tk) hP
  · refine ⟨_, rfl, rfl, _, rfl, ite_no (by rw [z]; rfl) ⟨_, rfl, rfl, _, rfl, ite_yes (by rw [z]; rfl) ?_⟩⟩
    refine ⟨_, rfl, o, _, rfl, og_lev e_o, l2, _, rfl, .inl (.of e2), rfl, lv_flat _, ?_⟩
    rw [show (if true = true then !inV (.int 2) (s.lev.map lvV) else inV (.int 2) (s.lev.map lvV)) = !decide (some 2 ∈ s.lev) by rw [inV_lv]; rfl]
    refine ⟨_, rfl, o, _, rfl, og_won e_o, _, rfl, l4, _, p, p, rfl, rfl, e4, ixn (by simpa using hp), ?_⟩
    have tk := TK.put (u := .lst (((List.range s.lev.length).map fun p => V.bl (s.won p)).set p (.bl (!decide (some 2 ∈ s.lev))))) e4 (fun z => z)
    refine ⟨_, rfl, o, _, rfl, og_lev (by rw [upd_ne o4]; exact e_o), l2, _, rfl, .inl ⟨.of (by rw [upd_ne d24]; exact e2), fun r nr => ?_⟩⟩
    have gr := same_new nr (.tup (s.lev.map lvV))
    refine ⟨szl (by show 2 ≤ _; decide), fun t nt => ?_⟩
    have gn := gr.trans (same_new nt (.tup [.str "look", .ref r]))
    refine k t _ (((b2.put (p := l4) (by simp)).new nr).new nt) (by rw [DS.told1 z]; exact ⟨r, upd_same, .inl (same_new nt _ _ _ upd_same)⟩) (OwnAt.same ⟨l1, l2, l3, l4, l5, cv, hv, rfl, ?_⟩ gn)
    have es := DS.step1 z
    refine ⟨by rw [upd_ne o4]; exact e_o, by rw [upd_ne d14]; exact e1, ?_, ?_, by rw [upd_ne d34]; exact e3, ?_, by rw [upd_ne (Ne.symm d45)]; exact e5, ?_, D.nd⟩
    · rw [came_s]; exact pr_imp (fun _ _ => One.mono tk) cP
    · rw [upd_ne d24, e2, es]
    · rw [upd_same, DS.len_step]
      congr 2
      refine List.ext_getElem? fun i => ?_
      rw [List.getElem?_set, List.length_map, List.length_range, List.getElem?_map, List.getElem?_map]
      by_cases hi : i < s.lev.length
      · rw [List.getElem?_range hi]
        by_cases e : p = i
        · subst e; rw [if_pos rfl, if_pos hp, Option.map_some]; unfold DS.won; rw [DS.sn_step1 z hps, if_pos rfl]
        · rw [if_neg e, Option.map_some, Option.map_some]; unfold DS.won; rw [DS.sn_step1 z hps, if_neg e]
      · rw [List.getElem?_eq_none (by simpa using hi)]
        by_cases e : p = i
        · exact absurd (e ▸ hp) hi
        · rw [if_neg e]; rfl
    · rw [es]; exact pr_imp (fun _ _ => One.mono tk) hP
  · refine ⟨_, rfl, rfl, _, rfl, ite_no (by rw [z]; rfl) ⟨_, rfl, rfl, _, rfl, ite_no (by rw [z]; rfl) ⟨_, rfl, rfl, _, rfl, ite_yes (by rw [z]; rfl) ?_⟩⟩⟩
    have hw : ((List.range s.lev.length).map fun p => V.bl (s.won p))[p]? = some (.bl (s.won p)) := by rw [List.getElem?_map, List.getElem?_range hp]; rfl
    have ewr : (if s.won p = true then (2 : Int) else 0) = s.wr p := by
      obtain ⟨l, hl⟩ : ∃ l, s.sn p = some l := by
        cases q : s.sn p with
        | none => exact absurd q (DS.stg2.mp z).2
        | some l => exact ⟨l, rfl⟩
      unfold DS.won DS.wr DS.saw
      rw [hl]
      simp only [Option.getD_some]
      by_cases h : some 2 ∈ l <;> simp [h]
    refine ⟨fun y H' => y = .int (s.wr p) ∧ H' = H2, ⟨_, rfl, o, _, rfl, og_won e_o, _, rfl, l4, _, _, _, rfl, rfl, .of e4, atI_nat hw, _, rfl, ?_⟩, ?_⟩
    · rw [← ewr]
      cases s.won p
      · exact iteF ⟨rfl, rfl⟩
      · exact iteT ⟨rfl, rfl⟩
    rintro y H3 ⟨rfl, rfl⟩
    refine ⟨_, rfl, o, _, rfl, og_lev e_o, _, rfl, l2, _, p, p, rfl, rfl, e2, ixn (by simpa using hp), ?_⟩
    have tk := TK.put (u := .lst ((s.lev.map lvV).set p (.int (s.wr p)))) e2 (fun z => z)
    refine ⟨_, rfl, o, _, rfl, og_lev (by rw [upd_ne o2]; exact e_o), _, rfl, l2, _, _, .int (s.wr p), rfl, rfl, .of upd_same, atI_nat (by rw [List.getElem?_set]; simp [hp]), szl (by show 2 ≤ _; decide), fun t nt => ?_⟩
    have gn := same_new nt (.tup [.str "level", .int (s.wr p)])
    refine k t _ ((b2.put (p := l2) (by simp)).new nt) (by rw [DS.told2 z]; exact upd_same) (OwnAt.same ⟨l1, l2, l3, l4, l5, cv, hv, rfl, ?_⟩ gn)
    have es := DS.step2 z
    refine ⟨by rw [upd_ne o2]; exact e_o, by rw [upd_ne d12]; exact e1, ?_, ?_, by rw [upd_ne (Ne.symm d23)]; exact e3, ?_, by rw [upd_ne (Ne.symm d25)]; exact e5, ?_, D.nd⟩
    · rw [came_s]; exact pr_imp (fun _ _ => One.mono tk) cP
    · rw [upd_same, es]; show _ = some (HO.lst ((s.lev.set p (some (s.wr p))).map lvV)); rw [List.map_set]; rfl
    · rw [upd_ne (Ne.symm d24), e4, won_same (DS.sn_stepN (by omega))]
    · rw [es]; exact pr_imp (fun _ _ => One.mono tk) hP
  · refine ⟨_, rfl, rfl, _, rfl, ite_no (by rw [z]; rfl) ⟨_, rfl, rfl, _, rfl, ite_no (by rw [z]; rfl) ⟨_, rfl, rfl, _, rfl, ite_no (by rw [z]; rfl) ?_⟩⟩⟩
    refine ⟨_, rfl, o, _, rfl, og_lev e_o, l2, _, rfl, .inl (.of e2), rfl, lv_flat _, _, rfl, ?_⟩
    rw [show (if false = true then !inV (.int 1) (s.lev.map lvV) else inV (.int 1) (s.lev.map lvV)) = decide (some 1 ∈ s.lev) by rw [inV_lv]; rfl]
    have et := DS.told3 z
    have es := DS.step3 z
    have wns := won_same (DS.sn_stepN (by omega))
    refine ite2 (fun zz => ?_) (fun zz => ?_)
    · have zz := of_decide_eq_true zz
      rw [if_pos zz] at et es
      refine ⟨szl (by decide), fun t nt => ?_⟩
      have gn := same_new nt (.tup [.str "wait"])
      refine k t _ (b2.new nt) (by rw [et]; exact upd_same) (OwnAt.same ⟨l1, l2, l3, l4, l5, cv, hv, rfl, e_o, e1, ?_, ?_, e3, ?_, e5, ?_, D.nd⟩ gn)
      · rw [came_s]; exact cP
      · rw [e2, es]
      · rw [e4, wns]
      · rw [es]; exact hP
    · have zz : ¬ some 1 ∈ s.lev := of_decide_eq_false (by simpa using zz)
      rw [if_neg zz] at et es
      have h2 := DS.ask_two W z
      obtain ⟨m1, m2, m3⟩ := DS.two_lev h2
      obtain ⟨v, hv2⟩ := DS.two_came W h2
      obtain ⟨xc, hxc, oc⟩ := pr_at cP (W.acm m1)
      rw [hv2] at oc
      obtain ⟨q, rfl, hq⟩ := oc
      refine ⟨_, rfl, o, _, rfl, og_came e_o, _, rfl, o, _, rfl, og_lev e_o, .inl ⟨rfl, _, .of e2⟩, l2, _, .int 2, s.two, lvV (s.lv s.two), rfl, rfl, .of e2, rfl, lv_flat s.lev, alvV m1, by rw [eqV_lv, m2]; decide, fun m z' hm hz' => ?_, ?_⟩
      · rw [alvV (by omega)] at hz'
        cases hz'
        rw [eqV_lv]
        exact decide_eq_false (m3 m hm)
      have hlv : hv.length = s.lev.length := by rw [pr_len hP, W.lh]
      refine ⟨l1, cv, _, _, rfl, rfl, .of e1, atI_nat hxc, ?_⟩
      refine ⟨_, rfl, o, _, rfl, og_heard e_o, _, rfl, l5, hv, p, p, rfl, rfl, e5, ixn (by rw [hlv]; exact hp), ?_⟩
      have tk := TK.put (u := .lst (hv.set p (.ref q))) e5 (fun z => z)
      refine ⟨szl (by show 1 ≤ _; decide), fun t0 n0 => ?_⟩
      have g0 := same_new n0 (.tup [.str "word"])
      have e_o' : upd (upd H2 l5 (.lst (hv.set p (.ref q)))) t0 (.tup [.str "word"]) o = some (.dK (odict l1 l2 l3 l4 l5 (k0 + 1))) := g0 _ _ (by rw [upd_ne o5]; exact e_o)
      refine ⟨_, rfl, o, _, rfl, og_heard e_o', _, rfl, l5, _, _, .ref q, rfl, rfl, .of (g0 _ _ upd_same), atI_nat (by rw [List.getElem?_set]; simp [hlv, hp]), ?_⟩
      refine ⟨t0, q, [.str "word"], [v], rfl, rfl, .of upd_same, .of (g0 _ _ (tk.t hq)), szl (by show 1 + 1 ≤ _; decide), fun zn => (by cases zn), fun _ zn => (by cases zn), fun _ _ r nr => ?_⟩
      have gn := g0.trans (same_new nr (.tup ([.str "word"] ++ [v])))
      refine k r _ (((b2.put (p := l5) (by simp)).new n0).new nr) (by rw [et, hv2]; exact upd_same) (OwnAt.same ⟨l1, l2, l3, l4, l5, cv, hv.set p (.ref q), rfl, ?_⟩ gn)
      refine ⟨by rw [upd_ne o5]; exact e_o, by rw [upd_ne d15]; exact e1, ?_, ?_, by rw [upd_ne d35]; exact e3, ?_, upd_same, ?_, D.nd⟩
      · rw [came_s]; exact pr_imp (fun _ _ => One.mono tk) cP
      · rw [upd_ne d25, e2, es]
      · rw [upd_ne d45, e4, wns]
      · rw [es]; show Paired _ (hv.set p (.ref q)) (s.heard.set p (s.cm s.two)); rw [hv2]; exact pr_set (show One _ (.ref q) (some v) from ⟨q, rfl, tk.t hq⟩) p (pr_imp (fun _ _ => One.mono tk) hP)
abbrev s_law_drawn_deed : Stmt := top 35
theorem sc_law_drawn_deed : FnScope ["pot", "own", "player"] ["pot", "own"] (defScope s_law_drawn_deed) := ⟨rfl, rfl, rfl, by decide +kernel, rfl, by decide +kernel, by decide +kernel⟩
theorem ok_law_drawn_deed (F : Fun K "_law_drawn_deed" "_law_drawn_deed" s_law_drawn_deed f fd) (T : LTx mg) (G_law_take : Fd P w K mg base CX0 "_law_take" 1 ["pot", "upto"] spTake) (G_law_drawn_value : Fd P w K mg base CX0 "_law_drawn_value" 5 ["pot", "deep"] (spVal 3)) : FnOk P w K mg base CX0 6 f fd ["pot", "own"] spDeed := by
  refine F.ok sc_law_drawn_deed (fun vs H Q E h => ?_) (fun cdv A outer s H vs Q E hr h => ?_)
  · obtain ⟨pt, o, L, s, k, m, rfl, _⟩ := h
    rfl
  obtain ⟨pt, o, L, s, k0, m, rfl, hO, W, hpt, hP, hm, k⟩ := h
  refine ⟨_, (pss_cons (ps_set (i := 2) sc_law_drawn_deed.nd rfl (Or.inl rfl) (pe_fd G_law_take (hr.mono (by first | decide | omega)) rfl (pa_cons (pv 0) (pa_cons (pe_callB call_len rfl T.len (by decide +kernel) (pa_cons (pe_dget (hu_of hr) (pv 1) pe_str (fun _ _ => rfl)) pa_nil)) pa_nil))))
  (pss_cons (ps_if (pt_cmpR op_isN (pe_ix ix_list (pe_dget (hu_of hr) (pv 1) pe_str (fun _ _ => rfl)) (pv 2) (fun _ _ => rfl)) pe_non (nomark _)) (pss_one (ps_ret (pe_tup (pa_cons (pv 2) (pa_cons (pe_tup (pa_cons (pe_fd G_law_drawn_value (hr.mono (by first | decide | omega)) rfl (pa_cons (pv 0) (pa_cons pe_int pa_nil))) pa_nil)) pa_nil))))) pss_nil)
  (pss_one (ps_ret (pe_tup (pa_cons (pv 2) (pa_cons pe_non pa_nil))))))), ?_⟩
  have hO0 := hO
  obtain ⟨l1, l2, l3, l4, l5, cv, hv, rfl, D⟩ := hO0
  have hl : cv.length = s.lev.length := by rw [pr_len D.cameP, W.lc]
  have h1 := W.n1
  have h5 := W.n5
  refine ⟨_, rfl, _, rfl, o, _, rfl, og_came D.dict, _, cv.length, rfl, .inl ⟨_, .of D.came, rfl⟩, pt, cv.length, m, rfl, by omega, by omega, by omega, hP, fun p H1 hp g1 hP1 => ?_⟩
  have hp' : p < s.lev.length := by omega
  have tk1 : TK H H1 := TK.but g1 fun a ha z => by
    rw [List.mem_singleton.mp ha] at z
    obtain ⟨ys, e⟩ := hP.there
    rw [e] at z; exact z
  have hO1 := hO.but g1 (fun x hx => by rw [List.mem_singleton.mp hx]; exact hpt) tk1
  obtain ⟨l1', l2', l3', l4', l5', cv', hv', eL, D1⟩ := hO1
  obtain ⟨xc, hxc, oc⟩ := pr_at D1.cameP (W.acm hp')
  refine ⟨_, rfl, o, _, rfl, og_came D1.dict, _, rfl, l1', cv', _, _, rfl, rfl, .of D1.came, atI_nat hxc, rfl, _, rfl, ?_⟩
  rw [oc.is]
  cases hc : s.cm p with
  | none =>
    refine iteT ⟨_, rfl, _, rfl, pt, 2, m + 1, rfl, by decide, by decide, by show m + 1 + 26 ≤ _; omega, hP1, fun v d H2 g2 hv hd hP2 => ?_⟩
    refine ⟨szl (by show 1 ≤ _; decide), fun q nq => ⟨szl (by show 2 ≤ _; decide), fun t nt => ?_⟩⟩
    have gq := same_new nq (.tup [v])
    have gt := same_new nt (.tup [.int p, .ref q])
    refine k t p _ (((g1.trans g2).new nq).new nt) ?_ hp' (.inl ⟨hc, q, v, upd_same, gt _ _ upd_same, d, hv.mono ((TK.of gq).trans (.of gt)), hd⟩)
    obtain ⟨a, b, c, x1, x2, x3, x4, x5⟩ := hP2
    exact ⟨a, b, c, gt _ _ (gq _ _ x1), x2, x3, x4, by have : vc 2 = 26 := rfl; omega⟩
  | some v =>
    refine iteF ⟨_, rfl, szl (by show 2 ≤ _; decide), fun t nt => ?_⟩
    have gt := same_new nt (.tup [.int p, .non])
    refine k t p _ (g1.new nt) ?_ hp' (.inr ⟨by rw [hc]; simp, upd_same⟩)
    obtain ⟨a, b, c, x1, x2, x3, x4, x5⟩ := hP1
    exact ⟨a, b, c, gt _ _ x1, x2, x3, x4, by omega⟩
end
end Fp
/-! errors of the program's own classes, whose __init__ (a base's) keeps its only argument as value: made and raised -/
namespace Fp
open PySem PySem.Spec PyProof.Rows L2
/-- HandError.__init__: self.value = value -/
def spHInit (K : PySem.W.Frag) : Sp := fun vs H Q _ => ∃ (a C : Addr) (v : V), vs = [.ref a, v] ∧ OexC K C ∧ PySem.W.findIn K (.ref C) "value" = some none ∧ H a = some (exo a C none) ∧
  ∀ dx, H dx = none → dx ≠ a → Q .non (upd (upd H dx (exd dx [("value", v)])) a (exo a C (some dx)))
structure ErrC (P : Program) (w : World) (K : PySem.W.Frag) (mg : Str → Option Value) (base : Heap) (x : Str) (C : Addr) : Prop where
  oex : OexC K C
  at_ : mg x = some (.ref C)
  noV : PySem.W.findIn K (.ref C) "value" = some none
  ex : ∃ (fI : Addr) (fd : FuncData), PySem.W.findIn K (.ref C) "__init__" = some (some (.ref fI)) ∧ PySem.W.typeIn K (.ref fI) = some (.type "function") ∧ Binds K fd ["self", "value"] [] ∧ FnOk P w K mg base CX0 1 fI fd ["self", "value"] (spHInit K)
/-- raise X(e) -/
def tRaiseE (C : Addr) (W : WX) (te : TE) : TS := fun _ σ H => te σ H fun v H1 => ∀ d, H1 d = none → W (.ref C) (some d) σ (upd H1 d (.xd [("value", v)]))
section
variable {X : Cx} {W : WX} {x : Str} {C : Addr} {e : Expr} {te : TE} {p pos pos' : Pos}
theorem del_upd {H : Hp} {a : Addr} {o u : HO} (h : H a = none) : L2.del (upd (upd H a o) a u) a = H := by
  funext b
  by_cases z : b = a
  · rw [z, del_same, h]
  · rw [del_ne z, upd_ne z, upd_ne z]
def tUp (te : TE) : TE := fun σ H Q => ∃ Q' : V → Hp → Prop, te σ H Q' ∧ ∀ x H', Q' x H' → Q x H'
theorem pe_up (he : PE X e te) : PE X e (tUp te) := ⟨fun pins s σ H Q I h => by
  obtain ⟨Q', h, m⟩ := h
  exact thn (he.run pins s σ H _ I h) fun u s1 ⟨x, H1, I1, r1, q1⟩ => ⟨x, H1, I1, r1, m _ _ q1⟩⟩
theorem ps_raiseE (hc : X.calm = true) (tk : Takes X W) (M : ErrC X.prog X.w X.K X.mg X.base x C) (hr : Room 2 X.A) (hg : Gl X x) (he : PE X e te) (hdb : (x == ("__debug__" : Str)) = false := by decide)
    (hs : starEach [e] X.env = (false, eval e X.env) :: starEach [] X.env := by rfl) (hpl : (backTo pos (starEach [] X.env)).any (·.1) = false := by rfl) : PS X (.Raise (some (.Call (.Name x p) [e] [] pos)) none pos') (tRaiseE C W te) := by
  obtain ⟨fI, fd, iC, tI, hb, F⟩ := M.ex
  have r := ps_raise (pos := pos') hc tk (pmk_oex (p := p) (pos := pos) M.oex iC tI F hr hb .nil pass0 hg M.at_ (pa_cons (pe_up he) pa_nil hs) hdb hs hpl)
  refine ⟨fun pins s σ H D I h => r.run pins s σ H D I ?_⟩
  have h : te σ H fun v H1 => ∀ d, H1 d = none → W (.ref C) (some d) σ (upd H1 d (.xd [("value", v)])) := h
  refine ⟨_, h, fun v H1 q => ?_⟩
  refine ⟨by show 1 ≤ 1000; decide, fun a ha => ?_⟩
  refine ⟨a, C, v, rfl, M.oex, M.noV, upd_same, fun dx hdx ne => ⟨rfl, dx, [("value", v)], upd_same, ?_, ?_, ?_⟩⟩
  · rw [upd_ne ne]; exact upd_same
  · rw [upd_ne ne] at hdx; exact hdx
  · rw [upd_ne ne] at hdx
    have e : upd (L2.del (upd (upd (upd H1 a (exo a C none)) dx (exd dx [("value", v)])) a (exo a C (some dx))) a) dx (.xd [("value", v)]) = upd H1 dx (.xd [("value", v)]) := by
      funext b
      by_cases z : b = dx
      · rw [z, upd_same, upd_same]
      · rw [upd_ne z, upd_ne z]
        by_cases z2 : b = a
        · rw [z2, del_same, ha]
        · rw [del_ne z2, upd_ne z2, upd_ne z, upd_ne z2]
    rw [e]
    exact q dx hdx
end
end Fp
namespace Fp
open PySem PySem.Spec PyProof.Rows L2
section
variable {P : Program} {w : World} {K : PySem.W.Frag} {mg : Str → Option Value} {base : Heap} {f : Addr} {fd : FuncData} {C : Addr}
abbrev s_HandError_init : Stmt := inClass (top 2) 0
theorem sc_HandError_init : FnScope ["self", "value"] ["self", "value"] (defScope s_HandError_init) := ⟨rfl, rfl, rfl, by decide +kernel, rfl, by decide +kernel, by decide +kernel⟩
theorem ok_HandError_init (F : Fun K "__init__" "HandError.__init__" s_HandError_init f fd) : FnOk P w K mg base CX0 1 f fd ["self", "value"] (spHInit K) := by
  refine F.ok sc_HandError_init (fun vs H Q E h => ?_) (fun cdv A outer s H vs Q E hr h => ?_)
  · obtain ⟨a, C, v, rfl, _⟩ := h
    rfl
  obtain ⟨a, C, v, rfl, hO, hn, ha, k⟩ := h
  refine ⟨_, (pss_one (ps_ost (pv 0) (pv 1))), ?_⟩
  exact ⟨_, rfl, _, rfl, a, C, rfl, hO, hn, .inl ⟨ha, fun dx hx ne => k dx hx ne⟩⟩
end
end Fp
/-! values of any kind: is it whole -/
namespace Fp
open PySem PySem.Spec PyProof.Rows L2
/-- a value of a plain kind, and whether it is an integer and no bool -/
inductive KindV (K : PySem.W.Frag) (H : Hp) : V → Bool → Prop
  | int (i : Int) : KindV K H (.int i) true
  | bl (b : Bool) : KindV K H (.bl b) false
  | non : KindV K H .non false
  | str (z : Str) : KindV K H (.str z) false
  | lst {a : Addr} (h : TyX K H (.ref a) (.type "list")) : KindV K H (.ref a) false
  | tup {a : Addr} (h : TyX K H (.ref a) (.type "tuple")) : KindV K H (.ref a) false
  | dct {a : Addr} (h : TyX K H (.ref a) (.type "dict")) : KindV K H (.ref a) false
def spWholeA (K : PySem.W.Frag) : Sp := fun vs H Q _ => ∃ (v : V) (b : Bool), vs = [v] ∧ KindV K H v b ∧ Q (.bl b) H
def spBelowA (K : PySem.W.Frag) : Sp := fun vs H Q _ => ∃ (v : V) (n : Int), vs = [v, .int n] ∧ ((∃ i, v = .int i ∧ Q (.bl (decide (0 ≤ i ∧ i < n))) H) ∨ (KindV K H v false ∧ Q (.bl false) H))
end Fp
namespace Fp
open PySem PySem.Spec PyProof.Rows L2
/-- o.check_player(v), v no number of a player: BadHand(v) -/
def WrongP (K : PySem.W.Frag) (H : Hp) (n : Nat) (v : V) : Prop := (∃ i : Int, v = .int i ∧ ¬ (0 ≤ i ∧ i < n)) ∨ KindV K H v false
def spCheckX (K : PySem.W.Frag) (C CE : Addr) : Sp := fun vs H Q E => ∃ (d : Addr) (v : V) (s : DS), vs = [.ref d, v] ∧ DoorAt C H d s ∧ WrongP K H s.lev.length v ∧ ∀ e, H e = none → E (.ref CE) (some e) (upd H e (.xd [("value", v)]))
section
variable {P : Program} {w : World} {K : PySem.W.Frag} {mg : Str → Option Value} {base : Heap} {f : Addr} {fd : FuncData} {C CE : Addr}
theorem ok_is_wholeA (F : Fun K "is_whole" "is_whole" s_is_whole f fd) (T : PTx mg) : FnOk P w K mg base CX0 1 f fd ["value"] (spWholeA K) := by
  refine F.ok sc_is_whole (fun vs H Q E h => ?_) (fun cdv A outer s H vs Q E hr h => ?_)
  · obtain ⟨v, b, rfl, _⟩ := h
    rfl
  obtain ⟨v, b, rfl, hk, q⟩ := h
  refine ⟨_, (pss_one (ps_ret (pe_and (pe_callB call_isi rfl T.isinstance (by decide +kernel) (pa_cons (pv 0) (pa_cons (pe_bltn (v := .ty "int") rfl T.int boot_int rfl) pa_nil))) (pe_one (pe_not (pe_callB call_isi rfl T.isinstance (by decide +kernel) (pa_cons (pv 0) (pa_cons (pe_bltn (v := .ty "bool") rfl T.bool boot_bool rfl) pa_nil)))))))), ?_⟩
  cases hk with
  | int i => exact ⟨_, rfl, _, _, _, _, true, rfl, .ty "int", .base (.int i), by first | rfl | decide +kernel | kernel_rfl, _, rfl, iteT ⟨_, rfl, _, _, _, _, false, rfl, .ty "bool", .base (.int i), by first | rfl | decide +kernel | kernel_rfl, _, rfl, q⟩⟩
  | bl b => exact ⟨_, rfl, _, _, _, _, true, rfl, .ty "int", .base (.bl b), by first | rfl | decide +kernel | kernel_rfl, _, rfl, iteT ⟨_, rfl, _, _, _, _, true, rfl, .ty "bool", .base (.bl b), by first | rfl | decide +kernel | kernel_rfl, _, rfl, q⟩⟩
  | non => exact ⟨_, rfl, _, _, _, _, false, rfl, .ty "int", .base .non, by first | rfl | decide +kernel | kernel_rfl, _, rfl, iteF q⟩
  | str z => exact ⟨_, rfl, _, _, _, _, false, rfl, .ty "int", .base (.str z), by first | rfl | decide +kernel | kernel_rfl, _, rfl, iteF q⟩
  | lst h => exact ⟨_, rfl, _, _, _, _, false, rfl, .ty "int", h, by first | rfl | decide +kernel | kernel_rfl, _, rfl, iteF q⟩
  | tup h => exact ⟨_, rfl, _, _, _, _, false, rfl, .ty "int", h, by first | rfl | decide +kernel | kernel_rfl, _, rfl, iteF q⟩
  | dct h => exact ⟨_, rfl, _, _, _, _, false, rfl, .ty "int", h, by first | rfl | decide +kernel | kernel_rfl, _, rfl, iteF q⟩
theorem ok_is_belowA (F : Fun K "is_below" "is_below" s_is_below f fd) (G_is_whole : Fd P w K mg base CX0 "is_whole" 1 ["value"] (spWholeA K)) : FnOk P w K mg base CX0 2 f fd ["value", "many"] (spBelowA K) := by
  refine F.ok sc_is_below (fun vs H Q E h => ?_) (fun cdv A outer s H vs Q E hr h => ?_)
  · obtain ⟨i, n, rfl, _⟩ := h
    rfl
  obtain ⟨v, n, rfl, q⟩ := h
  refine ⟨_, (pss_one (ps_ret (pe_and (pe_fd G_is_whole (hr.mono (by first | decide | omega)) rfl (pa_cons (pv 0) pa_nil)) (pe_one (pe_chain op_le op_lt pe_int (pv 0) (pv 1)))))), ?_⟩
  rcases q with ⟨i, rfl, q⟩ | ⟨hk, q⟩
  · refine ⟨_, rfl, _, true, rfl, .int i, _, rfl, iteT ⟨_, rfl, _, _, rfl, rfl, _, rfl, ?_⟩⟩
    refine ite2 (fun c => ?_) (fun c => ?_)
    · refine ⟨_, rfl, _, _, rfl, rfl, ?_⟩
      have c' : 0 ≤ i := of_decide_eq_true c
      have e : decide (0 ≤ i ∧ i < n) = decide (i < n) := by simp [c']
      rw [e] at q
      exact q
    · have c' : ¬ 0 ≤ i := of_decide_eq_false (by simpa using c)
      have e : decide (0 ≤ i ∧ i < n) = false := decide_eq_false (fun z => c' z.1)
      rw [e] at q
      exact q
  · exact ⟨_, rfl, _, false, rfl, hk, _, rfl, iteF q⟩
theorem ok_Door_check_playerX (F : Fun K "check_player" "Door.check_player" s_Door_check_player f fd) (hC : DC K C) (hE : ErrC P w K mg base "BadHand" CE) (G_is_below : Fd P w K mg base CX0 "is_below" 2 ["value", "many"] (spBelowA K)) : FnOk P w K mg base (L2.CX P w) 3 f fd ["self", "player"] (spCheckX K C CE) := by
  refine F.okX sc_Door_check_player (fun vs H Q E h => ?_) (fun cdv A outer s0 H vs Q E hr h => ?_)
  · obtain ⟨d, v, s, rfl, _⟩ := h
    rfl
  obtain ⟨d, v, s, rfl, hD, hw, k⟩ := h
  refine ⟨_, (pss_one (ps_if (pt_not (pt_val (pe_fd G_is_below (hr.mono (by first | decide | omega)) rfl (pa_cons (pv 1) (pa_cons (pe_fld (pv 0) rfl) pa_nil))))) (pss_one (ps_raiseE rfl (takes_of rfl rfl rfl rfl) hE (hr.mono (by decide)) rfl (pv 1))) pss_nil)), ?_⟩
  obtain ⟨dx, a, b, c, e, f, cv, hv, sv, dv, D⟩ := hD
  rcases hw with ⟨i, rfl, hn⟩ | hk
  · refine ⟨_, rfl, _, rfl, d, C, dx, _, _, rfl, D.obj, hC.cl, hC.nM, d_many, _, _, rfl, .inl ⟨i, rfl, _, rfl, ?_⟩⟩
    rw [decide_eq_false hn]
    exact iteT ⟨_, rfl, k⟩
  · exact ⟨_, rfl, _, rfl, d, C, dx, _, _, rfl, D.obj, hC.cl, hC.nM, d_many, _, _, rfl, .inr ⟨hk, _, rfl, iteT ⟨_, rfl, k⟩⟩⟩
end
end Fp
/-! calls that may raise, in a def that errors leave -/
namespace Fp
open PySem PySem.Spec PyProof.Rows L2
section
variable {X : Cx} {k : Nat} {C : Addr} {ps : List Str} {sp : Sp} {m x : Str} {p pos apos : Pos} {o e : Expr} {es : List Expr} {ta : TE} {t : TA} {E : XK}
theorem pass_of (tk : Takes X (fun cls d _ H => E cls d H)) : Passes (L2.CX X.prog X.w) X E := fun pins σ H s e s' I c => passAt tk σ pins H s e s' I c
theorem pe_mdE {pl : Sem Bool} (tk : Takes X (fun cls d _ H => E cls d H)) (he : PE X o ta) (c : Cls X.K C) (M : Md X.prog X.w X.K X.mg X.base (L2.CX X.prog X.w) C m k ps sp) (hr : Room k X.A) (ha : PA X (e :: es) t)
    (hst : starEach (e :: es) X.env = (false, eval e X.env) :: starEach es X.env := by rfl) (hpl : (backTo pos (starEach es X.env)).any (·.1) = false := by rfl)
    (ht : eval (.Call (.Attribute o m apos) (e :: es) [] pos) X.env = (do
      let ov ← eval o X.env
      standAt apos.atName
      let (f, first) ← holding [ov] (getMethod ov m pl)
      callWith pos f first (backTo pos (starEach (e :: es) X.env)) (backToKw pos (keywordEach [] X.env))) := by rfl) :
    PE X (.Call (.Attribute o m apos) (e :: es) [] pos) (tMeth C m sp [] E ta t) := by
  obtain ⟨f, fd, h1, h2, h3⟩ := M.ex
  exact pe_meth he c h1 h3 hr h2 .nil (pass_of tk) ha hst hpl ht
theorem pe_fdE (tk : Takes X (fun cls d _ H => E cls d H)) (G : Fd X.prog X.w X.K X.mg X.base (L2.CX X.prog X.w) x k ps sp) (hr : Room k X.A) (hg : Gl X x) (ha : PA X (e :: es) t) (hdb : (x == ("__debug__" : Str)) = false := by decide)
    (he : starEach (e :: es) X.env = (false, eval e X.env) :: starEach es X.env := by rfl) (hpl : (backTo pos (starEach es X.env)).any (·.1) = false := by rfl) :
    PE X (.Call (.Name x p) (e :: es) [] pos) (tCall sp [] E t) := by
  obtain ⟨f, fd, h1, h2, h3, h4⟩ := G.ex
  exact pe_call h4 hr hg h1 h2 h3 .nil (pass_of tk) ha hdb he hpl
end
end Fp
namespace Fp
open PySem PySem.Spec PyProof.Rows L2
def spDInitX (K : PySem.W.Frag) (CE : Addr) : Sp := fun vs H Q E => ∃ (d : Addr) (v : V), vs = [.ref d, v] ∧ ((∃ i : Int, v = .int i ∧ ¬ (1 ≤ i ∧ i ≤ 5)) ∨ KindV K H v false) ∧ ∀ e, H e = none → E (.ref CE) (some e) (upd H e (.xd [("value", v)]))
def spStepN (C CE : Addr) : Sp := fun vs H Q E => ∃ (d : Addr) (p : Nat) (s : DS), vs = [.ref d, .int p] ∧ DoorAt C H d s ∧ p < s.lev.length ∧ s.cm p = none ∧ ∀ H' e, Same H H' → H' e = none → E (.ref CE) (some e) (upd H' e (.xd [("value", .int p)]))
def spComeX (K : PySem.W.Frag) (C CE : Addr) : Sp := fun vs H Q E => ∃ (d : Addr) (v x : V) (s : DS), vs = [.ref d, v, x] ∧ DoorAt C H d s ∧ WrongP K H s.lev.length v ∧ ∀ e, H e = none → E (.ref CE) (some e) (upd H e (.xd [("value", v)]))
def spComeC (C CE : Addr) : Sp := fun vs H Q E => ∃ (d : Addr) (p : Nat) (x : V) (s : DS), vs = [.ref d, .int p, x] ∧ DoorAt C H d s ∧ p < s.lev.length ∧ s.cm p ≠ none ∧ Good H x ∧ ∀ H' e, Same H H' → H' e = none → E (.ref CE) (some e) (upd H' e (.xd [("value", .int p)]))
section
variable {P : Program} {w : World} {K : PySem.W.Frag} {mg : Str → Option Value} {base : Heap} {f : Addr} {fd : FuncData} {C CE : Addr}
theorem ok_Door_nextX (F : Fun K "next" "Door.next" s_Door_next f fd) (T : PTx mg) (hC : DC K C) (M_check_player : Md P w K mg base (L2.CX P w) C "check_player" 3 ["self", "player"] (spCheckX K C CE)) : FnOk P w K mg base (L2.CX P w) 4 f fd ["self", "player"] (spCheckX K C CE) := by
  refine F.okX sc_Door_next (fun vs H Q E h => ?_) (fun cdv A outer s0 H vs Q E hr h => ?_)
  · obtain ⟨d, v, s, rfl, _⟩ := h
    rfl
  obtain ⟨d, v, s, rfl, hD, hw, k⟩ := h
  refine ⟨_, (pss_cons (ps_expr (pe_mdE (takes_of rfl rfl rfl rfl) (pv 0) hC.cl M_check_player hr (pa_cons (pv 1) pa_nil)))
  (pss_cons (ps_if (pt_cmpR op_isN (pe_ix ix_tup (pe_fld (pv 0) rfl) (pv 1) (fun _ _ => rfl)) pe_non (nomark _)) (pss_one (ps_ret pe_non)) pss_nil)
  (pss_cons (ps_if (pt_cmpR op_in_seq (pe_ix ix_tup (pe_fld (pv 0) rfl) (pv 1) (fun _ _ => rfl)) (pe_tup (pa_cons pe_int (pa_cons pe_int pa_nil))) rfl) (pss_one (ps_ret pe_str)) pss_nil)
  (pss_cons (ps_if (PW.pt (pw_and (pt_cmpR op_eq (pe_ix ix_tup (pe_fld (pv 0) rfl) (pv 1) (fun _ _ => rfl)) pe_int (nomark _)) (pw_and1 (pt_cmpR op_isN (pe_ix ix_tup (pe_fld (pv 0) rfl) (pv 1) (fun _ _ => rfl)) pe_non (nomark _))))) (pss_one (ps_ret pe_str)) pss_nil)
  (pss_one (ps_ret pe_str)))))), ?_⟩
  obtain ⟨dx, a, b, c, e, f', cv, hv, sv, dv, D⟩ := id hD
  exact ⟨_, rfl, d, dx, _, rfl, D.obj, no_check, _, rfl, d, v, s, rfl, hD, hw, k⟩
theorem ok_Door_initX (F : Fun K "__init__" "Door.__init__" s_Door_init f fd) (T : PTx mg) (hC : DC K C) (hE : ErrC P w K mg base "BadMany" CE) (G_is_whole : Fd P w K mg base CX0 "is_whole" 1 ["value"] (spWholeA K)) : FnOk P w K mg base (L2.CX P w) 3 f fd ["self", "many"] (spDInitX K CE) := by
  refine F.okX sc_Door_init (fun vs H Q E h => ?_) (fun cdv A outer s0 H vs Q E hr h => ?_)
  · obtain ⟨d, v, rfl, _⟩ := h
    rfl
  obtain ⟨d, v, rfl, hw, k⟩ := h
  refine ⟨_, (pss_cons (ps_if (PW.pt (pw_or (pt_not (pt_val (pe_fd G_is_whole (hr.mono (by first | decide | omega)) rfl (pa_cons (pv 1) pa_nil)))) (pw_or1 (pt_not (pt_chain op_le op_le pe_int (pv 1) (pe_cI T.c_MOST_PLAYERS)))))) (pss_one (ps_raiseE rfl (takes_of rfl rfl rfl rfl) hE (hr.mono (by decide)) rfl (pv 1))) pss_nil)
  (pss_cons (ps_fld (pv 0) (pv 1) rfl)
  (pss_cons (ps_fld (pv 0) (pe_op op_repF (pe_tupF (pa_cons pe_non pa_nil)) (pv 1)) rfl)
  (pss_cons (ps_fld (pv 0) (pe_op op_repF (pe_tupF (pa_cons pe_non pa_nil)) (pv 1)) rfl)
  (pss_cons (ps_fld (pv 0) (pe_op op_repF (pe_tupF (pa_cons pe_non pa_nil)) (pv 1)) rfl)
  (pss_cons (ps_fld (pv 0) (pe_op op_repF (pe_tupF (pa_cons pe_non pa_nil)) (pv 1)) rfl)
  (pss_one (ps_fld (pv 0) (pe_tup pa_nil) rfl)))))))), ?_⟩
  rcases hw with ⟨i, rfl, hn⟩ | hk
  · refine ⟨_, rfl, _, true, rfl, .int i, _, rfl, iteF ⟨_, rfl, _, _, rfl, rfl, _, rfl, ?_⟩⟩
    refine ite2 (fun c => ?_) (fun c => ?_)
    · have c' : 1 ≤ i := of_decide_eq_true c
      refine ⟨_, _, rfl, rfl, _, rfl, ?_⟩
      rw [decide_eq_false (show ¬ i ≤ 5 from fun z => hn ⟨c', z⟩)]
      exact iteT ⟨_, rfl, k⟩
    · exact ⟨_, rfl, iteT ⟨_, rfl, k⟩⟩
  · exact ⟨_, rfl, _, false, rfl, hk, _, rfl, iteT (iteT ⟨_, rfl, k⟩)⟩
theorem ok_Door_stepX (F : Fun K "step" "Door.step" s_Door_step f fd) (hC : DC K C) (G_exchanged : Fd P w K mg base CX0 "exchanged" 1 ["row", "at", "thing"] (spExch K)) (M_next : Md P w K mg base (L2.CX P w) C "next" 4 ["self", "player"] (spCheckX K C CE)) (M_shows_level : Md P w K mg base CX0 C "shows_level" 2 ["self", "player"] (spShows C)) (M_asks : Md P w K mg base CX0 C "asks" 2 ["self", "player"] (spAsks C)) : FnOk P w K mg base (L2.CX P w) 5 f fd ["self", "player"] (spCheckX K C CE) := by
  refine F.okX sc_Door_step (fun vs H Q E h => ?_) (fun cdv A outer s0 H vs Q E hr h => ?_)
  · obtain ⟨d, v, s, rfl, _⟩ := h
    rfl
  obtain ⟨d, v, s, rfl, hD, hw, k⟩ := h
  refine ⟨_, (pss_cons (ps_set (i := 2) sc_Door_step.nd rfl (Or.inl rfl) (pe_mdE (takes_of rfl rfl rfl rfl) (pv 0) hC.cl M_next hr (pa_cons (pv 1) pa_nil)))
  (pss_cons (ps_if (pt_cmpR op_isN (pv 2) pe_non (nomark _)) (pss_one (ps_no)) pss_nil)
  (pss_cons (ps_fld (pv 0) (pe_mid (pe_op op_catA (pe_fld (pv 0) rfl) (pe_tup (pa_cons (pe_tup (pa_cons pe_str (pa_cons (pv 1) (pa_cons (pv 2) pa_nil)))) pa_nil)))) rfl)
  (pss_cons (ps_if (pt_cmpR op_eq (pv 2) pe_str (nomark _)) (pss_one (ps_ret (pe_md (pv 0) hC.cl M_shows_level (hr.mono (by first | decide | omega)) (pa_cons (pv 1) pa_nil)))) pss_nil)
  (pss_cons (ps_if (pt_cmpR op_eq (pv 2) pe_str (nomark _)) (pss_cons (ps_fld (pv 0) (pe_fd G_exchanged (hr.mono (by first | decide | omega)) rfl (pa_cons (pe_fld (pv 0) rfl) (pa_cons (pv 1) (pa_cons (pe_fld (pv 0) rfl) pa_nil)))) rfl)
  (pss_one (ps_ret (pe_tup (pa_cons pe_str (pa_cons (pe_fld (pv 0) rfl) pa_nil)))))) pss_nil)
  (pss_one (ps_ret (pe_md (pv 0) hC.cl M_asks (hr.mono (by first | decide | omega)) (pa_cons (pv 1) pa_nil))))))))), ?_⟩
  obtain ⟨dx, a, b, c, e, f', cv, hv, sv, dv, D⟩ := id hD
  exact ⟨_, rfl, d, dx, _, rfl, D.obj, no_next, _, rfl, d, v, s, rfl, hD, hw, k⟩
theorem ok_Door_stepN (F : Fun K "step" "Door.step" s_Door_step f fd) (hC : DC K C) (hE : ErrC P w K mg base "NotCome" CE) (G_exchanged : Fd P w K mg base CX0 "exchanged" 1 ["row", "at", "thing"] (spExch K)) (M_next : Md P w K mg base CX0 C "next" 4 ["self", "player"] (spNext C)) (M_shows_level : Md P w K mg base CX0 C "shows_level" 2 ["self", "player"] (spShows C)) (M_asks : Md P w K mg base CX0 C "asks" 2 ["self", "player"] (spAsks C)) : FnOk P w K mg base (L2.CX P w) 5 f fd ["self", "player"] (spStepN C CE) := by
  refine F.okX sc_Door_step (fun vs H Q E h => ?_) (fun cdv A outer s0 H vs Q E hr h => ?_)
  · obtain ⟨d, v, s, rfl, _⟩ := h
    rfl
  obtain ⟨d, p, s, rfl, hD, hp, hc, k⟩ := h
  refine ⟨_, (pss_cons (ps_set (i := 2) sc_Door_step.nd rfl (Or.inl rfl) (pe_md (pv 0) hC.cl M_next (hr.mono (by first | decide | omega)) (pa_cons (pv 1) pa_nil)))
  (pss_cons (ps_if (pt_cmpR op_isN (pv 2) pe_non (nomark _)) (pss_one (ps_raiseE rfl (takes_of rfl rfl rfl rfl) hE (hr.mono (by decide)) rfl (pv 1))) pss_nil)
  (pss_cons (ps_fld (pv 0) (pe_mid (pe_op op_catA (pe_fld (pv 0) rfl) (pe_tup (pa_cons (pe_tup (pa_cons pe_str (pa_cons (pv 1) (pa_cons (pv 2) pa_nil)))) pa_nil)))) rfl)
  (pss_cons (ps_if (pt_cmpR op_eq (pv 2) pe_str (nomark _)) (pss_one (ps_ret (pe_md (pv 0) hC.cl M_shows_level (hr.mono (by first | decide | omega)) (pa_cons (pv 1) pa_nil)))) pss_nil)
  (pss_cons (ps_if (pt_cmpR op_eq (pv 2) pe_str (nomark _)) (pss_cons (ps_fld (pv 0) (pe_fd G_exchanged (hr.mono (by first | decide | omega)) rfl (pa_cons (pe_fld (pv 0) rfl) (pa_cons (pv 1) (pa_cons (pe_fld (pv 0) rfl) pa_nil)))) rfl)
  (pss_one (ps_ret (pe_tup (pa_cons pe_str (pa_cons (pe_fld (pv 0) rfl) pa_nil)))))) pss_nil)
  (pss_one (ps_ret (pe_md (pv 0) hC.cl M_asks (hr.mono (by first | decide | omega)) (pa_cons (pv 1) pa_nil))))))))), ?_⟩
  obtain ⟨dx, a, b, c, e, f', cv, hv, sv, dv, D⟩ := id hD
  have en : s.next p = none := by unfold DS.next; rw [if_neg (by rw [hc]; simp)]
  refine ⟨_, rfl, d, dx, _, rfl, D.obj, no_next, _, rfl, d, p, s, rfl, hD, hp, fun H1 g1 => ?_⟩
  rw [en]
  exact ⟨_, rfl, rfl, _, rfl, iteT ⟨_, rfl, fun e he => k H1 e g1 he⟩⟩
theorem ok_Door_comeX (F : Fun K "come" "Door.come" s_Door_come f fd) (hC : DC K C) (G_exchanged : Fd P w K mg base CX0 "exchanged" 1 ["row", "at", "thing"] (spExch K)) (G_is_small_value : Fd P w K mg base CX0 "is_small_value" 7 ["value"] spSmall) (M_check_player : Md P w K mg base (L2.CX P w) C "check_player" 3 ["self", "player"] (spCheckX K C CE)) : FnOk P w K mg base (L2.CX P w) 8 f fd ["self", "player", "value"] (spComeX K C CE) := by
  refine F.okX sc_Door_come (fun vs H Q E h => ?_) (fun cdv A outer s0 H vs Q E hr h => ?_)
  · obtain ⟨d, v, x, s, rfl, _⟩ := h
    rfl
  obtain ⟨d, v, x, s, rfl, hD, hw, k⟩ := h
  refine ⟨_, (pss_cons (ps_expr (pe_mdE (takes_of rfl rfl rfl rfl) (pv 0) hC.cl M_check_player (hr.mono (by decide)) (pa_cons (pv 1) pa_nil)))
  (pss_cons (ps_if (pt_not (pt_val (pe_fd G_is_small_value (hr.mono (by first | decide | omega)) rfl (pa_cons (pv 2) pa_nil)))) (pss_one (ps_no)) pss_nil)
  (pss_cons (ps_if (pt_cmpR op_notN (pe_ix ix_tup (pe_fld (pv 0) rfl) (pv 1) (fun _ _ => rfl)) pe_non (nomark _)) (pss_one (ps_no)) pss_nil)
  (pss_cons (ps_fld (pv 0) (pe_fd G_exchanged (hr.mono (by first | decide | omega)) rfl (pa_cons (pe_fld (pv 0) rfl) (pa_cons (pv 1) (pa_cons (pe_tup (pa_cons (pv 2) pa_nil)) pa_nil)))) rfl)
  (pss_one (ps_fld (pv 0) (pe_mid (pe_op op_catA (pe_fld (pv 0) rfl) (pe_tup (pa_cons (pe_tup (pa_cons pe_str (pa_cons (pv 1) (pa_cons (pv 2) pa_nil)))) pa_nil)))) rfl)))))), ?_⟩
  obtain ⟨dx, a, b, c, e, f', cv, hv, sv, dv, D⟩ := id hD
  exact ⟨_, rfl, d, dx, _, rfl, D.obj, no_check, _, rfl, d, v, s, rfl, hD, hw, k⟩
theorem ok_Door_comeC (F : Fun K "come" "Door.come" s_Door_come f fd) (hC : DC K C) (hE : ErrC P w K mg base "CameIn" CE) (G_exchanged : Fd P w K mg base CX0 "exchanged" 1 ["row", "at", "thing"] (spExch K)) (G_is_small_value : Fd P w K mg base CX0 "is_small_value" 7 ["value"] spSmall) (M_check_player : Md P w K mg base CX0 C "check_player" 3 ["self", "player"] (spCheck C)) : FnOk P w K mg base (L2.CX P w) 8 f fd ["self", "player", "value"] (spComeC C CE) := by
  refine F.okX sc_Door_come (fun vs H Q E h => ?_) (fun cdv A outer s0 H vs Q E hr h => ?_)
  · obtain ⟨d, v, x, s, rfl, _⟩ := h
    rfl
  obtain ⟨d, p, x, s, rfl, hD, hp, hc, hg, k⟩ := h
  refine ⟨_, (pss_cons (ps_expr (pe_md (pv 0) hC.cl M_check_player (hr.mono (by first | decide | omega)) (pa_cons (pv 1) pa_nil)))
  (pss_cons (ps_if (pt_not (pt_val (pe_fd G_is_small_value (hr.mono (by first | decide | omega)) rfl (pa_cons (pv 2) pa_nil)))) (pss_one (ps_no)) pss_nil)
  (pss_cons (ps_if (pt_cmpR op_notN (pe_ix ix_tup (pe_fld (pv 0) rfl) (pv 1) (fun _ _ => rfl)) pe_non (nomark _)) (pss_one (ps_raiseE rfl (takes_of rfl rfl rfl rfl) hE (hr.mono (by decide)) rfl (pv 1))) pss_nil)
  (pss_cons (ps_fld (pv 0) (pe_fd G_exchanged (hr.mono (by first | decide | omega)) rfl (pa_cons (pe_fld (pv 0) rfl) (pa_cons (pv 1) (pa_cons (pe_tup (pa_cons (pv 2) pa_nil)) pa_nil)))) rfl)
  (pss_one (ps_fld (pv 0) (pe_mid (pe_op op_catA (pe_fld (pv 0) rfl) (pe_tup (pa_cons (pe_tup (pa_cons pe_str (pa_cons (pv 1) (pa_cons (pv 2) pa_nil)))) pa_nil)))) rfl)))))), ?_⟩
  obtain ⟨dx, a, b, c, e, f', cv, hv, sv, dv, D⟩ := id hD
  have W := D.wf
  refine ⟨_, rfl, d, dx, _, rfl, D.obj, no_check, _, rfl, d, p, s, rfl, hD, hp, ?_⟩
  refine ⟨_, rfl, x, rfl, hg, fun H1 g1 => ⟨_, rfl, iteF ?_⟩⟩
  have D1 := D.mono (.of g1) (fun o q => g1 _ _ q) (by rw [g1 _ _ D.own]; exact D.own.symm)
  obtain ⟨xc, hxc, oc⟩ := pr_at D1.cameP (W.acm hp)
  refine ⟨_, rfl, d, C, dx, _, _, rfl, D1.obj, hC.cl, hC.nC, d_came, _, rfl, a, cv, _, _, rfl, rfl, D1.came.sq, atI_nat hxc, rfl, _, rfl, ?_⟩
  rw [oc.is]
  cases hcm : s.cm p with
  | none => exact absurd hcm hc
  | some y => exact iteT ⟨_, rfl, fun e he => k H1 e g1 he⟩
end
end Fp
/-! an error that is kept behind its except suite: its object is known from then on -/
namespace L2
open PySem PySem.Spec PyProof.Rows
/-- an exception's object: its class, its own dict -/
def ErrO (cls : Value) (d : Option Addr) (a : Addr) : HO := .ext fun h => ∃ oe vs, h.get? a = some oe ∧ Zc cls d oe ∧ oe.data = .fields vs
section
variable {X : Cx} {pins : List (Addr × Obj)} {σ : St} {H : Hp} {s : Shared}
/-- an object that stands, and is nobody's, is known from now on -/
theorem Inv.know {a : Addr} {oe : Obj} {o : HO} (I : Inv X pins σ H s) (ha : s.heap.get? a = some oe) (na : H a = none) (nL : a ≠ X.env.locals) (n0 : X.s_0.heap.get? a = none) (nc : ∀ v, oe.data ≠ .cell v) (np : ∀ p ∈ X.pn ++ pins, p.1 ≠ a)
    (new : ObjOk X.prog X.w (upd H a o) s.heap a o) : Inv X pins σ (upd H a o) s := by
  have old : ∀ {b : Addr} {u : Obj}, X.s_0.heap.get? b = some u → b ≠ a := fun q z => by rw [z, n0] at q; cases q
  have oth : ∀ {b : Addr} {u : HO}, H b = some u → upd H a o b = some u := fun {b u} q => by rw [upd_ne (ne_of_none q na)]; exact q
  refine ⟨I.ok, I.os, I.bare, ⟨I.base.keep, I.base.slot, fun b u q n hx => ?_, I.base.there, fun b xs q => oth (I.base.tups b xs q), fun b u v q => oth (I.base.frzs b u v q), fun b ps q => ?_⟩, I.loc, I.cell, ?_, fun x c e => ?_, fun p hp => ?_, fun b u q => ?_, I.len⟩
  · rw [upd_ne (old q)]; exact I.base.free b u q n hx
  · obtain ⟨m, z⟩ := I.base.tbls b ps q
    exact ⟨m, oth z⟩
  · rw [upd_ne (Ne.symm nL)]; exact I.free
  · have ne : c ≠ a := fun z => by
      obtain ⟨v, u, hu, hd⟩ := I.cell x c e
      rw [z, ha] at hu
      exact nc v (by rw [Option.some.inj hu]; exact hd)
    rw [upd_ne ne]; exact I.freeC x c e
  · obtain ⟨e, n, r⟩ := I.pin p hp
    exact ⟨e, by rw [upd_ne (np p hp)]; exact n, r⟩
  · by_cases z : b = a
    · subst z
      rw [upd_same] at q
      cases q
      exact new
    · rw [upd_ne z] at q
      exact (I.hok b u q).stay (fun _ _ _ y => y) (fun _ y => oth y) fun _ _ y => oth y
theorem errO_ok {P : Program} {w : World} {H : Hp} {h : Heap} {a : Addr} {cls : Value} {d : Option Addr} {oe : Obj} (e : h.get? a = some oe) (z : Zc cls d oe) (f : ∃ vs, oe.data = .fields vs) : ObjOk P w H h a (ErrO cls d a) := by
  obtain ⟨vs, f⟩ := f
  exact ⟨⟨oe, vs, e, z, f⟩, ⟨oe, e⟩, fun _ _ ⟨o, v, q, r⟩ k => ⟨o, v, k o q, r⟩⟩
end
/-- behind the suite the error is known, and its name is gone -/
def Ends.kept (D : Ends) (i : Nat) (cls : Value) (d : Option Addr) (a : Addr) : Ends where
  nx := fun σ' H' => H' a = none → D.nx (σ'.set i none) (upd H' a (ErrO cls d a))
  rt := fun v H' => H' a = none → D.rt v (upd H' a (ErrO cls d a))
  bk := fun σ' H' => H' a = none → D.bk (σ'.set i none) (upd H' a (ErrO cls d a))
  ct := fun σ' H' => H' a = none → D.ct (σ'.set i none) (upd H' a (ErrO cls d a))
/-- the wish of 'except x as n' whose error is kept -/
def wKept (K : PySem.W.Frag) (c : Value) (i : Nat) (ts : Addr → Value → Option Addr → TS) (Wout : WX) (D : Ends) : WX := fun cls d σ H =>
  ∃ b, PySem.W.exmOne K cls c = some b ∧ (b = true → ∀ a, H a = none → ts a cls d (D.kept i cls d a) (σ.set i (some (.ref a))) H) ∧ (b = false → Wout cls d σ H)
section
variable {X : Cx} {x n : Str} {c : Value} {i : Nat} {body suite : List Stmt} {b₀ : Stmt} {npx pos pos' : Pos} {tb : WX → TS} {ts : Addr → Value → Option Addr → TS} {Wout : WX}
/-- try: body / except x as n: suite, where n's error may be kept -/
theorem ps_try_kept (hs : X.stack = X.env :: X.outer) (hf : X.env.frame = some X.env.locals) (hex : X.ex = []) (hN : X.N.Nodup) (hi : X.N[i]? = some n) (hln : X.env.kindOf n = some .local) (hc : Names X x c) (tk : Takes X Wout)
    (hb : ∀ (W : WX) (pn : List (Addr × Obj)) (xe : Value → Shared → Prop), Takes (X.tr pn xe) W → PassesOwn (model X.prog X.w) X.A X.env xe → PSs (X.tr pn xe) body (tb W))
    (hsu : ∀ (a : Addr) (oe : Obj) (cls : Value) (d : Option Addr) (pn : List (Addr × Obj)), Zc cls d oe → (∃ vs, oe.data = .fields vs) → PSs (X.suite a ((a, oe) :: pn)) (b₀ :: suite) (ts a cls d)) :
    PS X (.Try body [.ExceptHandler (some (.Name x npx)) (some n) (b₀ :: suite) pos'] [] [] pos) (fun D σ H => tb (wKept X.K c i ts Wout D) D σ H) := by
  constructor
  intro pins s σ H D I h
  have ok := I.ok
  have fr : X.A.frames = some (X.env :: X.outer) := by rw [ok.frames, hs]
  have run := (hb (wKept X.K c i ts Wout D) (X.pn ++ pins) (fun e s1 => wpAny (model X.prog X.w) X.A (noteFrame e X.env) (fun _ s2 => wpAny (model X.prog X.w) X.A (setFlight e none) (fun _ s3 =>
    wpAny (model X.prog X.w) X.A (handleBy e X.env [.ExceptHandler (some (.Name x npx)) (some n) (b₀ :: suite) pos']) (SP X pins D) X.xe s3) X.xe s2) X.xe s1) ?takes PassesOwn.looking).run [] s σ H D (I.toTry _) h
  case takes =>
    rintro u s' ⟨a, B, sI, pins', σ', H', cls, d, rfl, JT, nb, up, sky, na, os, ag, b, hb1, hyes, hno⟩
    have J : Inv X pins σ' H' sI := JT.ofTry ok
    rw [show (X.tr (X.pn ++ pins) _).stack = X.env :: X.outer from hs] at sky
    show wpAny _ X.A (noteFrame (.ref a) X.env) _ _ _
    refine Sky.land Zc.steady fr hf sky fun hL fL uL => ?_
    have JL : Inv X pins σ' H' { s' with heap := hL } := J.landed nb fL.1 (up.trans uL) os ag
    obtain ⟨oL, vL, eL, zL, dL⟩ := fL.there
    have out : a ∉ frs (X.env :: X.outer) := fun m => by
      obtain ⟨_, o', e', hnf⟩ := fL.2.2.1.mem m
      rw [eL] at e'
      cases e'
      exact hnf _ dL
    have nL : a ≠ X.env.locals := fun z => out (List.mem_filterMap.mpr ⟨X.env, List.mem_cons_self, by rw [hf, z]⟩)
    have nF : a ∉ X.fs := fun m => out (by
      obtain ⟨e, he, q⟩ := List.mem_filterMap.mp m
      exact List.mem_filterMap.mpr ⟨e, List.mem_cons_of_mem _ he, q⟩)
    -- the error is new since the def's entry, and no pin of ours
    have nB : B.get? a = none := fL.2.1
    have n0 : X.s_0.heap.get? a = none := by
      cases q : X.s_0.heap.get? a with
      | none => rfl
      | some o =>
        obtain ⟨o', e'⟩ := J.base.there a o q (by rw [hex]; simp)
        have := nb a o' e' (by show a ∉ frs X.stack; rw [hs]; exact out)
        rw [nB] at this; cases this
    have np : ∀ p ∈ X.pn ++ pins, p.1 ≠ a := fun p hp z => by
      obtain ⟨e, _⟩ := J.pin p hp
      rw [z] at e
      have := nb a _ e (by show a ∉ frs X.stack; rw [hs]; exact out)
      rw [nB] at this; cases this
    have SL := JL.suite eL dL na nL nF
    refine wpAny_handleBy_cons (codeAny_handlers_test ?_) (by intro q; cases q)
    have LT : PySem.W.Looks (model X.prog X.w) hL (typeOf (.ref a)) cls := fun A Q E s k q => wpAny_typeOf_ref (k _ _ eL) (by rw [zL.1]; exact q)
    have LM := PySem.W.exm_one (M := model X.prog X.w) (JL.kIn) LT hb1
    have named : ∀ {Q E : Value → Shared → Prop}, Q c { s' with heap := hL } → wpAny (model X.prog X.w) (X.A.mark (some (.ref a))) (eval (.Name x npx) X.env) Q E { s' with heap := hL } := fun {Q E} q => by
      obtain ⟨hg, hdbg, hm | ⟨hm, hv, hnn⟩⟩ := hc
      · exact ld_glob (X := X.suite a ((a, oL) :: (X.pn ++ pins))) SL hg hm q hdbg
      · exact ld_blt (X := X.suite a ((a, oL) :: (X.pn ++ pins))) SL hg hm hv q hnn hdbg
    refine named (LM.here ?_)
    cases b with
    | true =>
      refine codeAny_handlers_suite_as (HandSPX.lands_againZ fL fun hM fM uM => ?_)
      have JM : Inv X pins σ' H' { s' with heap := hM } := J.landed nb fM.1 ((up.trans uL).trans uM) os ag
      obtain ⟨oM, vM, eM, zM, dM⟩ := fM.there
      refine store_ok (X := X.suite a ((a, oM) :: (X.pn ++ pins))) (v := .ref a) (JM.suite eM dM na nL nF) hN hi (.inl hln) rfl (fun s5 S5 => ?_) (.inr hln)
      refine wpAny_mono ((hsu a oM cls d (X.pn ++ pins) zM ⟨_, dM⟩).run [] s5 _ H' _ S5 (hyes rfl a na)) (fun f s6 done => ?_) (fun _ _ z => False.elim z)
      have close : ∀ {σ6 : St} {H6 : Hp} {Q : Shared → Prop}, Inv (X.suite a ((a, oM) :: (X.pn ++ pins))) [] σ6 H6 s6 → (∀ s7, H6 a = none → Inv X pins (σ6.set i none) (upd H6 a (ErrO cls d a)) s7 → Q s7) →
          wpAny (model X.prog X.w) X.A (do bindName X.env n .none; unbindBehindTheSuite X.env n pos') (fun _ s7 => Q s7) X.xe s6 := fun {σ6 H6 Q} S6 hq => by
        refine gone_ok (X := X.suite a ((a, oM) :: (X.pn ++ pins))) S6 hN hi hln fun s7 S7 => ?_
        obtain ⟨e7, n7, _, _, c7⟩ := S7.pin (a, oM) (List.mem_append_left _ List.mem_cons_self)
        exact hq s7 n7 <| (S7.unsuite ok).know e7 n7 nL n0 c7 np (errO_ok e7 zM ⟨_, dM⟩)
      cases f with
      | ret u =>
        obtain ⟨v6, σ6, H6, S6, r6, q6⟩ := done
        exact close S6 fun s7 n7 J7 => ⟨_, _, _, J7, r6, q6 n7⟩
      | next =>
        obtain ⟨σ6, H6, S6, q6⟩ := done
        exact close S6 fun s7 n7 J7 => ⟨_, _, J7, q6 n7⟩
      | brk =>
        obtain ⟨σ6, H6, S6, q6⟩ := done
        exact close S6 fun s7 n7 J7 => ⟨_, _, J7, q6 n7⟩
      | cont =>
        obtain ⟨σ6, H6, S6, q6⟩ := done
        exact close S6 fun s7 n7 J7 => ⟨_, _, J7, q6 n7⟩
    | false =>
      show wpAny _ X.A (handleBy (.ref a) X.env []) _ _ _
      refine wpAny_handleBy_nil ?_
      obtain ⟨k1, k2, k3, oe, vs, T, oT, t7, he, hz, hd, h1, hr⟩ := id fL
      unfold PySem.passOn
      refine wpAny_bind (wpAny_field he hd h1 ?_)
      rw [if_neg (show ¬ ((Value.ref T == Value.none) = true) from by simp)]
      have away : wpAny (model X.prog X.w) X.A (setFlight (.ref a) X.env.frame) (fun _ s4 => wpAny (model X.prog X.w) X.A (throw (.ref a) : Sem Flow) (SP X pins D) X.xe s4) X.xe { s' with heap := hL } := by
        rw [hf]
        refine HandSPX.setFlight_upZ fL fun h4 g4 u4 => wpAny_throw (tk _ _ ⟨a, B, sI, pins, σ', H', cls, d, rfl, J, nb, (up.trans uL).trans u4, .inr (.inr (by rw [hs]; exact g4)), na, os, ag, hno rfl⟩)
      first | exact wpAny_bind (wpAny_pure (wpAny_bind away)) | exact wpAny_bind away
  refine wpAny_Try_except (wpAny_mono run (fun f s1 done => ?_) fun _ _ z => z)
  cases f with
  | ret u =>
    obtain ⟨v, σ1, H1, J1, r1, q1⟩ := done
    exact ⟨v, σ1, H1, J1.ofTry ok, r1, q1⟩
  | next =>
    obtain ⟨σ1, H1, J1, q1⟩ := done
    exact wpAny_execs_nil ⟨σ1, H1, J1.ofTry ok, q1⟩
  | brk =>
    obtain ⟨σ1, H1, J1, q1⟩ := done
    exact ⟨σ1, H1, J1.ofTry ok, q1⟩
  | cont =>
    obtain ⟨σ1, H1, J1, q1⟩ := done
    exact ⟨σ1, H1, J1.ofTry ok, q1⟩
end
end L2
/-! a kept error: its class is asked, its value read -/
namespace PySem.W
open PySem PySem.Spec PySem.Calls PyProof.Rows
section
variable {prog : Program} {w : World} {A : Around} {E : Value → Shared → Prop} {s : Shared} {K : Frag} {x D : Addr} {ox : Obj} {od : Option Obj}
theorem findObj_dataA {C : Addr} {name : Str} {a g : Value} (hc : (clsIn K C).isSome = true) (ha : findIn K (.ref C) name = some (some a)) (hg : specialIn K a "__get__" = some (some g)) (ht : takesIn K a = some true) : findObj K C od name = some (.bind g a) := by
  cases od with
  | some o => exact findObj_data hc ha hg ht
  | none => exact findObj_dataN hc ha hg ht
/-- e.__class__ of an error of an own class, with or without a dict of its own -/
theorem err_class {Q : Option Value → Shared → Prop} (T : L2.ExcC K D) (X : K.In s.heap) (I : InstAt s.heap x ox D od) (h : Q (some (.ref D)) { s with toks := s.toks + 1 }) : wpAny (model prog w) A (getAttr? (.ref x) "__class__") Q E s := by
  obtain ⟨cd, hcd, _⟩ := any_some T.hd
  have hf : findObj K D od "__class__" = some (.bind (.builtin "getset_descriptor.__get__") (.builtin "object.__class__")) := findObj_dataA (by rw [hcd]; rfl) T.ha T.hn T.ht
  have n1 : (Value.builtin "BaseException.__getattribute__" == Value.builtin "object.__getattribute__") = false := by decide +kernel
  have n2 : (onTheHeap (Value.ref D) && Value.builtin "BaseException.__getattribute__" == Value.builtin "object.__getattribute__") = false := by rw [n1]; rfl
  obtain ⟨hp, g, dr, tk, os⟩ := s
  have ty := I.type (M := model prog w)
  have ga := looks_findIn (M := model prog w) X T.hg
  have gt := looks_findIn (M := model prog w) X T.hk
  have fd := looks_find (M := model prog w) X I hf
  have exc : Looks (model prog w) hp (isInstance (.ref x) (.type "BaseException")) true := ty.andThen (looks_subIn X T.hs)
  unfold getAttr? getAttrBy? getAttrBy
  refine wpAny_bind (wpAny_mkText (wpAny_bind (wpAny_attempt (wpAny_holding (wpAny_bind (ty.at (wpAny_bind (ga.at ?_))))))))
  show wpAny _ _ (if _ = true then _ else _) _ _ _
  rw [n2, if_neg Bool.false_ne_true]
  unfold getAttrByItsOwn hookBefore
  refine wpAny_bind ?_
  rw [if_pos (show onTheHeap (Value.ref D) = true from rfl)]
  refine gt.at (wpAny_bind (wpAny_attempt (wpAny_holding ?_)))
  unfold callGetattribute
  rw [show (false && onTheHeap (Value.builtin "BaseException.__getattribute__")) = false from rfl, if_neg Bool.false_ne_true]
  unfold boundAndCalled
  rw [PySem.F.excAttr_ValueError.ga.bind (.ref x)]
  refine wpAny_bind (wpAny_pure ?_)
  refine wpAny_call (codeAny_call_builtin PySem.F.excAttr_ValueError.ga.plain PySem.F.entry_bexc_ga ?_)
  refine @check_slot (model prog w) _ _ ⟨hp, g, dr, tk + 1, os⟩ "BaseException.__getattribute__" "BaseException" "__getattribute__" (.ref x) [.str "__class__" tk] [] _ (by decide +kernel) (by decide +kernel) exc (PySem.F.args_bexc_ga (.ref x) (.str "__class__" tk)) ?_
  unfold Builtin.«object.__getattribute__»
  refine wpAny_bind (wpAny_of_eq (a := ((Value.ref x : Value), [Value.str "__class__" tk])) (by first | rfl | (simp only [slotArgs]; rfl)) ?_)
  refine wpAny_bind (wpAny_pure (wpAny_bind (ty.at (wpAny_bind (fd.at ?_)))))
  show wpAny _ _ (holding [Value.builtin "object.__class__"] (call (.builtin "getset_descriptor.__get__") [.builtin "object.__class__", .ref x, .ref D]) >>= ret) _ _ _
  refine wpAny_bind (wpAny_holding (wpAny_call (class_get (s := ⟨hp, g, dr, tk + 1, os⟩) (ox := ox) (od := od) X I T.hm (wpAny_pure ?_))))
  show wpAny _ _ (handedOut (.ref D)) _ _ _
  rw [handedOut_of (v := .ref D) rfl]
  first | exact wpAny_pure (wpAny_pure h) | exact wpAny_pure h | exact wpAny_pure (wpAny_bind (wpAny_pure (wpAny_pure h)))
theorem err_kit (T : L2.ExcC K D) : KitX K (.ref x) (.ref D) (fun h => InstAt h x ox D od) where
  ty := fun _ _ _ I => I.type
  it := fun _ _ X _ => by
    obtain ⟨cd, hcd, _⟩ := any_some T.hd
    unfold clsIn at hcd
    split at hcd
    · rename_i c' d' cd' sl' ho
      intro A' Q' E' s' k q
      exact wpAny_bind (wpAny_loadPart (k _ _ (X _ _ ho)) (wpAny_pure q))
    · cases hcd
  ne := fun h tp dd its n sl X htp => Bool.eq_false_iff.mpr fun q => by
    obtain ⟨cd, hcd, _⟩ := any_some T.hd
    have e : D = tp := Value.ref.inj (beq_iff_eq.mp q)
    subst e
    unfold clsIn at hcd
    split at hcd
    · rename_i c' d' cd' sl' ho
      have z := (X _ _ ho).symm.trans htp
      cases z
    · cases hcd
  ca := fun X I k => err_class T X I k
end
end PySem.W
namespace L2
open PySem PySem.Spec PyProof.Rows
/-- one of two readings of a call -/
theorem callR_or {X : Cx} {f : Value} {r1 r2 : List V → Hp → VK → Prop} (h1 : CallR X f r1) (h2 : CallR X f r2) : CallR X f (fun xs H Q => r1 xs H Q ∨ r2 xs H Q) := by
  intro pins s σ H xs us Q I r h
  rcases h with h | h
  · exact h1 pins s σ H xs us Q I r h
  · exact h2 pins s σ H xs us Q I r h
theorem err_obj {P : Program} {w : World} {H : Hp} {h : Heap} {a D : Addr} {d : Option Addr} (ok : HOk P w H h) (ha : H a = some (ErrO (.ref D) d a)) : ∃ oe, h.get? a = some oe ∧ oe.cls = .ref D ∧ PySem.W.notCls oe = true ∧ oe.dict = d := by
  obtain ⟨⟨oe, vs, e, ⟨z1, z2⟩, f⟩, _, _⟩ := ok a _ ha
  exact ⟨oe, e, z1, by unfold PySem.W.notCls; rw [f] <;> rfl, z2⟩
/-- isinstance(e, c), e a kept error -/
def rIsK (K : PySem.W.Frag) : List V → Hp → VK → Prop := fun xs H Q => ∃ (a D dd : Addr) (fs : List (Str × V)) (c : V) (cv : Value) (b : Bool), xs = [.ref a, c] ∧ H a = some (ErrO (.ref D) (some dd) a) ∧ H dd = some (.xd fs) ∧ ExcC K D ∧ (∀ u, RelV c u → u = cv) ∧ PySem.W.kitOne K (.ref D) cv = some b ∧ Q (.bl b) H
theorem call_isK {X : Cx} : CallR X (.builtin "isinstance") (rIsK X.K) := by
  intro pins s σ H xs us Q I r h
  obtain ⟨a, D, dd, fs, c, cv, b, rfl, ha, hd, C, hcv, e, q⟩ := h
  match us, r with
  | [u1, u2], .cons r1 (.cons r2 .nil) =>
    cases r1
    have ec := hcv _ r2
    subst ec
    obtain ⟨oe, ea, ec, en, ed⟩ := err_obj I.hok ha
    obtain ⟨mA, hns, _⟩ : ObjOk X.prog X.w H s.heap dd (.xd fs) := I.hok dd _ hd
    obtain ⟨od, ho, _⟩ := lookIn_ns hns
    have J : PySem.W.InstAt s.heap a oe D (some od) := ⟨ea, ec, en, by rw [ed]; exact ho⟩
    exact PySem.W.kia_one (PySem.W.err_kit C) I.kIn J e (fun z => nomatch z) fun tk => ⟨.bl b, H, I.kept (t' := tk) fun _ _ z => z, rfl, q⟩
/-- e.f, e a kept error with a dict of its own -/
def tXk (K : PySem.W.Frag) (n : Str) (te : TE) : TE := fun σ H Q => te σ H fun x H1 => ∃ (a C dd : Addr) (fs : List (Str × V)) (v : V), x = .ref a ∧ H1 a = some (ErrO (.ref C) (some dd) a) ∧ H1 dd = some (.xd fs) ∧ fs.lookup n = some v ∧ XfC K C ∧ PySem.W.findIn K (.ref C) n = some none ∧ Q v H1
theorem pe_xk {X : Cx} {e : Expr} {te : TE} {pos : Pos} {n : Str} (he : PE X e te) (hb : attributeBase e n X.env (eval e X.env) = eval e X.env := by rfl) : PE X (.Attribute e n pos) (tXk X.K n te) := by
  constructor
  intro pins s σ H Q I h
  refine attr_of hb (thn (he.run pins s σ H _ I h) fun u s1 hh => ?_)
  obtain ⟨x, H1, I1, rx, a, C, dd, fs, v, rfl, ha, hd, l, T, hno, q⟩ := hh
  cases rx
  obtain ⟨oe, ea, ec, en, ed⟩ := err_obj I1.hok ha
  obtain ⟨mA, hns, hr⟩ : ObjOk X.prog X.w H1 s1.heap dd (.xd fs) := I1.hok dd _ hd
  obtain ⟨od, ho, hl⟩ := lookIn_ns hns
  obtain ⟨u, hu, ru⟩ := RelO.some_of (v := v) (o := mA n) (by rw [← l]; exact hr n)
  have J : PySem.W.InstAt s1.heap a oe C (some od) := ⟨ea, ec, en, by rw [ed]; exact ho⟩
  exact HandSPX.exc_get I1.kIn J T.ga T.gg T.exC (PySem.W.findObj_own T.hdC hno rfl (by rw [hl, hu])) (handed_of ru) ⟨v, H1, I1.tok _, ru, q⟩
end L2
/-! lambdas handed on: their objects and the cells that they look at are known while others hold them -/
namespace L2
open PySem PySem.Spec PyProof.Rows LamX
/-- just this object -/
def PinO (c : Addr) (o : Obj) : HO := .ext fun h => h.get? c = some o
theorem pinO_ok {P : Program} {w : World} {H : Hp} {h : Heap} {a : Addr} {o : Obj} (e : h.get? a = some o) : ObjOk P w H h a (PinO a o) := ⟨e, ⟨o, e⟩, fun _ _ q k => k o q⟩
theorem pinO_get {P : Program} {w : World} {H : Hp} {h : Heap} {a : Addr} {o : Obj} (x : HOk P w H h) (e : H a = some (PinO a o)) : h.get? a = some o := (x a _ e).1
/-- without what stands at cs -/
def dropC (cs : List Addr) (H : Hp) : Hp := fun b => if b ∈ cs then none else H b
/-- at cs as in H, else as in G -/
def backC (cs : List Addr) (H G : Hp) : Hp := fun b => if b ∈ cs then H b else G b
theorem dropC_in {cs : List Addr} {H : Hp} {b : Addr} (h : b ∈ cs) : dropC cs H b = none := if_pos h
theorem dropC_out {cs : List Addr} {H : Hp} {b : Addr} (h : b ∉ cs) : dropC cs H b = H b := if_neg h
theorem backC_in {cs : List Addr} {H G : Hp} {b : Addr} (h : b ∈ cs) : backC cs H G b = H b := if_pos h
theorem backC_out {cs : List Addr} {H G : Hp} {b : Addr} (h : b ∉ cs) : backC cs H G b = G b := if_neg h
/-- what stands at cs is pinned, where it is known -/
def Pins (cs : List Addr) (H : Hp) : Prop := ∀ c ∈ cs, H c = none ∨ ∃ o, H c = some (PinO c o)
def Pinned (cs : List Addr) (H : Hp) : Prop := ∀ c ∈ cs, ∃ o, H c = some (PinO c o)
theorem Pinned.pins {cs : List Addr} {H : Hp} (p : Pinned cs H) : Pins cs H := fun c m => .inr (p c m)
theorem Pins.no {cs : List Addr} {H : Hp} (p : Pins cs H) {b : Addr} {u : HO} (e : H b = some u) (n : ∀ φ, u ≠ .ext φ) : b ∉ cs := fun m => by
  rcases p b m with z | ⟨o, z⟩
  · rw [e] at z; cases z
  · rw [e] at z; exact n _ (Option.some.inj z)
theorem dropC_some {cs : List Addr} {H : Hp} {b : Addr} {u : HO} (e : dropC cs H b = some u) : b ∉ cs ∧ H b = some u := by
  by_cases m : b ∈ cs
  · rw [dropC_in m] at e; cases e
  · exact ⟨m, by rw [dropC_out m] at e; exact e⟩
theorem no_own {a : Addr} : ∀ φ, HO.own a ≠ .ext φ := fun _ z => by cases z
theorem no_tup {xs : List V} : ∀ φ, HO.tup xs ≠ .ext φ := fun _ z => by cases z
theorem no_frz {o : Obj} {u : HO} : ∀ φ, HO.frz o u ≠ .ext φ := fun _ z => by cases z
theorem no_tbl {ps : Array Value} : ∀ φ, HO.tbl ps ≠ .ext φ := fun _ z => by cases z
section
variable {P : Program} {w : World} {cs : List Addr} {H H' G : Hp} {h h' : Heap}
theorem hok_drop (x : HOk P w H h) (p : Pins cs H) : HOk P w (dropC cs H) h := fun b u e => by
  obtain ⟨_, e⟩ := dropC_some e
  exact (x b u e).stay (fun _ _ _ q => q) (fun c q => by rw [dropC_out (p.no q no_own)]; exact q) fun c xs q => by rw [dropC_out (p.no q no_tup)]; exact q
theorem hok_back (x : HOk P w G h) (p : ∀ c ∈ cs, H c = none ∨ ∃ o, H c = some (PinO c o) ∧ h.get? c = some o) (g : ∀ c ∈ cs, G c = none) : HOk P w (backC cs H G) h := fun b u e => by
  by_cases m : b ∈ cs
  · rw [backC_in m] at e
    rcases p b m with z | ⟨o, z, hz⟩
    · rw [z] at e; cases e
    · rw [z] at e; cases e; exact pinO_ok hz
  · rw [backC_out m] at e
    have out : ∀ {c : Addr} {v : HO}, G c = some v → c ∉ cs := fun q m => by rw [g _ m] at q; cases q
    exact (x b u e).stay (fun _ _ _ q => q) (fun c q => by rw [backC_out (out q)]; exact q) fun c xs q => by rw [backC_out (out q)]; exact q
/-- from a state with the pins to one without: what a call did -/
theorem un_drop {fs : List Addr} (p : Pins cs H) (p' : ∀ c ∈ cs, H' c = H c) (x : HOk P w H h) (x' : HOk P w H' h') (u : Un fs [] H H' h h') (nf : ∀ c ∈ cs, c ∉ fs) : Un fs [] (dropC cs H) (dropC cs H') h h' := by
  refine ⟨fun b o q n hf hx => ?_, fun b o q n hf hx => ?_, fun b o q n hx => ?_, u.there, fun b xs q => ?_, fun b o v q => ?_, fun b ps q => ?_⟩
  · by_cases m : b ∈ cs
    · rcases p b m with z | ⟨o', z⟩
      · exact u.keep b o q z hf hx
      · have e1 := pinO_get x z
        rw [q] at e1; cases e1
        exact pinO_get x' (by rw [p' b m]; exact z)
    · rw [dropC_out m] at n; exact u.keep b o q n hf hx
  · by_cases m : b ∈ cs
    · exact absurd hf (nf b m)
    · rw [dropC_out m] at n; exact u.slot b o q n hf hx
  · by_cases m : b ∈ cs
    · exact dropC_in m
    · rw [dropC_out m] at n ⊢; exact u.free b o q n hx
  · obtain ⟨m, q⟩ := dropC_some q
    rw [dropC_out m]; exact u.tups b xs q
  · obtain ⟨m, q⟩ := dropC_some q
    rw [dropC_out m]; exact u.frzs b o v q
  · obtain ⟨m, q⟩ := dropC_some q
    obtain ⟨more, z⟩ := u.tbls b ps q
    exact ⟨more, by rw [dropC_out m]; exact z⟩
theorem back_none (u : ∀ b o, h.get? b = some o → dropC cs H b = none → G b = none) {b : Addr} {o : Obj} (q : h.get? b = some o) (n : H b = none) : backC cs H G b = none := by
  by_cases m : b ∈ cs
  · rw [backC_in m]; exact n
  · rw [backC_out m]; exact u b o q (by rw [dropC_out m]; exact n)
theorem drop_none {b : Addr} (n : H b = none) : dropC cs H b = none := by
  by_cases m : b ∈ cs
  · exact dropC_in m
  · rw [dropC_out m]; exact n
/-- and back: a call that ran without the pins -/
theorem un_back {fs : List Addr} (p : Pins cs H) (u : Un fs [] (dropC cs H) G h h') : Un fs [] H (backC cs H G) h h' := by
  refine ⟨fun b o q n hf hx => u.keep b o q (drop_none n) hf hx, fun b o q n hf hx => u.slot b o q (drop_none n) hf hx, fun b o q n hx => back_none (fun b o q n => u.free b o q n (by simp)) q n, u.there, fun b xs q => ?_, fun b o v q => ?_, fun b ps q => ?_⟩
  · have m := p.no q no_tup
    rw [backC_out m]; exact u.tups b xs (by rw [dropC_out m]; exact q)
  · have m := p.no q no_frz
    rw [backC_out m]; exact u.frzs b o v (by rw [dropC_out m]; exact q)
  · have m := p.no q no_tbl
    obtain ⟨more, z⟩ := u.tbls b ps (by rw [dropC_out m]; exact q)
    exact ⟨more, by rw [backC_out m]; exact z⟩
end
/-- what cells hold, pinned (or fixed for good) -/
def CellsAt (N : List Str) (base : Heap) (σ : St) (cl : List (Str × Addr)) (H : Hp) : Prop := ∀ y c, cl.lookup y = some c → ∃ o ov, (H c = some (PinO c o) ∨ (H c = none ∧ base.get? c = some o)) ∧ o.data = .cell ov ∧ ∀ (i : Nat) (v : V), N[i]? = some y → σ[i]? = some (some v) → ∃ u, ov = some u ∧ RelV v u
/-- each cell is told by its name -/
def CellN (cl : List (Str × Addr)) : Prop := ∀ c ∈ cl.map (·.2), ∃ y, cl.lookup y = some c
theorem CellsAt.pins {N : List Str} {base : Heap} {σ : St} {cl : List (Str × Addr)} {H : Hp} (n : CellN cl) (h : CellsAt N base σ cl H) : Pins (cl.map (·.2)) H := fun c m => by
  obtain ⟨y, e⟩ := n c m
  obtain ⟨o, _, z, _⟩ := h y c e
  rcases z with z | z
  · exact .inr ⟨o, z⟩
  · exact .inl z.1
end L2
/-! lambdas handed on: made, called, and calls that hand them on -/
namespace L2
open PySem PySem.Spec PyProof.Rows LamX
/-- the cells of these names -/
def cellsOf (X : Cx) (ys : List Str) : List (Str × Addr) := ys.filterMap fun y => (X.env.cells.lookup y).map fun c => (y, c)
theorem cellsOf_mem {X : Cx} {y : Str} {c : Addr} : ∀ {ys : List Str}, (y, c) ∈ cellsOf X ys ↔ y ∈ ys ∧ X.env.cells.lookup y = some c := by
  intro ys
  unfold cellsOf
  rw [List.mem_filterMap]
  constructor
  · rintro ⟨z, hz, e⟩
    cases q : X.env.cells.lookup z with
    | none => rw [q] at e; cases e
    | some d => rw [q] at e; cases e; exact ⟨hz, q⟩
  · rintro ⟨hy, e⟩
    exact ⟨y, hy, by rw [e]; rfl⟩
theorem lookup_of {α : Type} {y : Str} {c : α} : ∀ {l : List (Str × α)}, (y, c) ∈ l → (∀ d, (y, d) ∈ l → d = c) → l.lookup y = some c
  | (z, d) :: l, h, u => by
    rw [List.lookup_cons]
    cases e : y == z with
    | true =>
      have e' : y = z := eq_of_beq e
      subst e'
      exact congrArg some (u d List.mem_cons_self)
    | false =>
      rcases List.mem_cons.mp h with q | q
      · cases q
        simp at e
      · exact lookup_of q fun d hd => u d (List.mem_cons_of_mem _ hd)
theorem cellsOf_lookup {X : Cx} {ys : List Str} {y : Str} {c : Addr} : (cellsOf X ys).lookup y = some c ↔ y ∈ ys ∧ X.env.cells.lookup y = some c := by
  constructor
  · intro h
    exact cellsOf_mem.mp (PySem.mem_of_lookup h)
  · intro h
    exact lookup_of (cellsOf_mem.mpr h) fun d hd => by
      have := (cellsOf_mem.mp hd).2
      rw [h.2] at this; cases this; rfl
theorem cellsOf_N {X : Cx} {ys : List Str} : CellN (cellsOf X ys) := fun c m => by
  obtain ⟨⟨y, c'⟩, h, rfl⟩ := List.mem_map.mp m
  exact ⟨y, cellsOf_lookup.mpr (cellsOf_mem.mp h)⟩
/-- a name that lies in a cell -/
def InCell (X : Cx) (y : Str) : Prop := X.env.scope.names.lookup y = some .cell ∨ X.env.scope.names.lookup y = some .free
section
variable {X : Cx} {pins : List (Addr × Obj)} {σ : St} {H : Hp} {s : Shared}
/-- cells of these names are no frames of the callers -/
def NoFr (X : Cx) (ys : List Str) : Prop := X.Ok → ∀ y ∈ ys, ∀ c, X.env.cells.lookup y = some c → c ∉ X.fs
theorem noFr_def {ys : List Str} (h : X.fn = fun _ => true) : NoFr X ys := fun ok y _ c e m => by
  have h1 := ok.cab y c (by rw [h]) e
  obtain ⟨_, o, ho, _⟩ := ok.funs.mem m
  exact Nat.lt_irrefl _ (Nat.lt_of_lt_of_le (Heap.lt_size ho) h1)
/-- cells of a frame, pinned -/
theorem Inv.cells (I : Inv X pins σ H s) (ys : List Str) (hk : ∀ y ∈ ys, InCell X y) (hf : NoFr X ys) : ∃ cs HZ, dropC cs HZ = H ∧ Pinned cs HZ ∧ CellsAt X.N X.base σ (cellsOf X ys) HZ ∧ (∀ c ∈ cs, c ∉ frs X.stack) ∧ Env0 X.prog X.w X.K X.mg X.base X.A X.stack s HZ := by
  let cs : List Addr := ((cellsOf X ys).map (·.2)).filter fun c => (X.base.get? c).isNone
  have csm : ∀ {c}, c ∈ cs → (∃ y, y ∈ ys ∧ X.env.cells.lookup y = some c) ∧ X.base.get? c = none := fun {c} m => by
    obtain ⟨m1, m2⟩ := List.mem_filter.mp m
    obtain ⟨⟨y, c'⟩, h, rfl⟩ := List.mem_map.mp m1
    exact ⟨⟨y, cellsOf_mem.mp h⟩, Option.isNone_iff_eq_none.mp m2⟩
  have free : ∀ c ∈ cs, H c = none := fun c m => by
    obtain ⟨⟨y, _, e⟩, _⟩ := csm m
    exact I.freeC y c e
  let HZ : Hp := fun b => if b ∈ cs then (s.heap.get? b).map (PinO b) else H b
  have hin : ∀ {b}, b ∈ cs → HZ b = (s.heap.get? b).map (PinO b) := fun m => if_pos m
  have hout : ∀ {b}, b ∉ cs → HZ b = H b := fun m => if_neg m
  have nfr : ∀ c ∈ cs, c ∉ frs X.stack := fun c m z => by
    obtain ⟨⟨y, hy, e⟩, _⟩ := csm m
    rcases List.mem_cons.mp (I.stkSub c z) with q | q
    · exact I.cne y c e q
    · exact hf I.ok y hy c e q
  have keep : ∀ {b u}, H b = some u → HZ b = some u := fun {b u} q => by rw [hout (fun m => by rw [free b m] at q; cases q)]; exact q
  refine ⟨cs, HZ, ?_, fun c m => ?_, fun y c e => ?_, nfr, ⟨I.ok.frames, I.ok.mod, fun b o e => ⟨(I.bs b o e).1, ?_⟩, Nat.le_trans I.ok.bsz I.sz, I.stack, fun b hb => ?_, fun b u e => ?_, I.bare⟩⟩
  · funext b
    by_cases m : b ∈ cs
    · rw [dropC_in m, free b m]
    · rw [dropC_out m, hout m]
  · obtain ⟨⟨y, hy, e⟩, _⟩ := csm m
    obtain ⟨ov, o, ho, hd⟩ := I.cell y c e
    exact ⟨o, by rw [hin m, ho]; rfl⟩
  · obtain ⟨hy, e⟩ := cellsOf_lookup.mp e
    obtain ⟨ov, o, ho, hd⟩ := I.cell y c e
    refine ⟨o, ov, ?_, hd, fun i v e1 e2 => ?_⟩
    · by_cases m : c ∈ cs
      · exact .inl (by rw [hin m, ho]; rfl)
      · right
        refine ⟨by rw [hout m]; exact I.freeC y c e, ?_⟩
        cases q : X.base.get? c with
        | none => exact absurd (List.mem_filter.mpr ⟨List.mem_map.mpr ⟨(y, c), cellsOf_mem.mpr ⟨hy, e⟩, rfl⟩, by rw [q]; rfl⟩) m
        | some o' =>
          have := (I.bs c o' q).1
          rw [ho] at this; cases this; rfl
    · obtain ⟨mm, _, hl⟩ := I.loc
      obtain ⟨u, r, q⟩ := hl i y v e1 e2 ((hk y hy).elim (fun z => .inr (.inl z)) (fun z => .inr (.inr z)))
      rcases q with ⟨k, _⟩ | ⟨_, c', e', o', ho', hd'⟩
      · have k : X.env.scope.names.lookup y = some .local := k
        rcases hk y hy with z | z <;> rw [z] at k <;> cases k
      · rw [e] at e'; cases e'
        rw [ho] at ho'; cases ho'
        rw [hd] at hd'; cases hd'
        exact ⟨u, rfl, r⟩
  · rw [hout (fun m => by rw [(csm m).2] at e; cases e)]
    exact (I.bs b o e).2
  · rw [hout (fun m => nfr b m hb)]; exact I.stkFree b hb
  · by_cases m : b ∈ cs
    · rw [hin m] at e
      cases q : s.heap.get? b with
      | none => rw [q] at e; cases e
      | some o => rw [q] at e; cases e; exact pinO_ok q
    · rw [hout m] at e
      exact (I.hok b u e).stay (fun _ _ _ q => q) (fun c q => keep q) fun c xs q => keep q
/-- a call that hands lambdas on: what they look at is pinned while it runs -/
def tCallC (X : Cx) (ys : List Str) (sp : Sp) (t : TA) : TE := fun σ H Q => t σ H fun vs H1 => X.Ok → σ.length = X.N.length → ∀ cs HZ, dropC cs HZ = H1 → Pinned cs HZ → CellsAt X.N X.base σ (cellsOf X ys) HZ → sp vs HZ (fun v H' => (∀ c ∈ cs, H' c = HZ c) ∧ Q v (dropC cs H')) E0
end
section
variable {X : Cx} {x : Str} {k : Nat} {ps : List Str} {sp : Sp} {e : Expr} {es : List Expr} {t : TA} {p pos : Pos} {ys : List Str}
theorem pe_fdC (ys : List Str) (hk : ∀ y ∈ ys, InCell X y) (hf : NoFr X ys) (G : Fp.FdG X.prog X.w X.K X.mg X.base CX0 x k ps sp) (hr : Room k X.A) (hgu : X.A.guards = some []) (hg : Gl X x) (ha : PA X (e :: es) t) (hdb : (x == ("__debug__" : Str)) = false := by decide)
    (he : starEach (e :: es) X.env = (false, eval e X.env) :: starEach es X.env := by rfl) (hpl : (backTo pos (starEach es X.env)).any (·.1) = false := by rfl) :
    PE X (.Call (.Name x p) (e :: es) [] pos) (tCallC X ys sp t) := by
  obtain ⟨f, fd, hm, hkk, hb, F⟩ := G.ex
  constructor
  intro pins s σ H Q I h
  refine wpAny_Call_Name_kw (ld_glob I hg hm ?_ hdb)
  refine PySem.W.callWith_K (h₀ := X.base) I.ok.mod.kin hkk (thn (ha.run pos pins s σ H _ I h) fun us s1 ⟨vs, H1, I1, r, q⟩ => ⟨I1.kIn, ?_⟩) he hpl
  obtain ⟨cs, HZ, e1, e2, e3, e4, e0⟩ := I1.cells ys hk hf
  have q1 := q I1.ok I1.len cs HZ e1 e2 e3
  have r2 : Vals (vs ++ []) (us ++ []) := r.append .nil
  rw [List.append_nil, List.append_nil] at r2
  have hl : us.length = ps.length := by rw [← r2.length]; exact F.len _ _ _ _ q1
  have bb := hb s1 us I1.kIn (by rw [List.append_nil]; exact hl)
  rw [List.append_nil] at bb
  refine wpAny_call (codeAny_mono (F.run X.A X.stack s1 HZ ⟨us, []⟩ us vs _ E0 hr hgu e0 bb r2 q1) fun r s' hq => ?_)
  cases r with
  | error er => exact pass0 pins σ H1 s1 er s' I1 hq
  | ok fl =>
    cases fl with
    | ret u =>
      obtain ⟨v, H', os, bare, un, hok, rv, hp, qq⟩ := hq
      refine I1.after ⟨v, dropC cs H', os, bare, ?_, hok_drop hok (fun c m => by rw [hp c m]; exact e2.pins c m), rv, qq⟩
      rw [← e1]
      exact un_drop e2.pins hp e0.hok hok un e4
    | next => exact False.elim hq
    | brk => exact False.elim hq
    | cont => exact False.elim hq
end
end L2
/-! lambdas handed on: made, and called -/
namespace L2
open PySem PySem.Spec PyProof.Rows LamX
/-- a lambda that was made in X stands at f -/
def LamAt (X : Cx) (H : Hp) (f : Addr) (params : Arguments) (body : Expr) (scope : Scope) : Prop :=
  ∃ c' pm ctv, H f = some (PinO f (PySem.W.kla_obj "<lambda>" (X.env.qual ++ "<lambda>") params body scope (cloFrom X.env.cells scope.names []) pm c' ctv)) ∧ H c' = some (CodeO c' (X.env.qual ++ "<lambda>"))
theorem LamAt.ext {X : Cx} {H H' : Hp} {f : Addr} {params : Arguments} {body : Expr} {scope : Scope} (h : LamAt X H f params body scope) (e : ∀ b φ, H b = some (.ext φ) → H' b = some (.ext φ)) : LamAt X H' f params body scope := by
  obtain ⟨c', pm, ctv, h1, h2⟩ := h
  exact ⟨c', pm, ctv, e _ _ h1, e _ _ h2⟩
abbrev lamCl (X : Cx) (scope : Scope) : List (Str × Addr) := cloFrom X.env.cells scope.names []
abbrev lamCs (X : Cx) (scope : Scope) : List Addr := (lamCl X scope).map (·.2)
section
variable {X : Cx} {σ : St} {scope : Scope}
theorem lamCl_get (ok : X.Ok) (L : LamS X.env.scope scope) {y : Str} {c : Addr} (e : (lamCl X scope).lookup y = some c) : X.env.cells.lookup y = some c ∧ (y, NameKind.free) ∈ scope.names := by
  rcases cloFrom_mem (PySem.mem_of_lookup e) with m | ⟨h1, h2⟩
  · cases m
  · obtain ⟨c1, hc⟩ := L.has ok _ h1 rfl
    have hc : X.env.cells.lookup y = some c1 := hc
    rw [hc] at h2
    exact ⟨by rw [hc, h2] <;> rfl, h1⟩
theorem lamCl_N (ok : X.Ok) (L : LamS X.env.scope scope) : CellN (lamCl X scope) := fun c m => by
  obtain ⟨⟨y, c'⟩, h, rfl⟩ := List.mem_map.mp m
  refine ⟨y, lookup_of h fun d hd => ?_⟩
  have f : ∀ {z}, (y, z) ∈ lamCl X scope → z = (X.env.cells.lookup y).getD 0 := fun {z} h => by
    rcases cloFrom_mem h with q | ⟨_, q⟩
    · cases q
    · exact q
  rw [f h, f hd]
/-- what a lambda looks at is among the names that are pinned -/
theorem CellsAt.lam {ys : List Str} {H : Hp} (h : CellsAt X.N X.base σ (cellsOf X ys) H) (ok : X.Ok) (L : LamS X.env.scope scope) (hy : ∀ y ∈ scope.names, y.2 = .free → y.1 ∈ ys) : CellsAt X.N X.base σ (lamCl X scope) H := fun y c e => by
  obtain ⟨e1, e2⟩ := lamCl_get ok L e
  exact h y c (cellsOf_lookup.mpr ⟨hy _ e2 rfl, e1⟩)
/-- the lambda's body begins -/
theorem lam_inv {A : Around} {outer : List Env} {E : XK} {f c' : Addr} {HZ : Hp} {s : Shared} {h₁ : Heap} {tk : Nat} (ok : X.Ok) (hl : σ.length = X.N.length) (L : LamS X.env.scope scope) (e0 : Env0 X.prog X.w X.K X.mg X.base A outer s HZ) (hd : A.handled = none)
    (cA : CellsAt X.N X.base σ (lamCl X scope) HZ) (hns : h₁.Ns s.heap.objs.size fun y => ([] : List (Str × Value)).reverse.lookup y) (kp : ∀ b o, s.heap.get? b = some o → h₁.get? b = some o) :
    Inv (lamCx X A outer s (dropC (lamCs X scope) HZ) E scope f c') [] σ (dropC (lamCs X scope) HZ) { s with heap := h₁, toks := tk } := by
  have ps := cA.pins (lamCl_N ok L)
  have none0 : ∀ b : Addr, b ∉ (lamCx X A outer s (dropC (lamCs X scope) HZ) E scope f c').ex := fun b z => absurd (show b ∈ ([] : List Addr) from z) (by simp)
  have here : ∀ {y c}, (lamCl X scope).lookup y = some c → ∃ o ov, s.heap.get? c = some o ∧ o.data = .cell ov ∧ ∀ (i : Nat) (v : V), X.N[i]? = some y → σ[i]? = some (some v) → ∃ u, ov = some u ∧ RelV v u := fun {y c} e => by
    obtain ⟨o, ov, z, r, q⟩ := cA y c e
    rcases z with z | z
    · exact ⟨o, ov, pinO_get e0.hok z, r, q⟩
    · exact ⟨o, ov, (e0.bs c o z.2).1, r, q⟩
  have find : ∀ {y}, scope.names.lookup y = some .free → ∃ c, (lamCl X scope).lookup y = some c := fun {y} q => mem_lookup (cloFrom_has (cells := X.env.cells) (acc := []) (PySem.mem_of_lookup q))
  have only : ∀ {y}, Vis scope y → scope.names.lookup y = some .free := fun {y} q => by
    rcases q with q | q | q
    · exact absurd rfl (L.own _ (PySem.mem_of_lookup q)).1
    · exact absurd rfl (L.own _ (PySem.mem_of_lookup q)).2
    · exact q
  refine ⟨⟨e0.mod, L.kind, rfl, rfl, Nat.le_refl _, fun y z c e1 e2 => ok.inj y z c (lamCl_get ok L e1).1 (lamCl_get ok L e2).1, fun y hy => find (only (.inr hy)), fun y c z _ => (by cases (show false = true from z)), fun _ => hd, Around.frames_deeper e0.frames, .inr ⟨rfl, rfl⟩,
      fun b z => absurd z (none0 b), fun b o e => ⟨(e0.bs b o e).1, drop_none (e0.bs b o e).2⟩, e0.bsz, fun b _ _ => none0 b, fun b z => absurd z (none0 b), e0.funs, fun b m => drop_none (e0.frf b m)⟩,
    rfl, e0.bare, Un.kept kp, ⟨_, hns, fun i y v e1 e2 e3 => ?_⟩, fun y c e => ?_, drop_none (e0.hok.fresh (Nat.le_refl _)), fun y c e => ?_, fun q hq => absurd (show q ∈ ([] : List (Addr × Obj)) ++ [] from hq) (by simp), (hok_drop e0.hok ps).kept kp, hl⟩
  · have hk := only e3
    obtain ⟨c, hc⟩ := find hk
    obtain ⟨o, ov, ho, hov, q⟩ := here hc
    obtain ⟨u, rfl, r⟩ := q i v e1 e2
    exact ⟨u, r, .inr ⟨.inr hk, c, hc, o, kp _ _ ho, hov⟩⟩
  · obtain ⟨o, ov, ho, hov, _⟩ := here e
    exact ⟨ov, o, kp _ _ ho, hov⟩
  · exact dropC_in (List.mem_map.mpr ⟨(y, c), PySem.mem_of_lookup e, rfl⟩)
end
/-- what is called keeps its promise in every state in which the promise holds -/
def CloOk (P : Program) (w : World) (K : PySem.W.Frag) (mg : Str → Option Value) (base : Heap) (k : Nat) (f : Addr) (sp : Hp → VK → XK → Prop) : Prop :=
  ∀ (A : Around) (outer : List Env) (s : Shared) (H : Hp) (Q : VK) (E : XK), Room k A → Env0 P w K mg base A outer s H → sp H Q E → PySem.W.FnAt f s.heap ∧ codeAny (model P w) A (.call (.ref f) ⟨[], []⟩) (CR (L2.CX P w) outer P w H s Q E) s
section
variable {X : Cx} {σ : St} {scope : Scope} {params : Arguments} {body : Expr} {k : Nat} {f : Addr} {t : XK → TE}
/-- a lambda keeps what its body's reading tells -/
theorem lam_clo (ok : X.Ok) (hl : σ.length = X.N.length) (L : LamS X.env.scope scope)
    (hbind : ∀ (q : Str) (cl : List (Str × Addr)) (pm cv ctv : Value), bindArgs (PySem.W.kla_fn "<lambda>" q params body scope cl pm cv ctv) ⟨[], []⟩ = pure [])
    (hbody : ∀ (A : Around) (outer : List Env) (s : Shared) (H : Hp) (E : XK) (f c' : Addr), Room k (A.deeper (lamEnv X scope s.heap.objs.size f c')) → PE (lamCx X A outer s H E scope f c') body (t E)) :
    CloOk X.prog X.w X.K X.mg X.base (k + 1) f fun H Q E => LamAt X H f params body scope ∧ CellsAt X.N X.base σ (lamCl X scope) H ∧
      t (fun cls d G => (∀ c ∈ lamCs X scope, G c = none) → E cls d (backC (lamCs X scope) H G)) σ (dropC (lamCs X scope) H) fun v G => (∀ c ∈ lamCs X scope, G c = none) → Q v (backC (lamCs X scope) H G) := by
  intro A outer s H Q E hr e0 ⟨⟨c', pm, ctv, hf, hc⟩, cA, ht⟩
  have of1 := pinO_get e0.hok hf
  obtain ⟨⟨oc, vs, tq, hoc, hdc, hvc⟩, _, _⟩ := e0.hok c' _ hc
  refine ⟨⟨_, _, _, _, of1⟩, ?_⟩
  have ps := cA.pins (lamCl_N ok L)
  have lim : s.heap.NoLimit := e0.mod.nolimit.keeps fun b o e => (e0.bs b o e).1
  -- cells are no frames
  have run : codeAny (model X.prog X.w) A (.call (.ref f) ⟨[], []⟩) (CR (L2.CX X.prog X.w) outer X.prog X.w (dropC (lamCs X scope) H) s (fun v G => (∀ c ∈ lamCs X scope, G c = none) → Q v (backC (lamCs X scope) H G)) (fun cls d G => (∀ c ∈ lamCs X scope, G c = none) → E cls d (backC (lamCs X scope) H G))) s := by
    refine PySem.W.kla_callFunE hr.depth of1 rfl L.co L.gen rfl ⟨c', oc, vs, tq, rfl, hoc, hdc, hvc⟩ ?_
    rw [hbind]
    refine wpAny_pure (wpAny_newFunctionEnv (fun y hy => (L.own y hy).2) (fun y hy => absurd hy (by simp)) (fun h₁ hns hsb => ⟨lim.fresh _ hsb, ?_⟩) L.kind)
    have kp : ∀ b o, s.heap.get? b = some o → h₁.get? b = some o := fun b o e => hsb.extBut b o (Nat.ne_of_lt (Heap.lt_size e)) (Heap.get?_push_of_some _ e)
    have J := lam_inv (f := f) (c' := c') (E := fun cls d G => (∀ c ∈ lamCs X scope, G c = none) → E cls d (backC (lamCs X scope) H G)) (tk := s.toks + ([] : List (Str × Value)).length) ok hl L e0 hr.hd cA hns kp
    show codeAny _ _ (.expr body (lamEnv X scope s.heap.objs.size f c')) _ _
    refine PySem.W.kla_codeExpr (wpAny_mono ((hbody A outer s (dropC (lamCs X scope) H) _ f c' (hr.deeper _)).run [] _ _ _ _ J ht) (fun v s' hq => ?_) fun _ _ hq => hq)
    obtain ⟨w', G, J', rv, q⟩ := hq
    exact ⟨w', G, J'.os, J'.bare, J'.base, J'.hok, rv, q⟩
  have pin : ∀ {h' : Heap} {G : Hp}, (∀ b o, s.heap.get? b = some o → dropC (lamCs X scope) H b = none → b ∉ frs outer → h'.get? b = some o) →
      ∀ c ∈ lamCs X scope, H c = none ∨ ∃ o, H c = some (PinO c o) ∧ h'.get? c = some o := fun {h' G} kk c m => by
    rcases ps c m with z | ⟨o, z⟩
    · exact .inl z
    · exact .inr ⟨o, z, kk c o (pinO_get e0.hok z) (dropC_in m) fun mm => by rw [e0.frf c mm] at z; cases z⟩
  have gone : ∀ {G : Hp}, (∀ b o, s.heap.get? b = some o → dropC (lamCs X scope) H b = none → G b = none) → ∀ c ∈ lamCs X scope, G c = none := fun {G} kk c m => by
    obtain ⟨y, e⟩ := lamCl_N ok L c m
    obtain ⟨o, _, z, _⟩ := cA y c e
    rcases z with z | z
    · exact kk c o (pinO_get e0.hok z) (dropC_in m)
    · exact kk c o (e0.bs c o z.2).1 (dropC_in m)
  refine codeAny_mono run fun r s' hq => ?_
  cases r with
  | ok fl =>
    cases fl with
    | ret u =>
      obtain ⟨v, G, os, bare, un, hok, rv, q⟩ := hq
      exact ⟨v, _, os, bare, un_back ps un, hok_back hok (pin (G := G) fun b o e n nf => un.keep b o e n nf (by simp)) (gone fun b o e n => un.free b o e n (by simp)), rv, q (gone fun b o e n => un.free b o e n (by simp))⟩
    | next => exact False.elim hq
    | brk => exact False.elim hq
    | cont => exact False.elim hq
  | error er =>
    obtain ⟨a, B, G, cls, d, rfl, fl, hok, ub, na, os, ag, hE⟩ := hq
    have kB : ∀ c ∈ lamCs X scope, H c = none ∨ ∃ o, H c = some (PinO c o) ∧ B.get? c = some o := pin (G := G) fun b o e n nf => ub.keep b o e n nf
    refine ⟨a, B, _, cls, d, rfl, fl, hok_back hok kB (gone ub.free), ⟨fun b o e n nf => ub.keep b o e (drop_none n) nf, ub.slot, fun b o e n => back_none ub.free e n, ub.there, fun b xs q => ?_, fun b o v q => ?_, fun b qs q => ?_⟩, ?_, os, ag, hE (gone ub.free)⟩
    · have m := ps.no q no_tup
      rw [backC_out m]; exact ub.tups b xs (by rw [dropC_out m]; exact q)
    · have m := ps.no q no_frz
      rw [backC_out m]; exact ub.frzs b o v (by rw [dropC_out m]; exact q)
    · have m := ps.no q no_tbl
      obtain ⟨more, z⟩ := ub.tbls b qs (by rw [dropC_out m]; exact q)
      exact ⟨more, by rw [backC_out m]; exact z⟩
    · by_cases m : a ∈ lamCs X scope
      · rcases kB a m with z | ⟨o, _, z⟩
        · rw [backC_in m]; exact z
        · rw [fl.2.1] at z; cases z
      · rw [backC_out m]; exact na
end
section
variable {X : Cx} {i k : Nat} {x : Str} {p pos : Pos} {E : St → XK}
/-- x(), x a name of the def that holds what keeps a promise -/
def tCallClo (P : Program) (w : World) (K : PySem.W.Frag) (mg : Str → Option Value) (base : Heap) (i k : Nat) (E : St → XK) : TE := fun σ H Q => ∃ f sp, σ[i]? = some (some (.ref f)) ∧ CloOk P w K mg base k f sp ∧ sp H Q (E σ)
theorem pe_callClo (hr : Room k X.A) (hN : X.N[i]? = some x) (hv : Vis X.env.scope x) (hx : ∀ σ, PassesAt (L2.CX X.prog X.w) X σ (E σ)) (hdb : (x == ("__debug__" : Str)) = false := by decide) (hcd : (x == ("__classdict__" : Str)) = false := by decide) :
    PE X (.Call (.Name x p) [] [] pos) (tCallClo X.prog X.w X.K X.mg X.base i k E) := by
  constructor
  intro pins s σ H Q I ⟨f, sp, hs, C, h⟩
  refine wpAny_Call_Name_kw (thn ((pe_var (pos := p) hN hv hdb hcd).run pins s σ H (fun v H1 => v = .ref f ∧ H1 = H) I ⟨.ref f, hs, rfl, rfl⟩) fun u s1 ⟨v, H1, I1, r1, q1⟩ => ?_)
  obtain ⟨rfl, rfl⟩ := q1
  cases r1
  obtain ⟨fn, run⟩ := C X.A X.stack s1 _ Q (E σ) hr I1.env0 h
  refine PySem.W.callWith_F0 fn (wpAny_call (codeAny_mono run fun r s' hq => ?_))
  cases r with
  | error er => exact hx σ pins _ s1 er s' I1 hq
  | ok fl =>
    cases fl with
    | ret u => exact I1.after hq
    | next => exact False.elim hq
    | brk => exact False.elim hq
    | cont => exact False.elim hq
end
end L2
/-! a lambda is made, and is new -/
namespace L2
open PySem PySem.Spec PyProof.Rows LamX
/-- the reading: tables grow, all else stays; the lambda stands at a new place -/
def tLamE (X : Cx) (T : List (Addr × Str)) (params : Arguments) (body : Expr) (scope : Scope) : TE := fun σ H Q => Tabs T H ∧ ∀ f H1, ExtN H H1 → Tabs T H1 → H f = none → LamAt X H1 f params body scope → Q (.ref f) H1
section
variable {X : Cx} {pins : List (Addr × Obj)} {σ : St} {H : Hp} {s : Shared} {T : List (Addr × Str)} {c P : Addr} {params : Arguments} {body : Expr} {scope : Scope} {pos : Pos}
/-- the new function's object is pinned -/
theorem Inv.newFn {s1 : Shared} {H1 : Hp} {f c' : Addr} {pm ctv : Value} {q : Str} {cl : List (Str × Addr)} (I : Inv X pins σ H s) (I1 : Inv X pins σ H1 s1) (hz : s.heap.objs.size ≤ f) (n1 : H1 f = none) (ho : s1.heap.get? f = some (PySem.W.kla_obj "<lambda>" q params body scope cl pm c' ctv)) :
    Inv X pins σ (upd H1 f (PinO f (PySem.W.kla_obj "<lambda>" q params body scope cl pm c' ctv))) s1 := by
  refine I1.know ho n1 (fun z => ?_) ?_ (fun v z => by cases z) (fun p hp z => ?_) (pinO_ok ho)
  · have := I.lt
    rw [← z] at this
    exact Nat.lt_irrefl _ (Nat.lt_of_lt_of_le this hz)
  · cases e : X.s_0.heap.get? f with
    | none => rfl
    | some o => exact absurd (Nat.lt_of_lt_of_le (Heap.lt_size e) (Nat.le_trans I.sz hz)) (Nat.lt_irrefl _)
  · have := Heap.lt_size (I.pin p hp).1
    rw [z] at this
    exact Nat.lt_irrefl _ (Nat.lt_of_lt_of_le this hz)
theorem pe_lam (TB : TabB X.base X.mg c P) (hcode : X.env.code = .ref c) (hm : (P, X.env.qual ++ "<lambda>") ∈ T) (hu : ∀ p ∈ T, p.1 = P → p.2 = X.env.qual ++ "<lambda>") (hdef : defaultsOf params X.env = ([], [])) (L : LamS X.env.scope scope) :
    PE X (.Lambda params body scope pos) (tLamE X T params body scope) := by
  constructor
  rintro pins s σ H Q I ⟨hT, h⟩
  have has := L.has I.ok
  obtain ⟨ps, hP, ht, ha⟩ := hT _ hm
  have blt : s.heap.BuiltinsAt X.mg P := TB.bm.keeps I.bk
  have tab : s.heap.get? P = some { cls := .none, data := .fields ps } := I.hok P _ hP
  refine PySem.W.kla_eval hdef ?_
  cases hc : codeAmong pos ps.toList with
  | some cv =>
    obtain ⟨c', rfl, hco⟩ := ha pos cv hc
    refine PySem.W.kla_makeFunctionHit (mg := X.mg) (c := c) (P := P) (ps := ps) (closure_ok has) I.ok.glob (I.mod.glob.keeps I.bk) hcode (TB.code.keeps I.bk) tab ht hc blt fun ctv h' tk hx hsz => ?_
    have I1 : Inv X pins σ H { s with heap := h'.push (PySem.W.kla_obj "<lambda>" (X.env.qual ++ "<lambda>") params body scope (lamCl X scope) ((X.mg "__name__").getD .none) c' ctv), toks := tk } := I.kept fun b o e => Heap.get?_push_of_some _ (hx b o e)
    have nf : H h'.objs.size = none := I.hok.fresh hsz
    have J := I.newFn I1 hsz nf (Heap.get?_push_size _ rfl)
    have sm : ∀ b o, H b = some o → upd H h'.objs.size (PinO h'.objs.size (PySem.W.kla_obj "<lambda>" (X.env.qual ++ "<lambda>") params body scope (lamCl X scope) ((X.mg "__name__").getD .none) c' ctv)) b = some o := fun b o e => by rw [upd_ne (ne_of_none e nf)]; exact e
    exact ⟨.ref h'.objs.size, _, J, rfl, h _ _ (.of sm) (hT.ext sm) nf ⟨c', _, ctv, upd_same, sm _ _ hco⟩⟩
  | none =>
    refine PySem.W.kla_makeFunction (mg := X.mg) (c := c) (P := P) (ps := ps) (closure_ok has) I.ok.glob (I.mod.glob.keeps I.bk) hcode (TB.code.keeps I.bk) tab ht hc TB.gP blt fun c' ctv h' tk hx hge hlt hrec htb => ?_
    obtain ⟨c2, oc, vs, tq, e2, hoc, hd, hv⟩ := hrec
    cases e2
    have hsz : s.heap.objs.size ≤ h'.objs.size := Nat.le_trans hge (Nat.le_of_lt hlt)
    have nC : H c' = none := I.hok.fresh hge
    have nPC : P ≠ c' := ne_of_none hP nC
    have I1 := inv_table (t' := tk) (more := #[rawInt pos.line, rawInt pos.col, .ref c']) (h' := h'.push (PySem.W.kla_obj "<lambda>" (X.env.qual ++ "<lambda>") params body scope (lamCl X scope) ((X.mg "__name__").getD .none) c' ctv)) I hP
      (fun b o hb e => Heap.get?_push_of_some _ (hx b o hb e)) (Heap.get?_push_of_some _ htb) hge ⟨oc, vs, tq, Heap.get?_push_of_some _ hoc, hd, hv⟩
    have nf : upd (upd H P (.tbl (ps ++ #[rawInt pos.line, rawInt pos.col, .ref c']))) c' (CodeO c' (X.env.qual ++ "<lambda>")) h'.objs.size = none := by
      rw [upd_ne (Nat.ne_of_gt hlt), upd_ne (Nat.ne_of_gt (Nat.lt_of_lt_of_le (Heap.lt_size tab) hsz))]
      exact I.hok.fresh hsz
    have J := I.newFn I1 hsz nf (Heap.get?_push_size _ rfl)
    have eA : ∀ b o, H b = some o → (∀ qs, o ≠ .tbl qs) → upd (upd H P (.tbl (ps ++ #[rawInt pos.line, rawInt pos.col, .ref c']))) c' (CodeO c' (X.env.qual ++ "<lambda>")) b = some o := fun b o e n => by
      rw [upd_ne (ne_of_none e nC), upd_ne (fun z => n ps (Option.some.inj (e.symm.trans (by rw [z]; exact hP))))]
      exact e
    have tT : Tabs T (upd (upd H P (.tbl (ps ++ #[rawInt pos.line, rawInt pos.col, .ref c']))) c' (CodeO c' (X.env.qual ++ "<lambda>"))) := fun p hp => by
      have more : (ps ++ #[rawInt pos.line, rawInt pos.col, .ref c']).toList = ps.toList ++ [rawInt pos.line, rawInt pos.col, .ref c'] := by simp
      by_cases hb : p.1 = P
      · refine ⟨ps ++ #[rawInt pos.line, rawInt pos.col, .ref c'], by rw [hb, upd_ne nPC, upd_same], by rw [more]; exact PySem.TriplesOk_snoc _ _ _ _ ht, fun p' cv hcv => ?_⟩
        rw [more] at hcv
        rw [hu p hp hb]
        rcases among_app _ ht hcv with z | z
        · obtain ⟨c0, e1, e2⟩ := ha p' cv z
          exact ⟨c0, e1, eA _ _ e2 codeO_ne⟩
        · exact ⟨c', z, upd_same⟩
      · obtain ⟨qs, a1, a2, a3⟩ := hT p hp
        refine ⟨qs, by rw [upd_ne (ne_of_none a1 nC), upd_ne hb]; exact a1, a2, fun p' cv hcv => ?_⟩
        obtain ⟨c0, e1, e2⟩ := a3 p' cv hcv
        exact ⟨c0, e1, eA _ _ e2 codeO_ne⟩
    refine ⟨.ref h'.objs.size, _, J, rfl, h _ _ (fun b o e n => ?_) (tT.ext fun b o e => by rw [upd_ne (ne_of_none e nf)]; exact e) (I.hok.fresh hsz) ⟨c', _, ctv, upd_same, by rw [upd_ne (Nat.ne_of_lt hlt)]; exact upd_same⟩⟩
    have e' := eA b o e n
    rw [upd_ne (ne_of_none e' nf)]; exact e'
end
end L2
/-! list comprehensions whose items hand lambdas on -/
namespace L2
open PySem PySem.Spec PyProof.Rows LamX
/-- a block of X: what is known where it begins -/
structure BlkAt (X : Cx) (σ0 : St) (scope : Scope) (s : Shared) (H : Hp) (cl : List (Str × Addr)) (fp : List Addr) : Prop where
  inv : ∃ pins, Inv X pins σ0 H s ∧ ∀ b ∈ fp, FpOk X pins H b
  cl : cl = cellsFrom (s.heap.objs.size + 1) scope.names (cloFrom X.env.cells scope.names [])
/-- an item's expression in a block of X -/
def PEb (X : Cx) (scope : Scope) (vs : List Nat) (e : Expr) (t : TE) : Prop :=
  ∀ (σ0 : St) (s0 : Shared) (H0 : Hp) (C : Addr) (cl : List (Str × Addr)) (fp : List Addr), BlkAt X σ0 scope s0 H0 cl fp →
    ∀ (pins : List (Addr × Obj)) (s : Shared) (σ : St) (H : Hp) (Q : VK), wipe σ vs = wipe σ0 vs → Inv (X.blk s0 H0 scope (compEnvC scope cl C X.env) fp) pins σ H s → t σ H Q →
      wpAny (model X.prog X.w) X.A (eval e (compEnvC scope cl C X.env)) (EP (X.blk s0 H0 scope (compEnvC scope cl C X.env) fp) pins σ Q) (fun _ _ => False) s
theorem peb_of {X : Cx} {scope : Scope} {vs : List Nat} {e : Expr} {t : TE} (h : ∀ (s : Shared) (H : Hp) (C : Addr) (cl : List (Str × Addr)) (fp : List Addr), PE (X.blk s H scope (compEnvC scope cl C X.env) fp) e t) : PEb X scope vs e t :=
  fun _ s0 H0 C cl fp _ pins s σ H Q _ I q => (h s0 H0 C cl fp).run pins s σ H Q I q
section
variable {X : Cx}
theorem pe_lcX {elt tg iter : Expr} {ifs : List Expr} {scope : Scope} {own : List (Str × Nat)} {pos : Pos} {wi : TI} {g : TG} {tt : TT} {te : TE} (hc : X.calm = true) (hN : X.N.Nodup) (hi : PI X tg iter wi) (ok : BlkOk X.N X.env.scope scope own)
    (hg : ∀ (s : Shared) (H : Hp) (C : Addr) (cl : List (Str × Addr)) (fp : List Addr), PG (X.blk s H scope (compEnvC scope cl C X.env) fp) tg g) (ht : ∀ (s : Shared) (H : Hp) (C : Addr) (cl : List (Str × Addr)) (fp : List Addr), PTs (X.blk s H scope (compEnvC scope cl C X.env) fp) ifs tt)
    (he : PEb X scope (own.map (·.2)) elt te) (hs : ∀ x, foldedSetIterable iter X.env x = pure x := by intro _; rfl) :
    PE X (.ListComp elt [⟨tg, iter, ifs, 0⟩] scope pos) (tLc wi g tt te (own.map (·.2))) := by
  constructor
  intro pins s σ H Q I h
  rw [eval_ListComp]
  have caught : ∀ y ∈ scope.names, y.2 = .free → ∃ c, X.env.cells.lookup y.1 = some c := fun y hy e => (ok.free y hy e).elim (fun k => I.ok.has _ (.inl k)) fun k => I.ok.has _ (.inr k)
  refine wpAny_comprehension_free rfl hs (closure_ok caught) ok.kind (fun y hy e => by rw [ok.uniq y hy, e]) (thn (hi.run pins s σ H _ I h) fun xv s1 hx => thn hx fun itv s2 h2 => ?_)
  obtain ⟨it, fp, tn, J, H2, rfl, I2, T, st2, f2, q⟩ := h2
  refine wpAny_newObj_type (newEnv_comp ?_) (by show 0 ≤ sizeLine; decide)
  generalize hD : s2.heap.objs.size = D
  have nD : H2 D = none := I2.hok.fresh (Nat.le_of_eq hD)
  obtain ⟨W, ⟨m0, w0⟩, turn⟩ := q D nD
  have grow : ∀ {l : List Value} {b : Addr} {o : Obj}, s2.heap.get? b = some o → (s2.heap.push { cls := .type "list", data := .seq l.toArray }).get? b = some o := fun e => Heap.get?_push_of_some _ e
  have I3 : Inv X pins σ (upd H2 D (.lst [])) { s2 with heap := s2.heap.push { cls := .type "list", data := .seq ([] : List Value).toArray } } :=
    I2.laid (t' := s2.toks) (fun b o e => grow e) (Nat.le_of_eq hD) ⟨Nat.zero_le _, [], 0, .nil, by rw [← hD]; exact Heap.get?_push_size _ rfl⟩
  have f3 : ∀ b ∈ fp, FpOk X pins (upd H2 D (.lst [])) b ∧ b < (s2.heap.push { cls := .type "list", data := .seq ([] : List Value).toArray }).objs.size := fun b hb => by
    obtain ⟨o, e, _⟩ := T.obj _ _ st2 b hb
    have lt := Heap.lt_size e
    exact ⟨⟨by rw [upd_ne (by rw [← hD]; exact Nat.ne_of_lt lt)]; exact (f2 b hb).1, (f2 b hb).2⟩, by rw [Heap.size_push]; exact Nat.lt_succ_of_lt lt⟩
  have st3 := T.keep _ _ (s2.heap.push { cls := .type "list", data := .seq ([] : List Value).toArray }) st2 fun b _ o e => grow e
  generalize hs3 : ({ s2 with heap := s2.heap.push { cls := .type "list", data := .seq ([] : List Value).toArray } } : Shared) = s3 at I3 ⊢
  have e3 : s3.heap = s2.heap.push { cls := .type "list", data := .seq ([] : List Value).toArray } := by rw [← hs3]
  rw [← e3] at f3 st3
  have I4 := block_start I3 ok hN f3
  have B : BlkAt X σ scope s3 (upd H2 D (.lst [])) (cellsFrom (s3.heap.objs.size + 1) scope.names (cloFrom X.env.cells scope.names [])) fp := ⟨⟨pins, I3, fun b hb => (f3 b hb).1⟩, rfl⟩
  have pg := hg s3 (upd H2 D (.lst [])) s3.heap.objs.size (cellsFrom (s3.heap.objs.size + 1) scope.names (cloFrom X.env.cells scope.names [])) fp
  have pt := ht s3 (upd H2 D (.lst [])) s3.heap.objs.size (cellsFrom (s3.heap.objs.size + 1) scope.names (cloFrom X.env.cells scope.names [])) fp
  have pe := he σ s3 (upd H2 D (.lst [])) s3.heap.objs.size (cellsFrom (s3.heap.objs.size + 1) scope.names (cloFrom X.env.cells scope.names [])) fp B
  show codeAny _ _ (.compStart (.ListComp elt [⟨tg, iter, ifs, 0⟩] scope pos) 0 (.ref it) (.ref D) (compEnvC scope (cellsFrom (s3.heap.objs.size + 1) scope.names (cloFrom X.env.cells scope.names [])) s3.heap.objs.size X.env)) _ { s3 with heap := pushCells (s3.heap.push { cls := .type "dict", data := .dict #[] }) scope.names }
  have nfp : ∀ b ∈ fp, (upd H2 D (.lst [])) b = none := fun b hb => (f3 b hb).1.1
  generalize hce : compEnvC scope (cellsFrom (s3.heap.objs.size + 1) scope.names (cloFrom X.env.cells scope.names [])) s3.heap.objs.size X.env = ce at I4 pg pt pe ⊢
  have cL : ce.locals = s3.heap.objs.size := by subst hce; rfl
  generalize upd H2 D (.lst []) = H3 at I3 I4 pg pt pe w0 nfp f3
  generalize hs4 : ({ s3 with heap := pushCells (s3.heap.push { cls := .type "dict", data := .dict #[] }) scope.names } : Shared) = s4 at I4 ⊢
  have st4 : tn 0 s4.heap := T.keep _ _ _ st3 fun b _ o e => by rw [← hs4]; exact pushCells_keeps _ _ _ _ (Heap.get?_push_of_some _ e)
  have still : ∀ {σ' : St} {H' : Hp} {s' : Shared}, Inv (X.blk s3 H3 scope ce fp) [] σ' H' s' → (∀ b ∈ fp, H' b = none) → ∀ b ∈ fp, FpOk (X.blk s3 H3 scope ce fp) [] H' b := fun {σ' H' s'} I' hn b hb =>
    ⟨hn b hb, (I'.ok.exf b hb).1, I'.ok.exfs b hb, .inl hb, fun x c e => (I'.ok.exf b hb).2 x c e, fun p hp => absurd (show p ∈ ([] : List (Addr × Obj)) ++ [] from hp) (by simp)⟩
  have loop : codeAny (model X.prog X.w) X.A (.compLoop (.ListComp elt [⟨tg, iter, ifs, 0⟩] scope pos) 0 (.ref it) (.ref D) ce) (compPost (model X.prog X.w) X.A X.xe none (EP X pins σ Q) (.ref D) s3.heap.objs.size) s4 := by
    refine compLoop_any (fun n s' => ∃ i H', Inv (X.blk s3 H3 scope ce fp) [] (wipe σ (own.map (·.2))) H' s' ∧ tn i s'.heap ∧ (∀ b ∈ fp, H' b = none) ∧ W i n H') ?_ m0 ⟨0, H3, I4, st4, nfp, w0⟩
    rintro n s5 ⟨i, H5, I5, st5, n5, w5⟩
    rcases turn i n H5 w5 with ⟨stop, qq⟩ | ⟨go, Nx, hNx, step⟩
    · refine thnF (T.done (X.blk s3 H3 scope ce fp) rfl rfl rfl hc i [] s5 _ H5 (fun _ _ => False) I5 (still I5 n5) st5 stop) fun r s6 ⟨hr, I6⟩ => ?_
      subst hr
      have I7 : Inv X pins σ H5 s6 := I3.call' (ch := fp) I6.os I6.base I6.hok I6.bare fun b hb => ⟨(f3 b hb).1.2.2.2.1, (f3 b hb).1.2.1, (f3 b hb).1.2.2.2.2.1, (f3 b hb).1.2.2.2.2.2⟩
      have nC : H5 s3.heap.objs.size = none := by
        have z : H5 ce.locals = none := I6.free
        rw [cL] at z; exact z
      obtain ⟨m, hn, _⟩ := I6.loc
      have hn : s6.heap.Ns ce.locals m := hn
      rw [cL] at hn
      obtain ⟨g0, g1, g2, g3, g4, g5⟩ := I3.fpOk (Nat.le_refl s3.heap.objs.size) nC
      exact ⟨m, hn, fun h'' sb => ⟨.ref D, H5, I7.turned (t' := s6.toks) (fun b o hb e => (sb.2 b hb).trans e) g0 g1 g3 g4 g5, rfl, qq⟩⟩
    · refine thnF (T.item (X.blk s3 H3 scope ce fp) rfl rfl rfl hc i [] s5 _ H5 (fun _ _ => False) I5 (still I5 n5) st5 go) fun r s6 ⟨u, hr, h6⟩ => ?_
      subst hr
      refine thnF h6 fun _ s7 ⟨x, H7, I7, r7, y7, st7, n7⟩ => ?_
      have J7 := I7.pinned (still I7 n7) (T.obj _ _ st7)
      refine thnF (pg.run _ s7 _ H7 x u _ J7 r7 (step x H7 y7)) fun _ s8 ⟨σ8, H8, I8, hw8, q8⟩ => ?_
      refine thnF (pt.run _ s8 σ8 H8 _ I8 q8) fun b s9 ⟨H9, I9, q9⟩ => ?_
      have next : ∀ {s' : Shared} {H' : Hp}, Inv (X.blk s3 H3 scope ce fp) ([] ++ pinsAt fp s7.heap) σ8 H' s' → Nx H' → ∃ m, m < n ∧ ∃ i H', Inv (X.blk s3 H3 scope ce fp) [] (wipe σ (own.map (·.2))) H' s' ∧ tn i s'.heap ∧ (∀ b ∈ fp, H' b = none) ∧ W i m H' := fun {s' H'} I' nx => by
        obtain ⟨m', hm, w'⟩ := hNx H' nx
        have pp : ∀ b ∈ fp, ∀ o, s7.heap.get? b = some o → s'.heap.get? b = some o ∧ H' b = none := fun b hb o e =>
          have z := I'.pin (b, o) (List.mem_append_right _ (List.mem_append_right _ (mem_pinsAt hb e)))
          ⟨z.1, z.2.1⟩
        refine ⟨m', hm, i + 1, H', (I'.unpinned (pins := [])).weak (by rw [← wipe_length σ8 (own.map (·.2)), hw8]) (fun j v e => ?_), T.keep _ _ _ st7 fun b hb o e => (pp b hb o e).1, fun b hb => ?_, w'⟩
        · rw [← hw8] at e; exact (wipe_some e).1
        · obtain ⟨o, e, _⟩ := T.obj _ _ st7 b hb
          exact (pp b hb o e).2
      cases b with
      | false =>
        simp only [Bool.false_eq_true, if_false] at q9 ⊢
        exact next I9 q9
      | true =>
        simp only [if_true] at q9 ⊢
        refine thnF (pe _ s9 σ8 H9 _ hw8 I9 q9) fun z s10 ⟨yv, H10, I10, r10, acc, hD10, hz10, nx⟩ => ?_
        exact app_ok (X := X.blk s3 H3 scope ce fp) I10 hD10 hz10 r10 fun s11 I11 => next I11 nx
  exact codeAny_compStart_list loop (T.self X.A 0 _ _ _ st4 loop)
end
end L2
/-! within a comprehension: calls that hand on lambdas of the def around -/
namespace L2
open PySem PySem.Spec PyProof.Rows LamX
theorem wipe_get {σ : St} {i : Nat} : ∀ {vs : List Nat}, i ∉ vs → (wipe σ vs)[i]? = σ[i]?
  | [], _ => rfl
  | v :: vs, h => by
    unfold wipe
    rw [List.getElem?_set_ne (fun z => h (by rw [z]; exact List.mem_cons_self))]
    exact wipe_get fun m => h (List.mem_cons_of_mem _ m)
section
variable {P : Program} {w : World} {K : PySem.W.Frag} {mg : Str → Option Value} {base : Heap} {A : Around} {outer : List Env} {s : Shared} {H : Hp}
/-- objects that nobody knows, pinned -/
theorem pin_state (e0 : Env0 P w K mg base A outer s H) (cs : List Addr) (h : ∀ c ∈ cs, H c = none ∧ c ∉ frs outer ∧ base.get? c = none) :
    ∃ HZ, dropC cs HZ = H ∧ Pins cs HZ ∧ (∀ c ∈ cs, HZ c = (s.heap.get? c).map (PinO c)) ∧ (∀ b, b ∉ cs → HZ b = H b) ∧ Env0 P w K mg base A outer s HZ := by
  let HZ : Hp := fun b => if b ∈ cs then (s.heap.get? b).map (PinO b) else H b
  have hin : ∀ {b}, b ∈ cs → HZ b = (s.heap.get? b).map (PinO b) := fun m => if_pos m
  have hout : ∀ {b}, b ∉ cs → HZ b = H b := fun m => if_neg m
  have keep : ∀ {b u}, H b = some u → HZ b = some u := fun {b u} q => by rw [hout (fun m => by rw [(h b m).1] at q; cases q)]; exact q
  refine ⟨HZ, ?_, fun c m => ?_, fun c m => hin m, fun b m => hout m, ⟨e0.frames, e0.mod, fun b o e => ⟨(e0.bs b o e).1, ?_⟩, e0.bsz, e0.funs, fun b hb => ?_, fun b u e => ?_, e0.bare⟩⟩
  · funext b
    by_cases m : b ∈ cs
    · rw [dropC_in m, (h b m).1]
    · rw [dropC_out m, hout m]
  · rw [hin m]
    cases s.heap.get? c with
    | none => exact .inl rfl
    | some o => exact .inr ⟨o, rfl⟩
  · rw [hout (fun m => by rw [(h b m).2.2] at e; cases e)]
    exact (e0.bs b o e).2
  · rw [hout (fun m => (h b m).2.1 hb)]; exact e0.frf b hb
  · by_cases m : b ∈ cs
    · rw [hin m] at e
      cases q : s.heap.get? b with
      | none => rw [q] at e; cases e
      | some o => rw [q] at e; cases e; exact pinO_ok q
    · rw [hout m] at e
      exact (e0.hok b u e).stay (fun _ _ _ q => q) (fun c q => keep q) fun c xs q => keep q
end
section
variable {X : Cx} {x : Str} {k : Nat} {ps : List Str} {sp : Sp} {e : Expr} {es : List Expr} {t : TA} {p pos : Pos} {scope : Scope} {vs : List Nat}
/-- g(e, ..) in a comprehension, where lambdas that the def around made are handed on -/
theorem peb_fdC (ys : List Str) (hk : ∀ y ∈ ys, InCell X y) (hf : NoFr X ys) (hv : ∀ y ∈ ys, ∀ i, X.N[i]? = some y → i ∉ vs) (G : Fp.FdG X.prog X.w X.K X.mg X.base CX0 x k ps sp) (hr : Room k X.A) (hgu : X.A.guards = some [])
    (hg : ∀ (s : Shared) (H : Hp) (C : Addr) (cl : List (Str × Addr)) (fp : List Addr), Gl (X.blk s H scope (compEnvC scope cl C X.env) fp) x)
    (ha : ∀ (s : Shared) (H : Hp) (C : Addr) (cl : List (Str × Addr)) (fp : List Addr), PA (X.blk s H scope (compEnvC scope cl C X.env) fp) (e :: es) t) (hdb : (x == ("__debug__" : Str)) = false := by decide)
    (he : ∀ env : Env, starEach (e :: es) env = (false, eval e env) :: starEach es env := by intro _; rfl) (hpl : ∀ env : Env, (backTo pos (starEach es env)).any (·.1) = false := by intro _; rfl) :
    PEb X scope vs (.Call (.Name x p) (e :: es) [] pos) (tCallC X ys sp t) := by
  obtain ⟨f, fd, hm, hkk, hb, F⟩ := G.ex
  intro σ0 s0 H0 C cl fp B pins s σ H Q hw I h
  obtain ⟨⟨pins0, I0, hfp⟩, _⟩ := B
  refine wpAny_Call_Name_kw (ld_glob (X := X.blk s0 H0 scope (compEnvC scope cl C X.env) fp) I (hg s0 H0 C cl fp) hm ?_ hdb)
  refine PySem.W.callWith_K (h₀ := X.base) I.ok.mod.kin hkk (thn ((ha s0 H0 C cl fp).run pos pins s σ H _ I h) fun us s1 ⟨ws, H1, I1, r, q⟩ => ⟨I1.kIn, ?_⟩) (he _) (hpl _)
  let cs : List Addr := ((cellsOf X ys).map (·.2)).filter fun c => (X.base.get? c).isNone
  have csm : ∀ {c}, c ∈ cs → (∃ y, y ∈ ys ∧ X.env.cells.lookup y = some c) ∧ X.base.get? c = none := fun {c} m => by
    obtain ⟨m1, m2⟩ := List.mem_filter.mp m
    obtain ⟨⟨y, c'⟩, h, rfl⟩ := List.mem_map.mp m1
    exact ⟨⟨y, cellsOf_mem.mp h⟩, Option.isNone_iff_eq_none.mp m2⟩
  have nfr : ∀ y ∈ ys, ∀ c, X.env.cells.lookup y = some c → c ∉ frs X.stack := fun y hy c e z => by
    rcases List.mem_cons.mp (I0.stkSub c z) with q | q
    · exact I0.cne y c e q
    · exact hf I0.ok y hy c e q
  have nfp : ∀ y c, X.env.cells.lookup y = some c → c ∉ fp := fun y c e m => (hfp c m).2.2.2.2.1 y c e rfl
  -- what stands there since the block began
  have here : ∀ y ∈ ys, ∀ c, X.env.cells.lookup y = some c → ∃ o ov, s1.heap.get? c = some o ∧ H1 c = none ∧ s0.heap.get? c = some o ∧ o.data = .cell ov := fun y hy c e => by
    obtain ⟨ov, o, ho, hd⟩ := I0.cell y c e
    have n0 := I0.freeC y c e
    exact ⟨o, ov, I1.base.keep c o ho n0 (nfr y hy c e) (nfp y c e), I1.base.free c o ho n0 (nfp y c e), ho, hd⟩
  obtain ⟨HZ, e1, e2, e3, e4, e0⟩ := pin_state I1.env0 cs fun c m => by
    obtain ⟨⟨y, hy, e⟩, hb⟩ := csm m
    obtain ⟨_, _, _, n, _⟩ := here y hy c e
    exact ⟨n, nfr y hy c e, hb⟩
  have cA : CellsAt X.N X.base σ (cellsOf X ys) HZ := fun y c e => by
    obtain ⟨hy, e⟩ := cellsOf_lookup.mp e
    obtain ⟨o, ov, h1, n1, h0, hd⟩ := here y hy c e
    refine ⟨o, ov, ?_, hd, fun i v a1 a2 => ?_⟩
    · by_cases m : c ∈ cs
      · exact .inl (by rw [e3 c m, h1]; rfl)
      · right
        refine ⟨by rw [e4 c m]; exact n1, ?_⟩
        cases q : X.base.get? c with
        | none => exact absurd (List.mem_filter.mpr ⟨List.mem_map.mpr ⟨(y, c), cellsOf_mem.mpr ⟨hy, e⟩, rfl⟩, by rw [q]; rfl⟩) m
        | some o' =>
          have := (I0.bs c o' q).1
          rw [h0] at this; cases this; rfl
    · have ni := hv y hy i a1
      have a0 : σ0[i]? = some (some v) := by rw [← wipe_get ni, ← hw, wipe_get ni]; exact a2
      obtain ⟨mm, _, hl⟩ := I0.loc
      obtain ⟨u, r, q⟩ := hl i y v a1 a0 ((hk y hy).elim (fun z => .inr (.inl z)) (fun z => .inr (.inr z)))
      rcases q with ⟨k, _⟩ | ⟨_, c', e', o', ho', hd'⟩
      · have k : X.env.scope.names.lookup y = some .local := k
        rcases hk y hy with z | z <;> rw [z] at k <;> cases k
      · rw [e] at e'; cases e'
        rw [h0] at ho'; cases ho'
        rw [hd] at hd'; cases hd'
        exact ⟨u, rfl, r⟩
  have eP : Pinned cs HZ := fun c m => by
    obtain ⟨⟨y, hy, e⟩, _⟩ := csm m
    obtain ⟨o, _, h1, _⟩ := here y hy c e
    exact ⟨o, by rw [e3 c m, h1]; rfl⟩
  have q1 := q I0.ok I1.len cs HZ e1 eP cA
  have r2 : Vals (ws ++ []) (us ++ []) := r.append .nil
  rw [List.append_nil, List.append_nil] at r2
  have hl : us.length = ps.length := by rw [← r2.length]; exact F.len _ _ _ _ q1
  have bb := hb s1 us I1.kIn (by rw [List.append_nil]; exact hl)
  rw [List.append_nil] at bb
  refine wpAny_call (codeAny_mono (F.run X.A X.stack s1 HZ ⟨us, []⟩ us ws _ E0 hr hgu e0 bb r2 q1) fun r s' hq => ?_)
  cases r with
  | error er => exact (show False from hq)
  | ok fl =>
    cases fl with
    | ret u =>
      obtain ⟨v, H', os, bare, un, hok, rv, hp, qq⟩ := hq
      refine I1.after ⟨v, dropC cs H', os, bare, ?_, hok_drop hok (fun c m => by rw [hp c m]; exact e2 c m), rv, qq⟩
      rw [← e1]
      exact un_drop e2 hp e0.hok hok un fun c m => by
        obtain ⟨⟨y, hy, e⟩, _⟩ := csm m
        exact nfr y hy c e
    | next => exact False.elim hq
    | brk => exact False.elim hq
    | cont => exact False.elim hq
end
end L2
namespace L2
open PySem PySem.Spec PyProof.Rows LamX
/-- within a block, too, cells are no frames -/
theorem noFr_blk {X : Cx} {scope : Scope} {own : List (Str × Nat)} {ys : List Str} {σ0 : St} {s : Shared} {H : Hp} {C : Addr} {cl : List (Str × Addr)} {fp : List Addr} (okb : BlkOk X.N X.env.scope scope own) (hf : NoFr X ys) (B : BlkAt X σ0 scope s H cl fp) :
    NoFr (X.blk s H scope (compEnvC scope cl C X.env) fp) ys := fun _ y hy c e m => by
  obtain ⟨⟨pins0, I0, _⟩, hcl⟩ := B
  have e : cl.lookup y = some c := e
  have m : c ∈ frs X.stack := m
  rw [hcl] at e
  have mem := PySem.mem_of_lookup e
  rw [← Heap.size_push s.heap { cls := .type "cell", data := .cell none }] at mem
  rcases cells_mem mem with q | ⟨_, q, _⟩
  · rcases cloFrom_mem q with q | ⟨q1, q2⟩
    · cases q
    · obtain ⟨c1, hc⟩ : ∃ c1, X.env.cells.lookup y = some c1 := by
        rcases okb.free _ q1 rfl with k | k
        · exact I0.ok.has _ (.inl k)
        · exact I0.ok.has _ (.inr k)
      have ec : c = c1 := by rw [q2, hc]; rfl
      subst ec
      rcases List.mem_cons.mp (I0.stkSub c m) with z | z
      · exact I0.cne y c hc z
      · exact hf I0.ok y hy c hc z
  · obtain ⟨_, o, ho, _⟩ := I0.stack.mem m
    rw [Heap.size_push] at q
    exact Nat.lt_irrefl _ (Nat.lt_of_lt_of_le (Heap.lt_size ho) (Nat.le_of_succ_le q))
def tAllB (t : Shared → Hp → Addr → List (Str × Addr) → List Addr → TE) : TE := fun σ H Q => ∀ s0 H0 C cl fp, t s0 H0 C cl fp σ H Q
theorem all_in {t : Shared → Hp → Addr → List (Str × Addr) → List Addr → TE} {σ : St} {H : Hp} {Q : VK} (h : ∀ s0 H0 C cl fp, t s0 H0 C cl fp σ H Q) : tAllB t σ H Q := h
/-- an item's expression, whatever the block -/
theorem peb_all {X : Cx} {scope : Scope} {vs : List Nat} {e : Expr} {t : Shared → Hp → Addr → List (Str × Addr) → List Addr → TE}
    (h : ∀ (σ0 : St) (s : Shared) (H : Hp) (C : Addr) (cl : List (Str × Addr)) (fp : List Addr), BlkAt X σ0 scope s H cl fp → PE (X.blk s H scope (compEnvC scope cl C X.env) fp) e (t s H C cl fp)) :
    PEb X scope vs e (tAllB t) :=
  fun σ0 s0 H0 C cl fp B pins s σ H Q _ I q => (h σ0 s0 H0 C cl fp B).run pins s σ H Q I (q s0 H0 C cl fp)
end L2
/-! the end of a law whose defs make lambdas and show data -/
namespace L2
open PySem PySem.Spec PyProof.Rows LamX
theorem law_callTG {P : Program} {w : World} {K : PySem.W.Frag} {mg mb : Str → Option Value} {CX : CXT} {k : Nat} {fa a : Addr} {cs : List (Addr × Addr)} {fd : FuncData} {x : Str} {sp : Sp} {s₁ : Shared} {vs : List Value} {ns : List Int}
    (KX : K.In s₁.heap) (hns : s₁.heap.Ns mainGlobals mg) (hb : s₁.heap.Ns builtinsNs mb) (hbb : ∀ x : Str, x ≠ "__name__" → mb x = bootBuiltins x) (hlim : s₁.heap.NoLimit) (hg : s₁.gens = #[])
    (hT : ∀ p ∈ cs, s₁.heap.get? p.2 = some { cls := .none, data := .fields #[] }) (nT : ∀ p ∈ cs, K.lookup p.2 = none) (C : ∀ p ∈ cs, PySem.W.CodeHd s₁.heap p.1 p.2)
    (hbm : ∃ (bm : Addr) (ob : Obj), mg "__builtins__" = some (.ref bm) ∧ bm ≠ builtinsNs ∧ s₁.heap.get? bm = some ob ∧ ob.cls = .type "module" ∧ ob.dict = some builtinsNs ∧ ob.data = .plain)
    (ha : s₁.heap.get? a = some { cls := .type "list", data := .seq vs.toArray }) (hi : IntsAre vs ns) (hl : ns.length ≤ sizeLine) (hr : Room k callerA)
    (F : ∀ base : Heap, K.In base → base.Ns mainGlobals mg → (∀ p ∈ cs, TabB base mg p.1 p.2) → FnOkG P w K mg base CX k fa fd [x] sp) (hbind : ∀ (s : Shared) (u : Value), BindsTo s fd ⟨[u], []⟩ [(x, u)])
    (hsp : ∀ H : Hp, (∀ p ∈ cs, H p.2 = some (.tbl #[])) → (∀ b qs, H b = some (.tbl qs) → b ∈ cs.map (·.2)) → SqL K H a (ns.map V.int) → sp [.ref a] H (fun v _ => v = .bl true) fun _ _ _ => False)
    (hCX : ∀ H e s', CX [] H s₁ (fun _ _ _ => False) e s' → False) :
    codeAny (model P w) callerA (.call (.ref fa) ⟨[.ref a], []⟩) (fun r s' => r = .ok (.ret (.bool true)) ∧ OldK s₁.heap s'.heap ∧ s'.os = s₁.os ∧ AllBare s'.gens) s₁ := by
  have rv := vals_ints hi
  have lenV := hi.length
  have tab : ∀ b, b ∈ cs.map (·.2) → s₁.heap.get? b = some { cls := .none, data := .fields #[] } ∧ K.lookup b = none := fun b hb => by
    obtain ⟨p, hp, rfl⟩ := List.mem_map.mp hb
    exact ⟨hT p hp, nT p hp⟩
  have inT : ∀ p ∈ cs, p.2 ∈ cs.map (·.2) := fun p hp => List.mem_map.mpr ⟨p, hp, rfl⟩
  have aT : a ∉ cs.map (·.2) := fun z => by
    have q := (tab a z).1
    rw [ha] at q
    have z' : Data.seq vs.toArray _ = Data.fields #[] := congrArg Obj.data (Option.some.inj q)
    cases z'
  -- the script is locked, unless it is one of the module's own objects
  let H : Hp := fun b => if b ∈ cs.map (·.2) then some (.tbl #[]) else if b = a ∧ K.lookup a = none then some (.frz { cls := .type "list", data := .seq vs.toArray } (.lst (ns.map V.int))) else none
  have hTab : ∀ b, b ∈ cs.map (·.2) → H b = some (.tbl #[]) := fun b m => if_pos m
  have hOut : ∀ b, b ∉ cs.map (·.2) → H b = if b = a ∧ K.lookup a = none then some (.frz { cls := .type "list", data := .seq vs.toArray } (.lst (ns.map V.int))) else none := fun b m => if_neg m
  have kinds : ∀ b u, H b = some u → (b ∈ cs.map (·.2) ∧ u = .tbl #[]) ∨ (b = a ∧ K.lookup a = none ∧ u = .frz { cls := .type "list", data := .seq vs.toArray } (.lst (ns.map V.int))) := fun b u e => by
    by_cases m : b ∈ cs.map (·.2)
    · rw [hTab b m] at e; cases e; exact .inl ⟨m, rfl⟩
    · rw [hOut b m] at e
      by_cases q : b = a ∧ K.lookup a = none
      · rw [if_pos q] at e; cases e; exact .inr ⟨q.1, q.2, rfl⟩
      · rw [if_neg q] at e; cases e
  have hok : HOk P w H s₁.heap := fun b u e => by
    rcases kinds b u e with ⟨m, rfl⟩ | ⟨rfl, _, rfl⟩
    · exact (tab b m).1
    · exact ⟨ha, by rw [List.length_map]; exact hl, vs, _, rv, ha⟩
  have hS : SqL K H a (ns.map V.int) := by
    cases hk : K.lookup a with
    | none => exact .inl (.inr ⟨_, by rw [hOut a aT, if_pos ⟨rfl, hk⟩]⟩)
    | some o =>
      have e := KX a o hk
      rw [ha] at e; cases e
      exact .inr ⟨_, vs.toArray, _, hk, rfl, rfl, rfl, by rw [List.size_toArray, lenV]; exact hl, by simpa using rv⟩
  have other : ∀ {b : Addr} {o : Obj}, s₁.heap.get? b = some o → (∀ vs n, o.data ≠ .seq vs n) → o.data ≠ .fields #[] → H b = none := fun {b o} e h1 h2 => by
    cases q : H b with
    | none => rfl
    | some u =>
      rcases kinds b u q with ⟨m, _⟩ | ⟨rfl, _, _⟩
      · rw [(tab b m).1] at e; cases e; exact (h2 rfl).elim
      · rw [ha] at e; cases e; exact (h1 _ _ rfl).elim
  have keep : ∀ {b : Addr} {o : Obj}, s₁.heap.get? b = some o → H b = none → (hidT s₁.heap H).get? b = some o := fun e n => hidT_get e n
  have dict : ∀ {b : Addr} {m : Str → Option Value}, s₁.heap.Ns b m → (hidT s₁.heap H).Ns b m := fun {b m} ⟨o, es, ep, e, d, r⟩ => ⟨o, es, ep, keep e (other e (fun vs n z => by rw [d] at z; cases z) fun z => by rw [d] at z; cases z), d, r⟩
  have hKb : K.In (hidT s₁.heap H) := fun b o e => keep (KX b o e) (by
    cases q : H b with
    | none => rfl
    | some u =>
      rcases kinds b u q with ⟨m, _⟩ | ⟨rfl, n, _⟩
      · rw [(tab b m).2] at e; cases e
      · rw [n] at e; cases e)
  have hM : L2.Mod K mg (hidT s₁.heap H) := ⟨hKb, dict hns, ⟨mb, dict hb, hbb⟩, let ⟨mc, h1, h2⟩ := hlim; ⟨mc, dict h1, h2⟩⟩
  have TB : ∀ p ∈ cs, TabB (hidT s₁.heap H) mg p.1 p.2 := fun p hp => by
    have hP := hT p hp
    refine ⟨?_, ?_, fun z => ?_⟩
    · obtain ⟨o, us, file, tf, flags, tg, inF, text, tt, e1, r1, r2, r3, r⟩ := C p hp
      refine ⟨o, us, file, tf, flags, tg, inF, text, tt, keep e1 (other e1 (fun vs n z => ?_) fun z => ?_), r1, r2, r3, r⟩
      · rw [r2] at z; cases z
      · rw [r2] at z; cases z; simp at r3
    · obtain ⟨bm, ob, b1, b2, b3, b4, b5, b6⟩ := hbm
      refine ⟨bm, ob, b1, b2, fun q => ?_, fun q => ?_, keep b3 (other b3 (fun vs n z => ?_) fun z => ?_), b4, b5, b6⟩
      · obtain ⟨o, es, ep, e, hd, _⟩ := hns
        rw [q, e] at b3; cases b3
        rw [hd] at b6; cases b6
      · rw [q, hP] at b3; cases b3; cases b6
      · rw [b6] at z; cases z
      · rw [b6] at z; cases z
    · obtain ⟨o, es, ep, e, hd, _⟩ := hns
      rw [z, hP] at e; cases e; cases hd
  have e0 : Env0 P w K mg (hidT s₁.heap H) callerA [] s₁ H := ⟨rfl, hM, fun b o e => of_hidT e, Nat.le_of_eq (hidT_size _ _), trivial, fun b hb => absurd (show b ∈ ([] : List Addr) from hb) (by simp), hok, .of_eq hg⟩
  refine codeAny_mono ((F _ hKb (dict hns) TB).run callerA [] s₁ H ⟨[.ref a], []⟩ [.ref a] [.ref a] _ _ hr rfl e0 (hbind s₁ (.ref a)) (.cons rfl .nil) (hsp H (fun p hp => hTab _ (inT p hp)) (fun b qs e => ?_) hS)) fun r s' h => ?_
  · rcases kinds b _ e with ⟨m, _⟩ | ⟨_, _, z⟩
    · exact m
    · cases z
  cases r with
  | error e => exact (hCX H e s' h).elim
  | ok fl =>
    cases fl with
    | next => exact False.elim h
    | brk => exact False.elim h
    | cont => exact False.elim h
    | ret u =>
      obtain ⟨v, H', os, bare, un, hok', r', q⟩ := h
      have q' : v = .bl true := q
      subst q'
      obtain rfl : u = Value.bool true := r'
      have old : ∀ b o, b ∉ cs.map (·.2) → s₁.heap.get? b = some o → s'.heap.get? b = some o := fun b o nb e => by
        cases q : H b with
        | none => exact un.keep b o e q (by intro z; exact absurd (show b ∈ ([] : List Addr) from z) (by simp)) (by simp)
        | some u =>
          rcases kinds b u q with ⟨m, _⟩ | ⟨rfl, _, rfl⟩
          · exact absurd m nb
          · obtain ⟨e2, _⟩ := hok' b _ (un.frzs b _ _ q)
            rw [ha] at e; cases e
            exact e2
      have grown : ∀ p ∈ cs, ∃ more : Array Value, s'.heap.get? p.2 = some { cls := .none, data := .fields more } := fun p hp => by
        obtain ⟨more, z⟩ := un.tbls p.2 #[] (hTab _ (inT p hp))
        exact ⟨_, hok' p.2 _ z⟩
      refine ⟨rfl, ⟨fun b o e => ?_, fun b o e => ?_⟩, os, bare⟩
      · by_cases m : b ∈ cs.map (·.2)
        · obtain ⟨p, hp, rfl⟩ := List.mem_map.mp m
          obtain ⟨more, hm⟩ := grown p hp
          rw [hT p hp] at e; cases e
          exact .inr (.inl ⟨((C p hp).tab (hT p hp)).isCodeTable, rfl, #[], more, rfl, by rw [Array.empty_append]; exact hm⟩)
        · exact .inl (old b o m e)
      · by_cases m : b ∈ cs.map (·.2)
        · obtain ⟨p, hp, rfl⟩ := List.mem_map.mp m
          obtain ⟨more, hm⟩ := grown p hp
          exact ⟨_, hm⟩
        · exact ⟨o, old b o m e⟩
end L2
/-! the walk to the end of such a law -/
namespace L2
open PySem PySem.Spec PyProof.Rows LamX
/-- what is known of the law's promise; xs: the defs that make lambdas -/
def LawAtT (l : PySem.W.OpenLaw) (w : World) (K : PySem.W.Frag) (CX : CXT) (k n : Nat) (x : Str) (xs : List Str) (mg : Str → Option Value) (fa : Addr) : Prop :=
  ∃ (fd : FuncData) (cs : List (Addr × Addr)) (sp : Sp), (∀ p ∈ cs, ∃ y ∈ xs, PySem.W.tabIn K y = some p) ∧ (∀ p ∈ cs, K.lookup p.2 = none) ∧ (∀ (s : Shared) (u : Value), BindsTo s fd ⟨[u], []⟩ [(x, u)]) ∧
    (∀ (H : Hp) (a : Addr) (ns : List Int), ns.length ≤ n → (∀ p ∈ cs, H p.2 = some (.tbl #[])) → (∀ b qs, H b = some (.tbl qs) → b ∈ cs.map (·.2)) → SqL K H a (ns.map V.int) → sp [.ref a] H (fun v _ => v = .bl true) fun _ _ _ => False) ∧
    ∀ base : Heap, K.In base → base.Ns mainGlobals mg → (∀ p ∈ cs, TabB base mg p.1 p.2) → FnOkG l.prog w K mg base CX k fa fd [x] sp
theorem walk_ofTG {l : PySem.W.OpenLaw} {n k : Nat} {q : Program} {loose : List Str} {XP : (Str → Option Value) → Heap → Prop} {YP : World → Heap → Prop} {d : DefRec} {K : Params → PySem.W.Frag} {CX : World → CXT} {x : Str} {xs : List Str}
    (hn : l.most = some n) (hn2 : n ≤ sizeLine) (hdf : d.params.defaults = []) (hr : Room k callerA) (hrec : (xs.all fun y => (recsOf q).any fun e => e.name == y) = true) (hY : ∀ (w : World) (h : Heap), YP w h → (K w.params).In h)
    (F : ∀ (w : World) (mg : Str → Option Value) (fa : Addr) (h : Heap), (K w.params).In h → h.Ns mainGlobals mg → mg d.name = some (.ref fa) → LawAtT l w (K w.params) (CX w) k n x xs mg fa)
    (hCX : ∀ (w : World) (H : Hp) (s : Shared) (e : Value) (s' : Shared), CX w [] H s (fun _ _ _ => False) e s' → False) :
    PySem.W.WalkO q loose XP YP l.row.toRowW d [] (fun f vs => PySem.call f vs) := by
  refine Att.attach_callB hn hdf fun w s₀ s₁ mg mb fa o pm cd doc a vs ns G Y ho hd hcd hmg hobj hints hlen hbits hg => ?_
  have KX := hY w _ Y
  obtain ⟨fd, cs, sp, hcs, nT, hb, hsp, hF⟩ := F w mg fa _ KX G.T.g hmg
  have tabs : ∀ p ∈ cs, PySem.W.CodeHd s₁.heap p.1 p.2 ∧ s₁.heap.get? p.2 = some { cls := .none, data := .fields #[] } := fun p hp => by
    obtain ⟨y, hy, ht⟩ := hcs p hp
    obtain ⟨dL, hm, he⟩ := List.any_eq_true.mp (List.all_eq_true.mp hrec y hy)
    obtain ⟨dF, hF⟩ : ∃ dF, (recsOf q).find? (fun e => e.name == y) = some dF := Option.isSome_iff_exists.mp (List.find?_isSome.mpr ⟨dL, hm, he⟩)
    exact PySem.W.tab_of G.T KX hF ht
  exact law_callTG KX G.T.g G.T.b G.T.builtins G.T.nolimit hg (fun p hp => (tabs p hp).2) nT (fun p hp => (tabs p hp).1) G.T.bmain hobj hints (Nat.le_trans hlen hn2) hr hF hb (fun H hH hN hS => hsp H a ns hlen hH hN hS) fun H e s' => hCX w H s₁ e s'
end L2
namespace Fp
open PySem PySem.Spec PyProof.Rows L2
theorem u65 {k : Nat} {A : Around} (r : Room k A) : A.units + 65 < cLine := by have := r.un; omega
/-! ### rules that may stand within a comprehension -/
theorem op_eqDK {X : Cx} {K : PySem.W.Frag} (hu : X.A.units + 64 < cLine) (e : X.K = K := by rfl) : OpR X (compareOp .Eq) (rEqD K) := by subst e; exact op_eqD hu
theorem op_neDK {X : Cx} {K : PySem.W.Frag} (hu : X.A.units + 64 < cLine) (e : X.K = K := by rfl) : OpR X (compareOp .NotEq) (rNeD K) := by subst e; exact op_neD hu
theorem ix_tupK {X : Cx} {K : PySem.W.Frag} (e : X.K = K := by rfl) : IxR X (rIxT K) := by subst e; exact ix_tup
theorem ix_listK {X : Cx} {K : PySem.W.Frag} (e : X.K = K := by rfl) : IxR X (rIxL K) := by subst e; exact ix_list
def rRepr (K : PySem.W.Frag) : List V → Hp → VK → Prop := fun xs H Q => ∃ (x : V) (d : PyData) (k n : Nat), xs = [x] ∧ Dp K H x d ∧ Sm k n d ∧ k ≤ 64 ∧ n ≤ 1000000 ∧ Q (.str d.shown) H
theorem call_reprK {X : Cx} {K : PySem.W.Frag} (hgu : X.A.guards = some []) (hu : X.A.units + 66 < cLine) (e : X.K = K := by rfl) : CallR X (.builtin "repr") (rRepr K) := by subst e; exact call_reprA hgu hu
theorem pe_fldK {X : Cx} {K : PySem.W.Frag} {o : Expr} {f : Str} {pos : Pos} {to : TE} (h : PE X (.Attribute o f pos) (tFld X.K to f)) (e : X.K = K := by rfl) : PE X (.Attribute o f pos) (tFld K to f) := by subst e; exact h
/-! ### what is told, as data -/
def TOk (H : Hp) : Told → Prop
  | .level i => 0 ≤ i ∧ i ≤ 2
  | .look l => l.length ≤ 5 ∧ ∀ x, some x ∈ l → 0 ≤ x ∧ x ≤ 2
  | .wait => True
  | .word v => Good H v
theorem TOk.mono {H H' : Hp} (g : TK H H') {x : Told} (h : TOk H x) : TOk H' x := by
  cases x with
  | level i => exact h
  | look l => exact h
  | wait => exact h
  | word v => exact Good.mono g h
theorem DS.WF.small {s : DS} (W : s.WF) : s.lev.length ≤ 5 ∧ ∀ x, some x ∈ s.lev → 0 ≤ x ∧ x ≤ 2 := ⟨W.n5, fun x h => by
  obtain ⟨q, hq⟩ := mem_getD.mp h
  rcases W.vals q x hq with rfl | rfl | rfl <;> decide⟩
theorem DoorAt.tok {C : Addr} {H : Hp} {d : Addr} {s : DS} {p : Nat} (h : DoorAt C H d s) : TOk H (s.told p) := by
  obtain ⟨dx, a, b, c, e, f, cv, hv, sv, dv, D⟩ := h
  have W := D.wf
  have h4 := DS.stg_lt s p
  rcases (show s.stg p = 0 ∨ s.stg p = 1 ∨ s.stg p = 2 ∨ s.stg p = 3 by omega) with z | z | z | z
  · rw [DS.told0 z]; exact ⟨by decide, by decide⟩
  · rw [DS.told1 z]; exact W.small
  · rw [DS.told2 z]; rcases DS.wr02 s p with ⟨e, _⟩ | ⟨e, _⟩ <;> rw [e] <;> exact ⟨by decide, by decide⟩
  · rw [DS.told3 z]; split
    · trivial
    · obtain ⟨v, hv⟩ := DS.two_came W (DS.ask_two W z)
      rw [hv]
      exact D.good _ _ hv
def lvD : Lv → PyData
  | none => .none
  | some i => .int i
theorem lv_dp {K : PySem.W.Frag} {H : Hp} : ∀ l : List Lv, DpAll K H (l.map lvV) (l.map lvD)
  | [] => .nil
  | none :: l => .cons .non (lv_dp l)
  | some i :: l => .cons (.int i) (lv_dp l)
theorem lv_sms {l : List Lv} (h : ∀ x, some x ∈ l → 0 ≤ x ∧ x ≤ 2) (hl : l.length ≤ 5) : Sms 1 5 (l.map lvD) := by
  refine (Sms.all (k := 1) (n := 0) fun d hd => ?_).mono (Nat.le_refl _) (by rw [List.length_map]; omega)
  obtain ⟨x, hx, rfl⟩ := List.mem_map.mp hd
  cases x with
  | none => exact Sm.non
  | some i => have := h i hx; exact Sm.int (by omega) (by omega)
theorem Good.dp {K : PySem.W.Frag} {H : Hp} {v : V} (h : Good H v) : ∃ d, Dp K H v d ∧ Sm 4 39 d := by
  obtain ⟨d, a, b⟩ := h
  exact ⟨d, a.dp, b.sm⟩
theorem sm_word (z : Str) (h : (decide (z.cps.size ≤ 10) && z.cps.toList.all (fun c => decide (c < 16 ^ 8)) && PyData.strOk z) = true) : Sm 1 10 (.str z) := by
  rw [Bool.and_eq_true, Bool.and_eq_true] at h
  exact Sm.str (of_decide_eq_true h.1.1) h.1.2 h.2
/-- what is told, as one data, wherever it stands -/
theorem told_data {H : Hp} {x : Told} (o : TOk H x) : ∃ d, Sm 6 100 d ∧ ∀ (K : PySem.W.Frag) (H' : Hp) (t : Addr), TK H H' → ToldAt H' t x → Dp K H' (.ref t) d := by
  cases x with
  | level i =>
    refine ⟨.tuple [.str "level", .int i], ?_, fun K H' t _ h => .tup (.of h) (.cons (.str _) (.cons (.int _) .nil))⟩
    exact (Sms.tup (.cons (sm_word _ (by decide +kernel)) (.cons ((Sm.int (i := i) (by have := o.1; omega) (by have := o.2; omega)).mono (Nat.le_refl 1) (Nat.le_refl 0)) (Sms.nil (n := 0))))).mono (by decide) (by decide)
  | look l =>
    refine ⟨.tuple [.str "look", .tuple (l.map lvD)], ?_, fun K H' t _ h => by obtain ⟨q, a, b⟩ := h; exact .tup (.of a) (.cons (.str _) (.cons (.tup b.sq (lv_dp l)) .nil))⟩
    exact (Sms.tup (.cons ((sm_word "look" (by decide +kernel)).mono (by decide : 1 ≤ 2) (Nat.le_refl 10)) (.cons (lv_sms o.2 o.1).tup (Sms.nil (n := 0))))).mono (by decide) (by decide)
  | wait =>
    refine ⟨.tuple [.str "wait"], ?_, fun K H' t _ h => .tup (.of h) (.cons (.str _) .nil)⟩
    exact (Sms.tup (.cons (sm_word "wait" (by decide +kernel)) (Sms.nil (n := 0)))).mono (by decide) (by decide)
  | word v =>
    obtain ⟨d, hd, ho⟩ := o
    refine ⟨.tuple [.str "word", d], ?_, fun K H' t g h => .tup (.of h) (.cons (.str _) (.cons (hd.mono g).dp .nil))⟩
    exact (Sms.tup (.cons ((sm_word "word" (by decide +kernel)).mono (by decide : 1 ≤ 4) (Nat.le_refl 10)) (.cons ho.sm (Sms.nil (n := 0))))).mono (by decide) (by decide)
/-- two tellings of one thing are one in data -/
theorem told_two {K : PySem.W.Frag} {H : Hp} {t1 t2 : Addr} {x : Told} (h1 : ToldAt H t1 x) (h2 : ToldAt H t2 x) (o : TOk H x) : ∃ d, Dp K H (.ref t1) d ∧ Dp K H (.ref t2) d ∧ Sm 6 100 d := by
  cases x with
  | level i =>
    refine ⟨.tuple [.str "level", .int i], .tup (.of h1) (.cons (.str _) (.cons (.int _) .nil)), .tup (.of h2) (.cons (.str _) (.cons (.int _) .nil)), ?_⟩
    exact (Sms.tup (.cons (sm_word _ (by decide +kernel)) (.cons ((Sm.int (i := i) (by have := o.1; omega) (by have := o.2; omega)).mono (Nat.le_refl 1) (Nat.le_refl 0)) (Sms.nil (n := 0))))).mono (by decide) (by decide)
  | look l =>
    obtain ⟨q1, a1, b1⟩ := h1
    obtain ⟨q2, a2, b2⟩ := h2
    refine ⟨.tuple [.str "look", .tuple (l.map lvD)], .tup (.of a1) (.cons (.str _) (.cons (.tup b1.sq (lv_dp l)) .nil)), .tup (.of a2) (.cons (.str _) (.cons (.tup b2.sq (lv_dp l)) .nil)), ?_⟩
    exact (Sms.tup (.cons ((sm_word "look" (by decide +kernel)).mono (by decide : 1 ≤ 2) (Nat.le_refl 10)) (.cons (lv_sms o.2 o.1).tup (Sms.nil (n := 0))))).mono (by decide) (by decide)
  | wait =>
    refine ⟨.tuple [.str "wait"], .tup (.of h1) (.cons (.str _) .nil), .tup (.of h2) (.cons (.str _) .nil), ?_⟩
    exact (Sms.tup (.cons (sm_word "wait" (by decide +kernel)) (Sms.nil (n := 0)))).mono (by decide) (by decide)
  | word v =>
    obtain ⟨d, hd, sm⟩ := Good.dp (K := K) o
    refine ⟨.tuple [.str "word", d], .tup (.of h1) (.cons (.str _) (.cons hd .nil)), .tup (.of h2) (.cons (.str _) (.cons hd .nil)), ?_⟩
    exact (Sms.tup (.cons ((sm_word "word" (by decide +kernel)).mono (by decide : 1 ≤ 4) (Nat.le_refl 10)) (.cons sm (Sms.nil (n := 0))))).mono (by decide) (by decide)
/-! ### lots of players -/
def natV (l : List Nat) : List V := l.map fun (p : Nat) => V.int (p : Int)
theorem natV_dp {K : PySem.W.Frag} {H : Hp} : ∀ l : List Nat, DpAll K H (natV l) (l.map fun (p : Nat) => PyData.int (p : Int))
  | [] => .nil
  | p :: l => .cons (.int _) (natV_dp l)
theorem natV_sm {l : List Nat} (h : ∀ p ∈ l, p ≤ 5) (hl : l.length ≤ 5) : Sm 2 5 (.tuple (l.map fun (p : Nat) => PyData.int (p : Int))) := by
  refine (Sms.all (k := 1) (n := 0) fun d hd => ?_).tup.mono (Nat.le_refl _) (by rw [List.length_map]; omega)
  obtain ⟨x, hx, rfl⟩ := List.mem_map.mp hd
  have := h x hx
  exact Sm.int (by omega) (by omega)
theorem held_small {s : DS} (W : s.WF) : (∀ p ∈ s.held, p ≤ 5) ∧ s.held.length ≤ 5 := by
  have h5 := W.n5
  refine ⟨fun p hp => ?_, ?_⟩
  · have := List.mem_range.mp (List.mem_filter.mp hp).1
    omega
  · have := List.length_filter_le (fun p => decide (s.lv p = some 1)) (List.range s.lev.length)
    rw [List.length_range] at this
    unfold DS.held
    omega
/-! ### a law's state: a door, an own door, a pot -/
theorem But.into {S T : List Addr} {H0 H H' : Hp} (a : But S H0 H) (b : But T H H') (h : ∀ x ∈ T, H0 x = none ∨ x ∈ S) : But S H0 H' := fun c o n e => b c o (fun m => by
  rcases h c m with z | z
  · rw [z] at e; cases e
  · exact n z) (a c o n e)
theorem But.free {pt d : Addr} {H H1 : Hp} (g : But [pt] H H1) (hp : H1 pt ≠ none) (h : H1 d = none) : H d = none := by
  cases e : H d with
  | none => rfl
  | some o =>
    have := g d o (by simp only [List.mem_singleton]; intro z; exact hp (z ▸ h)) e
    rw [h] at this; cases this
theorem PotAt.ne0 {H : Hp} {p : Addr} {n : Nat} (h : PotAt H p n) : H p ≠ none := by
  obtain ⟨xs, e⟩ := h.there
  rw [e]; simp
structure Sta (C : Addr) (H0 : Hp) (pt d o : Addr) (L : List Addr) (H : Hp) (s1 s2 : DS) (m : Nat) (q : Nat) : Prop where
  fr : But [pt] H0 H
  door : DoorAt C H d s1
  own : ∃ k, OwnAt H o L s2 k
  pot : PotAt H pt m
  p0 : H0 pt ≠ none
  d0 : H0 d = none
  L0 : ∀ x ∈ L, H0 x = none
  dl : s1.deeds.length ≤ q
theorem DoorAt.ins {C : Addr} {H : Hp} {d : Addr} {s : DS} (h : DoorAt C H d s) : ∃ dx fs, H d = some (.ins C dx fs) := by
  obtain ⟨dx, a, b, c, e, f, cv, hv, sv, dv, D⟩ := h
  exact ⟨_, _, D.obj⟩
theorem DoorAt.tk {C : Addr} {H H' : Hp} {d : Addr} {s : DS} (h : DoorAt C H d s) (g : But [d] H H') : TK H H' := TK.but g fun a ha z => by
  obtain ⟨dx, fs, e⟩ := h.ins
  rw [List.mem_singleton.mp ha, e] at z
  exact z
theorem PotAt.tk {H H' : Hp} {pt : Addr} {m : Nat} (h : PotAt H pt m) (g : But [pt] H H') : TK H H' := TK.but g fun a ha z => by
  obtain ⟨xs, e⟩ := h.there
  rw [List.mem_singleton.mp ha, e] at z
  exact z
theorem OwnAt.tk {H H' : Hp} {o : Addr} {L : List Addr} {s : DS} {k : Int} (h : OwnAt H o L s k) (g : But L H H') : TK H H' := TK.but g fun a ha z => by
  rcases h.kind a ha with ⟨xs, e⟩ | ⟨xs, e⟩ <;> rw [e] at z <;> exact z
theorem PotAt.but {H H' : Hp} {pt : Addr} {m : Nat} {S : List Addr} (h : PotAt H pt m) (g : But S H H') (n : pt ∉ S) : PotAt H' pt m := by
  obtain ⟨a, b, c, e, r⟩ := h
  exact ⟨a, b, c, g _ _ n e, r⟩
section
variable {C : Addr} {H0 H H' : Hp} {pt d o : Addr} {L : List Addr} {s1 s2 s' : DS} {m m' q q' : Nat}
theorem Sta.ptL (S : Sta C H0 pt d o L H s1 s2 m q) : pt ∉ L := fun z => S.p0 (S.L0 _ z)
theorem Sta.dL (S : Sta C H0 pt d o L H s1 s2 m q) : d ∉ L := fun z => by
  obtain ⟨k, O⟩ := S.own
  obtain ⟨dx, fs, e⟩ := S.door.ins
  rcases O.kind d z with ⟨xs, e2⟩ | ⟨xs, e2⟩ <;> rw [e] at e2 <;> cases e2
theorem Sta.ptd (S : Sta C H0 pt d o L H s1 s2 m q) : pt ≠ d := fun z => S.p0 (by rw [z]; exact S.d0)
theorem Sta.same (S : Sta C H0 pt d o L H s1 s2 m q) (g : Same H H') : Sta C H0 pt d o L H' s1 s2 m q :=
  ⟨S.fr.trans (.of g), S.door.same g, let ⟨k, O⟩ := S.own; ⟨k, O.same g⟩, S.pot.but (.of (S := []) g) (by simp), S.p0, S.d0, S.L0, S.dl⟩
theorem Sta.take (S : Sta C H0 pt d o L H s1 s2 m q) (g : But [pt] H H') (hp : PotAt H' pt m') : Sta C H0 pt d o L H' s1 s2 m' q :=
  ⟨S.fr.trans g, S.door.but g fun x hx => by rw [List.mem_singleton.mp hx]; exact .inl S.pot.there, let ⟨k, O⟩ := S.own; ⟨k, O.but g (fun x hx => by rw [List.mem_singleton.mp hx]; exact S.ptL) (S.pot.tk g)⟩, hp, S.p0, S.d0, S.L0, S.dl⟩
theorem Sta.stepD (S : Sta C H0 pt d o L H s1 s2 m q) (g : But [d] H H') (hd : DoorAt C H' d s') (hl : s'.deeds.length ≤ q') : Sta C H0 pt d o L H' s' s2 m q' :=
  ⟨S.fr.into g fun x hx => by rw [List.mem_singleton.mp hx]; exact .inl S.d0, hd, let ⟨k, O⟩ := S.own; ⟨k, O.but g (fun x hx => by rw [List.mem_singleton.mp hx]; exact S.dL) (S.door.tk g)⟩, S.pot.but g (by simpa using S.ptd), S.p0, S.d0, S.L0, hl⟩
theorem Sta.stepO (S : Sta C H0 pt d o L H s1 s2 m q) (g : But L H H') {k : Int} (ho : OwnAt H' o L s' k) : Sta C H0 pt d o L H' s1 s' m q :=
  ⟨S.fr.into g fun x hx => .inl (S.L0 x hx), let ⟨k, O⟩ := S.own; S.door.but g O.kind, ⟨k, ho⟩, S.pot.but g S.ptL, S.p0, S.d0, S.L0, S.dl⟩
end
theorem deeds_step {s : DS} {p : Nat} : (s.step p).deeds.length = s.deeds.length + 1 := by
  unfold DS.step
  split <;> (try split) <;> simp
theorem deeds_come {s : DS} {p : Nat} {v : V} : (s.come p v).deeds.length = s.deeds.length + 1 := by simp [DS.come]
theorem DoorAt.ob {C : Addr} {H : Hp} {d : Addr} {s : DS} (h : DoorAt C H d s) : ∃ dx fs, H d = some (.ins C dx fs) ∧ fs.lookup ("step" : Str) = none ∧ fs.lookup ("come" : Str) = none ∧ fs.lookup ("next" : Str) = none ∧ fs.lookup ("copy" : Str) = none := by
  obtain ⟨dx, a, b, c, e, f, cv, hv, sv, dv, D⟩ := h
  exact ⟨_, _, D.obj, no_step, no_come, no_next, no_copy⟩
theorem DS.lv_other {s : DS} {p q : Nat} (W : s.WF) (hc : s.cm p ≠ none) (h : p ≠ q) : (s.step p).lv q = s.lv q := by
  have hp := DS.lt_of_cm W hc
  have h4 := DS.stg_lt s p
  rcases (show s.stg p = 0 ∨ s.stg p = 1 ∨ s.stg p = 2 ∨ s.stg p = 3 by omega) with e | e | e | e
  · rw [DS.lv_step0 e hp, if_neg h]
  · rw [DS.lv_step1 e]
  · rw [DS.lv_step2 e hp, if_neg h]
  · rw [DS.lv_step3 e]
theorem natV_rep (n : Nat) (l : List Nat) : (List.replicate n (natV l)).flatten = natV (List.replicate n l).flatten := by
  unfold natV
  rw [List.map_flatten, List.map_replicate]
theorem count_rep (n p : Nat) (l : List Nat) (h : p ∈ l) : n ≤ (List.replicate n l).flatten.count p := by
  induction n with
  | zero => omega
  | succ n ih =>
    rw [List.replicate_succ, List.flatten_cons, List.count_append]
    have := List.count_pos_iff.mpr h
    omega
theorem mem_rep {n p : Nat} {l : List Nat} (h : p ∈ (List.replicate n l).flatten) : p ∈ l := by
  obtain ⟨x, hx, hp⟩ := List.mem_flatten.mp h
  rw [(List.mem_replicate.mp hx).2] at hp
  exact hp
theorem natV_get {l : List Nat} {i : Nat} {x : V} (h : (natV l)[i]? = some x) : ∃ p, l[i]? = some p ∧ x = .int (p : Int) := by
  unfold natV at h
  rw [List.getElem?_map] at h
  cases e : l[i]? with
  | none => rw [e] at h; cases h
  | some p => rw [e] at h; cases h; exact ⟨p, rfl, rfl⟩
theorem take_snoc {l : List Nat} {i p : Nat} (h : l[i]? = some p) : l.take (i + 1) = l.take i ++ [p] := by
  rw [List.take_add_one, h]; rfl
theorem rep_len (n : Nat) (l : List Nat) : (List.replicate n l).flatten.length = n * l.length := by simp
theorem two_str {a b : Str} (h : a = b) : (!decide (V.str a = V.str b)) = false := by rw [h]; simp
theorem Fst {H : Hp} {t : Addr} {x : Told} (h : ToldAt H t x) : ∃ ys, H t = some (.tup (.str (match x with | .level _ => "level" | .look _ => "look" | .wait => "wait" | .word _ => "word") :: ys)) := by
  cases x with
  | level i => exact ⟨_, h⟩
  | look l => obtain ⟨q, h, _⟩ := h; exact ⟨_, h⟩
  | wait => exact ⟨_, h⟩
  | word v => exact ⟨_, h⟩
theorem stg_ge {s : DS} {p q : Nat} {l : List Nat} (W : s.WF) (hc : s.cm p ≠ none) (h : min 3 (l.count q) ≤ s.stg q) : min 3 ((l ++ [p]).count q) ≤ (s.step p).stg q := by
  rw [DS.stg_step W hc, List.count_append, List.count_singleton]
  by_cases e : p = q
  · subst e; simp; omega
  · rw [if_neg e]; simp [e]; omega
/-- a door and an own door are made -/
theorem Sta.make {C : Addr} {H H1 H2 H3 : Hp} {pt d dx o : Addr} {L : List Addr} {N m : Nat} (hP : PotAt H pt 0) (g1 : But [pt] H H1) (hP1 : PotAt H1 pt m) (hd : H1 d = none) (hdx : H1 dx = none) (hne : dx ≠ d)
    (b : But [d] (upd (upd H1 dx (.own d)) d (.ins C dx [])) H2) (D : DoorAt C H2 d (DS.new N)) (g3 : Same H2 H3) (hL : ∀ x ∈ L, H2 x = none) (O : OwnAt H3 o L (DS.new N) 0) : Sta C H pt d o L H3 (DS.new N) (DS.new N) m 0 := by
  have g2 : Same H1 (upd (upd H1 dx (.own d)) d (.ins C dx [])) := (same_new hdx _).trans (same_new (by rw [upd_ne (Ne.symm hne)]; exact hd) _)
  have pd : pt ≠ d := fun z => hP1.ne0 (by rw [z]; exact hd)
  have fr2 : But [pt] H H2 := (g1.trans (.of g2)).into b fun x hx => by rw [List.mem_singleton.mp hx]; exact .inl (g1.free hP1.ne0 hd)
  have hP2 : PotAt H2 pt m := (hP1.but (.of (S := []) g2) (by simp)).but b (by simpa using pd)
  exact ⟨fr2.trans (.of g3), D.same g3, ⟨_, O⟩, hP2.but (.of (S := []) g3) (by simp), hP.ne0, g1.free hP1.ne0 hd, fun x hx => fr2.free hP2.ne0 (hL x hx), Nat.le_refl _⟩
theorem filter_one : ∀ N, N ≤ 5 → ∀ st, st < N → (List.range N).filter (fun p => decide (p = st)) = [st] := by decide
theorem eqv_self_nat (l : List Nat) : PyData.eqv (.tuple (l.map fun (p : Nat) => PyData.int (p : Int))) (.tuple (l.map fun (p : Nat) => PyData.int (p : Int))) = true := by
  have h : ∀ l : List Nat, PyData.eqvAll (l.map fun (p : Nat) => PyData.int (p : Int)) (l.map fun (p : Nat) => PyData.int (p : Int)) = true := fun l => by
    induction l with
    | nil => simp [PyData.eqvAll]
    | cons a r ih => simp [PyData.eqvAll, PyData.eqv, ih]
  simp only [PyData.eqv]
  exact h l
theorem held_none {s : DS} (h : ∀ p, p < s.lev.length → s.lv p ≠ some 1) : s.held = [] := by
  unfold DS.held
  rw [List.filter_eq_nil_iff]
  intro p hp
  simpa using h p (List.mem_range.mp hp)
theorem held_only {s : DS} (W : s.WF) {st : Nat} (hst : st < s.lev.length) (h1 : s.lv st = some 1) (h : ∀ p, p < s.lev.length → p ≠ st → s.lv p ≠ some 1) : s.held = [st] := by
  unfold DS.held
  rw [← filter_one _ W.n5 st hst]
  refine List.filter_congr fun p hp => ?_
  rw [decide_eq_decide]
  constructor
  · intro z
    by_cases e : p = st
    · exact e
    · exact absurd z (h p (List.mem_range.mp hp) e)
  · intro z; rw [z]; exact h1
theorem lv_of3 {s : DS} {p : Nat} (h : s.stg p = 3) : s.lv p ≠ some 1 := by
  obtain ⟨x, hx, h1⟩ := DS.stg3.mp h
  rw [hx]; intro z; injection z with z; exact h1 z
theorem Sta.put {C : Addr} {H0 H : Hp} {pt d o D : Addr} {L : List Addr} {s1 s2 : DS} {m q : Nat} {xs ys : List V} (S : Sta C H0 pt d o L H s1 s2 m q) (h : H D = some (.lst xs)) (n0 : H0 D = none) (nL : D ∉ L) : Sta C H0 pt d o L (upd H D (.lst ys)) s1 s2 m q := by
  have g : But [D] H (upd H D (.lst ys)) := (But.refl _ _).put (by simp)
  have np : pt ≠ D := fun z => S.p0 (by rw [z]; exact n0)
  have tk : TK H (upd H D (.lst ys)) := .put h fun z => z
  exact ⟨S.fr.into g fun x hx => by rw [List.mem_singleton.mp hx]; exact .inl n0, S.door.but g fun x hx => by rw [List.mem_singleton.mp hx]; exact .inl ⟨_, h⟩,
    let ⟨k, O⟩ := S.own; ⟨k, O.but g (fun x hx => by rw [List.mem_singleton.mp hx]; exact nL) tk⟩, S.pot.but g (by simpa using np), S.p0, S.d0, S.L0, S.dl⟩
/-- an address that is new is none of the state's -/
theorem Sta.new {C : Addr} {H0 H : Hp} {pt d o D : Addr} {L : List Addr} {s1 s2 : DS} {m q : Nat} (S : Sta C H0 pt d o L H s1 s2 m q) (h : H D = none) : H0 D = none ∧ D ∉ L ∧ D ≠ d ∧ D ≠ pt := by
  obtain ⟨k, O⟩ := S.own
  refine ⟨S.fr.free S.pot.ne0 h, fun z => ?_, fun z => ?_, fun z => S.pot.ne0 (by rw [← z]; exact h)⟩
  · rcases O.kind D z with ⟨ys, e⟩ | ⟨ys, e⟩ <;> rw [e] at h <;> cases h
  · obtain ⟨dx', fs, e⟩ := S.door.ins; rw [z, e] at h; cases h
theorem Sta.up {C : Addr} {H0 H : Hp} {pt d o : Addr} {L : List Addr} {s1 s2 : DS} {m q m' q' : Nat} (S : Sta C H0 pt d o L H s1 s2 m q) (hm : m ≤ m') (hq : q ≤ q') : Sta C H0 pt d o L H s1 s2 m' q' :=
  ⟨S.fr, S.door, S.own, S.pot.mono hm, S.p0, S.d0, S.L0, Nat.le_trans S.dl hq⟩
/-! ### one word -/
def DS.hd (s : DS) (p : Nat) : Option V := s.heard.getD p none
def DS.Closed (s : DS) : Prop := (∃ q, s.lv q = some 2) ∧ ∀ p, s.stg p = 2 → s.saw p = true
section
variable {s : DS} {p : Nat} {v : V}
theorem DS.hd_new (n p : Nat) : (DS.new n).hd p = none := DS.rep_none n p
theorem DS.hd_come (q : Nat) : (s.come p v).hd q = s.hd q := rfl
theorem DS.hd_step (W : s.WF) (hc : s.cm p ≠ none) (q : Nat) : (s.step p).hd q = if p = q ∧ s.stg p = 3 ∧ some 1 ∉ s.lev then s.cm s.two else s.hd q := by
  have hp := DS.lt_of_cm W hc
  have h4 := DS.stg_lt s p
  rcases (show s.stg p = 0 ∨ s.stg p = 1 ∨ s.stg p = 2 ∨ s.stg p = 3 by omega) with e | e | e | e
  · rw [if_neg (by omega)]; unfold DS.hd; rw [DS.step0 e]
  · rw [if_neg (by omega)]; unfold DS.hd; rw [DS.step1 e]
  · rw [if_neg (by omega)]; unfold DS.hd; rw [DS.step2 e]
  · unfold DS.hd
    rw [DS.step3 e]
    by_cases z : some 1 ∈ s.lev
    · rw [if_pos z, if_neg (by intro h; exact h.2.2 z)]
    · rw [if_neg z]
      show (s.heard.set p (s.cm s.two)).getD q none = _
      rw [getD_set]
      by_cases h : p = q
      · rw [if_pos ⟨h, by rw [W.lh]; exact hp⟩, if_pos ⟨h, e, z⟩]
      · rw [if_neg (fun h' => h h'.1), if_neg (fun h' => h h'.1)]
theorem closed_of (h : ∃ q, s.lv q = some 2) (n : some 1 ∉ s.lev) : s.Closed := ⟨h, fun p hp => absurd (mem_getD.mpr ⟨p, (DS.stg2.mp hp).1⟩) n⟩
theorem DS.Closed.step (c : s.Closed) (W : s.WF) (hc : s.cm p ≠ none) : (s.step p).Closed ∧ (s.step p).two = s.two := by
  have hp := DS.lt_of_cm W hc
  have hps : p < s.seen.length := by rw [W.ls]; exact hp
  have h4 := DS.stg_lt s p
  have k2 := DS.has2_step W hc c.1
  rcases (show s.stg p = 0 ∨ s.stg p = 1 ∨ s.stg p = 2 ∨ s.stg p = 3 by omega) with e | e | e | e
  · refine ⟨⟨k2, fun q hq => ?_⟩, DS.two_same DS.len_step fun q => ?_⟩
    · rw [DS.stg_step W hc] at hq
      have hne : p ≠ q := by intro z; rw [if_pos z, e] at hq; cases hq
      rw [if_neg hne] at hq
      unfold DS.saw; rw [DS.sn_stepN (by omega)]; exact c.2 q hq
    · rw [DS.lv_step0 e hp]; split
      · rename_i z; subst z; rw [DS.stg0.mp e]; simp
      · rfl
  · refine ⟨⟨k2, fun q hq => ?_⟩, DS.two_same DS.len_step fun q => by rw [DS.lv_step1 e]⟩
    rw [DS.stg_step W hc] at hq
    unfold DS.saw; rw [DS.sn_step1 e hps]
    by_cases z : p = q
    · rw [if_pos z]; exact decide_eq_true (mem_getD.mpr c.1)
    · rw [if_neg z] at hq ⊢; exact c.2 q hq
  · have sw := c.2 p e
    have ew : s.wr p = 0 := by unfold DS.wr; rw [if_pos sw]
    refine ⟨⟨k2, fun q hq => ?_⟩, DS.two_same DS.len_step fun q => ?_⟩
    · rw [DS.stg_step W hc] at hq
      have hne : p ≠ q := by intro z; rw [if_pos z, e] at hq; cases hq
      rw [if_neg hne] at hq
      unfold DS.saw; rw [DS.sn_stepN (by omega)]; exact c.2 q hq
    · rw [DS.lv_step2 e hp]; split
      · rename_i z; subst z; rw [ew, (DS.stg2.mp e).1]; simp
      · rfl
  · refine ⟨⟨k2, fun q hq => ?_⟩, DS.two_same DS.len_step fun q => by rw [DS.lv_step3 e]⟩
    rw [DS.stg_step W hc] at hq
    have hne : p ≠ q := by intro z; rw [if_pos z, e] at hq; cases hq
    rw [if_neg hne] at hq
    unfold DS.saw; rw [DS.sn_stepN (by omega)]; exact c.2 q hq
theorem DS.Closed.come (c : s.Closed) : (s.come p v).Closed ∧ (s.come p v).two = s.two := ⟨c, rfl⟩
theorem stg_out (W : s.WF) (h : s.cm p = none) : s.stg p = 0 := by
  refine DS.stg0.mpr ?_
  cases e : s.lv p with
  | none => rfl
  | some x => exact absurd h (W.cmv p (by rw [e]; simp))
end
/-! ### lists of players -/
def unV : V → Nat
  | .int i => i.toNat
  | _ => 0
theorem natV_perm {ys : List V} {R : List Nat} (h : ys.Perm (natV R)) : ∃ Y : List Nat, ys = natV Y ∧ Y.Perm R := by
  refine ⟨ys.map unV, ?_, ?_⟩
  · unfold natV
    rw [List.map_map]
    conv => lhs; rw [← List.map_id ys]
    refine List.map_congr_left fun x hx => ?_
    have := h.mem_iff.mp hx
    unfold natV at this
    obtain ⟨p, _, rfl⟩ := List.mem_map.mp this
    show V.int p = V.int ((unV (V.int p) : Nat) : Int)
    unfold unV
    simp
  · have := h.map unV
    refine this.trans ?_
    have e : (natV R).map unV = R := by
      unfold natV
      rw [List.map_map]
      conv => rhs; rw [← List.map_id R]
      refine List.map_congr_left fun x _ => ?_
      show unV (V.int x) = x
      unfold unV
      simp
    rw [e]
/-! ### a door and a pot -/
structure Dn (C : Addr) (H : Hp) (pt d : Addr) (s : DS) (m q : Nat) : Prop where
  door : DoorAt C H d s
  pot : PotAt H pt m
  dl : s.deeds.length ≤ q
section
variable {C : Addr} {H H' : Hp} {pt d D : Addr} {s s' : DS} {m m' q q' : Nat}
theorem Dn.ptd (S : Dn C H pt d s m q) : pt ≠ d := fun z => by
  obtain ⟨dx, fs, e⟩ := S.door.ins
  obtain ⟨xs, e2⟩ := S.pot.there
  rw [z, e] at e2; cases e2
theorem Dn.same (S : Dn C H pt d s m q) (g : Same H H') : Dn C H' pt d s m q := ⟨S.door.same g, S.pot.but (.of (S := []) g) (by simp), S.dl⟩
theorem Dn.take (S : Dn C H pt d s m q) (g : But [pt] H H') (hp : PotAt H' pt m') : Dn C H' pt d s m' q := ⟨S.door.but g fun x hx => by rw [List.mem_singleton.mp hx]; exact .inl S.pot.there, hp, S.dl⟩
theorem Dn.stepD (S : Dn C H pt d s m q) (g : But [d] H H') (hd : DoorAt C H' d s') (hl : s'.deeds.length ≤ q') : Dn C H' pt d s' m q' := ⟨hd, S.pot.but g (by simpa using S.ptd), hl⟩
theorem Dn.put {xs ys : List V} (S : Dn C H pt d s m q) (h : H D = some (.lst xs)) (n : D ≠ pt) : Dn C (upd H D (.lst ys)) pt d s m q := by
  have g : But [D] H (upd H D (.lst ys)) := (But.refl _ _).put (by simp)
  exact ⟨S.door.but g fun x hx => by rw [List.mem_singleton.mp hx]; exact .inl ⟨_, h⟩, S.pot.but g (by simpa using n.symm), S.dl⟩
theorem Dn.new (S : Dn C H pt d s m q) (h : H D = none) : D ≠ d ∧ D ≠ pt := ⟨fun z => (by obtain ⟨dx', fs, e⟩ := S.door.ins; rw [z, e] at h; cases h), fun z => S.pot.ne0 (by rw [← z]; exact h)⟩
theorem Dn.up (S : Dn C H pt d s m q) (hm : m ≤ m') (hq : q ≤ q') : Dn C H pt d s m' q' := ⟨S.door, S.pot.mono hm, Nat.le_trans S.dl hq⟩
end
/-- how often a place was asked from lap 8 on -/
def laps (e j i : Nat) : Nat := ((List.range i).filter fun l => decide (8 ≤ l ∧ l % e = j)).length
theorem laps_succ (e j i : Nat) : laps e j (i + 1) = laps e j i + if 8 ≤ i ∧ i % e = j then 1 else 0 := by
  unfold laps
  rw [List.range_succ, List.filter_append, List.length_append]
  congr 1
  by_cases h : 8 ≤ i ∧ i % e = j <;> simp [h]
theorem laps_20 : ∀ e, e ≤ 4 → ∀ j, j < e → 3 ≤ laps e j 20 := by decide
theorem word_data {dv : PyData} (ho : VOk 3 dv) : Sm 5 60 (.tuple [dv]) := (Sms.tup (.cons ho.sm (Sms.nil (n := 0)))).mono (by decide) (by decide)
theorem word_dp {K : PySem.W.Frag} {H0 H : Hp} {v : V} {dv : PyData} {t : Addr} (hv : VAt H0 v dv) (g : TK H0 H) (ht : H t = some (.tup [v])) : Dp K H (.ref t) (.tuple [dv]) := .tup (.of ht) (.cons (hv.mono g).dp .nil)
theorem sm_level {i : Int} (h0 : 0 ≤ i) (h2 : i ≤ 2) : Sm 6 100 (.tuple [.str "level", .int i]) := (Sms.tup (.cons (sm_word _ (by decide +kernel)) (.cons ((Sm.int (i := i) (by omega) (by omega)).mono (Nat.le_refl 1) (Nat.le_refl 0)) (Sms.nil (n := 0))))).mono (by decide) (by decide)
theorem sm_wait : Sm 6 100 (.tuple [.str "wait"]) := (Sms.tup (.cons (sm_word "wait" (by decide +kernel)) (Sms.nil (n := 0)))).mono (by decide) (by decide)
theorem sm_wordD {dv : PyData} (ho : VOk 3 dv) : Sm 6 100 (.tuple [.str "word", dv]) := (Sms.tup (.cons ((sm_word "word" (by decide +kernel)).mono (by decide : 1 ≤ 4) (Nat.le_refl 10)) (.cons ho.sm (Sms.nil (n := 0))))).mono (by decide) (by decide)
theorem DS.Closed.win {s : DS} (c : s.Closed) {w : Nat} (h : w = s.two ∨ (s.lv w = some 1 ∧ s.won w = true)) : w = s.two := by
  rcases h with h | ⟨h1, h2⟩
  · exact h
  · exfalso
    unfold DS.won at h2
    cases e : s.sn w with
    | none => rw [e] at h2; cases h2
    | some l =>
      rw [e] at h2
      have h2 : (!decide (some 2 ∈ l)) = true := h2
      have := c.2 w (DS.stg2.mpr ⟨h1, by rw [e]; simp⟩)
      unfold DS.saw at this
      rw [e] at this
      simp only [Option.getD_some] at this
      rw [this] at h2; cases h2
theorem DoorAt.heard {C : Addr} {H : Hp} {d : Addr} {s : DS} {K : PySem.W.Frag} (h : DoorAt C H d s) (hC : DC K C) : ∃ dx fs hv c, H d = some (.ins C dx fs) ∧ fs.lookup ("heard" : Str) = some (.ref c) ∧ TF H c hv ∧ Paired (One H) hv s.heard := by
  obtain ⟨dx, a, b, c, e, f, cv, hv, sv, dv, D⟩ := h
  exact ⟨dx, _, hv, c, D.obj, d_heard, D.heard, D.heardP⟩
theorem stg_keep {s : DS} {p q : Nat} (W : s.WF) (hc : s.cm p ≠ none) (h : p ≠ q) : (s.step p).stg q = s.stg q := by rw [DS.stg_step W hc, if_neg h]
theorem stg_self {s : DS} {p : Nat} (W : s.WF) (hc : s.cm p ≠ none) : (s.step p).stg p = min 3 (s.stg p + 1) := by rw [DS.stg_step W hc, if_pos rfl]
theorem hd_keep {s : DS} {p q : Nat} (W : s.WF) (hc : s.cm p ≠ none) (h : s.stg p ≠ 3 ∨ some 1 ∈ s.lev) : (s.step p).hd q = s.hd q := by
  rw [DS.hd_step W hc, if_neg]
  rintro ⟨_, a, b⟩
  rcases h with h | h
  · exact h a
  · exact b h
theorem hd_self {s : DS} {p : Nat} (W : s.WF) (hc : s.cm p ≠ none) (h : s.stg p = 3) (h1 : some 1 ∉ s.lev) : (s.step p).hd p = s.cm s.two := by rw [DS.hd_step W hc, if_pos ⟨rfl, h, h1⟩]
theorem lv_none_of {s : DS} {q : Nat} (h : s.stg q = 0 ∨ s.stg q = 3) : s.lv q ≠ some 1 := by
  rcases h with h | h
  · rw [DS.stg0.mp h]; simp
  · exact lv_of3 h
theorem told_lvl {H : Hp} {t : Addr} {i : Int} (h : ToldAt H t (.level i)) : H t = some (.tup [.str "level", .int i]) := h
theorem told_word {s : DS} {p : Nat} {v : V} (h : s.told p = .word v) : s.stg p = 3 ∧ some 1 ∉ s.lev ∧ v = (s.cm s.two).getD .non := by
  have h4 := DS.stg_lt s p
  rcases (show s.stg p = 0 ∨ s.stg p = 1 ∨ s.stg p = 2 ∨ s.stg p = 3 by omega) with z | z | z | z
  · rw [DS.told0 z] at h; cases h
  · rw [DS.told1 z] at h; cases h
  · rw [DS.told2 z] at h; cases h
  · rw [DS.told3 z] at h
    split at h
    · cases h
    · rename_i h1; injection h with h; exact ⟨z, h1, h.symm⟩
theorem cut_word (v : V) : cutV [V.str "word", v] (some 1) none = [v] := rfl
end Fp
/-! len of an object with an own __len__; data that stays, whatever lists change; C(k = v) -/
namespace Fp
open PySem PySem.Spec PyProof.Rows L2
structure LenC (P : Program) (w : World) (K : PySem.W.Frag) (mg : Str → Option Value) (base : Heap) (C : Addr) (n : Nat) (ps : List Str) (sp : Sp) : Prop where
  ex : ∃ (f : Addr) (fd : FuncData), PySem.W.findIn K (.ref C) "__len__" = some (some (.ref f)) ∧ PySem.W.isFn K (.ref f) = true ∧ Binds K fd ps [] ∧ FnOk P w K mg base CX0 n f fd ps sp
def rLenO (C : Addr) (sp : Sp) : List V → Hp → VK → Prop := fun xs H Q => ∃ (a dx : Addr) (fs : List (Str × V)), xs = [.ref a] ∧ H a = some (.ins C dx fs) ∧ sp [.ref a] H (fun v H' => ∃ n : Nat, v = .int n ∧ n < 2 ^ 62 ∧ Q (.int n) H') E0
section
variable {X : Cx} {C : Addr} {n : Nat} {ps : List Str} {sp : Sp}
theorem call_lenO (M : LenC X.prog X.w X.K X.mg X.base C n ps sp) (hr : Room (n + 1) X.A) : CallR X (.builtin "len") (rLenO C sp) := by
  intro pins s σ H xs us Q I r h
  obtain ⟨a, dx, fs, rfl, ha, q⟩ := h
  rw [Vals.ref1 r]
  obtain ⟨f, fd, hs, hf, hb, F⟩ := M.ex
  obtain ⟨mA, J, _⟩ := ins_get I.hok ha
  obtain ⟨od, J, _⟩ := J.look
  obtain ⟨m, hF⟩ := I.fr
  refine PySem.W.len_K hF I.ok.mod.kin J hs hf ?_
  have e0 : Env0 X.prog X.w X.K X.mg X.base X.A.in1 X.stack s H := I.env0.in1
  have r2 : Vals ([V.ref a] ++ []) ([Value.ref a] ++ []) := Vals.append (.cons rfl .nil) .nil
  have hsp : sp ([V.ref a] ++ []) H (fun v H' => ∃ n : Nat, v = .int n ∧ n < 2 ^ 62 ∧ Q (.int n) H') E0 := q
  have hl : ([Value.ref a] ++ []).length = ps.length := by rw [← r2.length]; exact F.len _ _ _ _ hsp
  refine wpAny_call (codeAny_mono (F.run X.A.in1 X.stack s H ⟨[.ref a], []⟩ _ _ _ E0 hr.in1 e0 (hb s [.ref a] I.kIn hl) r2 hsp) fun r s' hq => ?_)
  cases r with
  | error e => exact pass0 pins σ H s e s' I hq
  | ok fl =>
    cases fl with
    | ret u =>
      obtain ⟨v, H', I', rv, k, rfl, hk, q'⟩ := I.after hq
      obtain ⟨t, rfl⟩ := rv
      exact ⟨⟨by omega, by omega⟩, .int k, H', I'.tok _, ⟨_, rfl⟩, q'⟩
    | next => exact False.elim hq
    | brk => exact False.elim hq
    | cont => exact False.elim hq
end
/-! ### C(k = v) -/
structure MkK (P : Program) (w : World) (K : PySem.W.Frag) (mg : Str → Option Value) (base : Heap) (x : Str) (C : Addr) (k : Nat) (ps ks : List Str) (sp : Sp) : Prop where
  at_ : mg x = some (.ref C)
  ex : ∃ (f : Addr) (fd : FuncData), Mk K C f ∧ KBn K fd ps 1 ks (fun us ws => us ++ ws) (fun vs zs => vs ++ zs) ∧ FnOk P w K mg base CX0 k f fd ps sp
section
variable {X : Cx} {x : Str} {k : Nat} {ps ks : List Str} {sp : Sp} {C : Addr} {kws : List Keyword} {tk : TA} {p pos : Pos}
theorem pe_mkK (M : MkK X.prog X.w X.K X.mg X.base x C k ps ks sp) (hr : Room (k + 1) X.A) (hg : Gl X x) (hkw : PK X kws tk)
    (hall : (backToKw pos (keywordEach kws X.env)).all (·.1.isSome) = true := by rfl) (hks : (backToKw pos (keywordEach kws X.env)).filterMap (·.1) = ks := by rfl) (hdb : (x == ("__debug__" : Str)) = false := by decide)
    (hpl : ((backTo pos (starEach [] X.env)).any (·.1) || (backToKw pos (keywordEach kws X.env)).any (·.1.isNone)) = false := by rfl) :
    PE X (.Call (.Name x p) [] kws pos) (tMakeK C 0 ks.length sp (fun vs zs => vs ++ zs) E0 tNil tk) := by
  obtain ⟨f, fd, h1, h2, h3⟩ := M.ex
  exact pe_makeK0 h1 h3 hr hg M.at_ h2 pass0 hkw hall hks hdb hpl
end
/-! ### data that stays -/
def SD (K : PySem.W.Frag) (H : Hp) (x : V) (d : PyData) : Prop := ∀ H', TK H H' → Dp K H' x d
section
variable {K : PySem.W.Frag} {H H' : Hp} {x v : V} {d dv : PyData} {t : Addr} {xs : List V} {ds : List PyData}
theorem SD.mono (h : SD K H x d) (g : TK H H') : SD K H' x d := fun _ g2 => h _ (g.trans g2)
theorem SDs.mono (h : Paired (SD K H) xs ds) (g : TK H H') : Paired (SD K H') xs ds := pr_imp (fun _ _ h => SD.mono h g) h
theorem SDs.dp : ∀ {xs : List V} {ds : List PyData}, Paired (SD K H) xs ds → DpAll K H xs ds
  | _, _, .nil => .nil
  | _, _, .cons a b => .cons (a _ (.refl _)) (SDs.dp b)
theorem sd_tup (h : H t = some (.tup xs)) (a : Paired (SD K H) xs ds) : SD K H (.ref t) (.tuple ds) := fun _ g => .tup (.of (g.t h)) (SDs.dp (SDs.mono a g))
theorem sd_int (i : Int) : SD K H (.int i) (.int i) := fun _ _ => .int i
theorem sd_str (z : Str) : SD K H (.str z) (.str z) := fun _ _ => .str z
theorem sd_non : SD K H .non .none := fun _ _ => .non
theorem sd_val (h : VAt H v dv) : SD K H v dv := fun _ g => (h.mono g).dp
/-- what is told, as data, the word's being dv -/
def tdD (dv : PyData) : Told → PyData
  | .level i => .tuple [.str "level", .int i]
  | .look l => .tuple [.str "look", .tuple (l.map lvD)]
  | .wait => .tuple [.str "wait"]
  | .word _ => .tuple [.str "word", dv]
theorem sd_lv : ∀ l : List Lv, Paired (SD K H) (l.map lvV) (l.map lvD)
  | [] => .nil
  | none :: l => .cons sd_non (sd_lv l)
  | some i :: l => .cons (sd_int i) (sd_lv l)
theorem sd_told {x : Told} (h : ToldAt H t x) (hw : ∀ v, x = .word v → VAt H v dv) : SD K H (.ref t) (tdD dv x) := by
  cases x with
  | level i => exact sd_tup h (.cons (sd_str _) (.cons (sd_int _) .nil))
  | look l =>
    obtain ⟨q, a, b⟩ := h
    intro H' g
    exact .tup (.of (g.t a)) (.cons (.str _) (.cons (.tup (g.tt b).sq (SDs.dp (sd_lv l))) .nil))
  | wait => exact sd_tup h (.cons (sd_str _) .nil)
  | word v => exact sd_tup h (.cons (sd_str _) (.cons (sd_val (hw v rfl)) .nil))
end
/-- how many steps were done -/
def DS.stps (s : DS) : Nat := (s.deeds.filter (·.stp)).length
def spDLen (C : Addr) : Sp := fun vs H Q _ => ∃ (d : Addr) (s : DS), vs = [.ref d] ∧ DoorAt C H d s ∧ s.deeds.length < 100000 ∧ ∀ H', Same H H' → Q (.int (s.stps : Nat)) H'
end Fp
namespace Fp
open PySem PySem.Spec PyProof.Rows L2
/-! ### steps one by one -/
section
variable {C : Addr} {H H1 H2 : Hp} {d : Addr} {s : DS} {c h : List (Option V)} {l : List Lv} {sn : List (Option (List Lv))} {ds : List Deed} {p n m : Nat} {x : V}
theorem nx_step (e1 : ds.length = n) (e2 : (ds.filter (·.stp)).length = m) (D : DoorAt C H d (DS.mk c l h sn (ds ++ [⟨true, p, x⟩]))) :
    ∃ ds' : List Deed, ds'.length = n + 1 ∧ (ds'.filter (·.stp)).length = m + 1 ∧ DoorAt C H d ⟨c, l, h, sn, ds'⟩ := ⟨_, by rw [List.length_append, e1]; rfl, by rw [List.filter_append, List.length_append, e2]; rfl, D⟩
theorem nx_come (e1 : ds.length = n) (e2 : (ds.filter (·.stp)).length = m) (D : DoorAt C H d (DS.mk c l h sn (ds ++ [⟨false, p, x⟩]))) :
    ∃ ds' : List Deed, ds'.length = n + 1 ∧ (ds'.filter (·.stp)).length = m ∧ DoorAt C H d ⟨c, l, h, sn, ds'⟩ := ⟨_, by rw [List.length_append, e1]; rfl, by rw [List.filter_append, List.length_append, e2]; rfl, D⟩
theorem Same.into {H0 : Hp} (F : Same H0 H1) (g : But [d] H1 H2) (hd : H0 d = none) : Same H0 H2 := fun b o e => g b o (by
  rw [List.mem_singleton]
  intro z
  rw [z, hd] at e
  cases e) (F b o e)
end
theorem SD.now {K : PySem.W.Frag} {H : Hp} {x : V} {d : PyData} (h : SD K H x d) : Dp K H x d := h H (.refl _)
theorem Same.gone {H H1 : Hp} {a : Addr} (F : Same H H1) (h : H1 a = none) : H a = none := by
  cases e : H a with
  | none => rfl
  | some o => rw [F a o e] at h; cases h
theorem Same.put {H H1 : Hp} {a : Addr} {o : HO} (F : Same H H1) (h : H a = none) : Same H (upd H1 a o) := fun b u e => by
  rw [upd_ne (fun z => by rw [z, h] at e; cases e)]; exact F b u e
theorem pr_append {α β : Type} {F : α → β → Prop} : ∀ {l l' : List α} {m m' : List β}, Paired F l m → Paired F l' m' → Paired F (l ++ l') (m ++ m')
  | _, _, _, _, .nil, h => h
  | _, _, _, _, .cons a r, h => .cons a (pr_append r h)
theorem pr_two {α β : Type} {F : α → β → Prop} {l : List α} {a b : β} (h : Paired F l [a, b]) : ∃ x y, l = [x, y] ∧ F x a ∧ F y b := by
  cases h with
  | cons h1 t => cases t with
    | cons h2 t => cases t; exact ⟨_, _, rfl, h1, h2⟩
/-- one player alone, at 2, step by step -/
def lateS (v : V) : Nat → List Deed → DS
  | 0, ds => ⟨[none, none, some v], [none, none, none], [none, none, none], [none, none, none], ds⟩
  | 1, ds => ⟨[none, none, some v], [none, none, some 1], [none, none, none], [none, none, none], ds⟩
  | 2, ds => ⟨[none, none, some v], [none, none, some 1], [none, none, none], [none, none, some [none, none, some 1]], ds⟩
  | 3, ds => ⟨[none, none, some v], [none, none, some 2], [none, none, none], [none, none, some [none, none, some 1]], ds⟩
  | _, ds => ⟨[none, none, some v], [none, none, some 2], [none, none, some v], [none, none, some [none, none, some 1]], ds⟩
def lateT (v : V) : Nat → Told
  | 0 => .level 1
  | 1 => .look [none, none, some 1]
  | 2 => .level 2
  | _ => .word v
theorem late_step (v : V) (i : Nat) (ds : List Deed) (hi : i < 4) : (lateS v i ds).cm 2 ≠ none ∧ (lateS v i ds).told 2 = lateT v i ∧ (lateS v i ds).deeds = ds ∧ ∃ x, (lateS v i ds).step 2 = lateS v (i + 1) (ds ++ [⟨true, 2, x⟩]) := by
  rcases (show i = 0 ∨ i = 1 ∨ i = 2 ∨ i = 3 by omega) with rfl | rfl | rfl | rfl <;> exact ⟨fun z => (nomatch (show some v = none from z)), rfl, rfl, _, rfl⟩
theorem late_word {v x : V} {i : Nat} (hi : i < 4) (h : lateT v i = .word x) : x = v := by
  rcases (show i = 0 ∨ i = 1 ∨ i = 2 ∨ i = 3 by omega) with rfl | rfl | rfl | rfl <;> first | (cases h; done) | (injection h with h; exact h.symm)
theorem Sms.list {k n m : Nat} {ds : List PyData} (h : ∀ d ∈ ds, Sm k n d) (hm : (n + 1) * ds.length ≤ m) : Sm (k + 1) m (.list ds) := (Sms.all h).lst.mono (Nat.le_refl _) hm
theorem sm_td {dv : PyData} (ho : VOk 3 dv) (x : Told) (h : ∀ i, x = .level i → 0 ≤ i ∧ i ≤ 2) (hl : ∀ l, x = .look l → l.length ≤ 5 ∧ ∀ i, some i ∈ l → 0 ≤ i ∧ i ≤ 2) : Sm 6 100 (tdD dv x) := by
  cases x with
  | level i => exact sm_level (h i rfl).1 (h i rfl).2
  | look l =>
    have := hl l rfl
    exact (Sms.tup (.cons ((sm_word "look" (by decide +kernel)).mono (by decide : 1 ≤ 2) (Nat.le_refl 10)) (.cons (lv_sms this.2 this.1).tup (Sms.nil (n := 0))))).mono (by decide) (by decide)
  | wait => exact sm_wait
  | word v => exact sm_wordD ho
end Fp
/-! k35: the last two turned about; what deeds are as data; shown texts that differ -/
namespace Fp
open PySem PySem.Spec PyProof.Rows L2
theorem pick2 (its : List Value) (n : Nat) (a b : Value) (hn : its.length = n + 2) (ha : its[n + 1]? = some a) (hb : its[n]? = some b) : slicePick its.toArray none (some (-3)) (some (-1)) = #[a, b] := by
  unfold slicePick
  have hs : its.toArray.size = n + 2 := by simpa using hn
  have e : sliceBounds none (some (-3)) (some (-1)) its.toArray.size = ((n : Int) + 1, (n : Int) - 1, -1) := by
    rw [hs]
    unfold sliceBounds
    simp only [Option.getD_some, show ¬ ((-1 : Int) > 0) by decide, if_false, show ((-3 : Int) < 0) by decide, if_true]
    refine Prod.ext ?_ (Prod.ext ?_ rfl)
    · show ((n + 2 : Nat) : Int) - 1 = (n : Int) + 1; omega
    · show max (-1) (min (-3 + ((n + 2 : Nat) : Int)) (((n + 2 : Nat) : Int) - 1)) = (n : Int) - 1; omega
  rw [e]
  have r : sliceRange ((n : Int) + 1) ((n : Int) - 1) (-1) = [n + 1, n] := by
    unfold sliceRange
    have h : (n : Int) + 1 > (n : Int) - 1 := by omega
    have c : ((n : Int) + 1 - ((n : Int) - 1) - -1 - 1) / (- -1) = 2 := by
      rw [show (- -1 : Int) = 1 by decide, Int.ediv_one]; omega
    simp only [show ¬ ((-1 : Int) > 0) by decide, if_false, h, if_true, c]
    show [(((n : Int) + 1 + -1 * ((0 : Nat) : Int))).toNat, (((n : Int) + 1 + -1 * ((1 : Nat) : Int))).toNat] = _
    rw [show ((n : Int) + 1 + -1 * ((0 : Nat) : Int)).toNat = n + 1 by omega, show ((n : Int) + 1 + -1 * ((1 : Nat) : Int)).toNat = n by omega]
  show ((sliceRange ((n : Int) + 1) ((n : Int) - 1) (-1)).filterMap (its.toArray[·]?)).toArray = _
  rw [r]
  simp [ha, hb]
def tLast2 (K : PySem.W.Frag) (te : TE) : TE := fun σ H Q => te σ H fun x H1 => ∃ a xs u v, x = .ref a ∧ SqL K H1 a (xs ++ [u, v]) ∧ ∀ p, H1 p = none → Q (.ref p) (upd H1 p (.lst [v, u]))
section
variable {X : Cx}
theorem pe_last2 {e : Expr} {te : TE} {k k2 : Nat} {p1 p2 p3 p4 p5 pos : Pos} (he : PE X e te) : PE X (.Subscript e (.Slice none (some (.UnaryOp .USub (.Constant (.int 3) k2 p4) p5)) (some (.UnaryOp .USub (.Constant (.int 1) k p1) p2)) p3) pos) (tLast2 X.K te) := by
  refine ⟨fun pins s σ H Q I h => ?_⟩
  refine Subscript_ (thn (he.run pins s σ H _ I h) fun v s1 ⟨x, H1, I1, r1, q1⟩ => ?_)
  obtain ⟨a, xs, u1, v1, ex, hx, q⟩ := q1
  subst ex
  cases r1
  have hst : PO X (some (.UnaryOp .USub (.Constant (.int 1) k p1) p2)) (tPart (tUn (rU fun i => .int (-i)) (tC (.int 1)))) := po_some (pe_un un_neg pe_int)
  have hst3 : PO X (some (.UnaryOp .USub (.Constant (.int 3) k2 p4) p5)) (tPart (tUn (rU fun i => .int (-i)) (tC (.int 3)))) := po_some (pe_un un_neg pe_int)
  refine wpAny_Slice (thn (po_none.run pins s1 σ H1 (fun o H2 => o = none ∧ H2 = H1) I1 ⟨rfl, rfl⟩) fun vl s2 ⟨l, H2, I2, pl, el, e2⟩ => ?_)
  subst el e2
  refine thn (hst3.run pins s2 σ H2 (fun o H3 => o = some (-3) ∧ H3 = H2) I2 ⟨3, rfl, -3, rfl, rfl, rfl⟩) fun vu s3 ⟨u, H3, I3, pu, eu, e3⟩ => ?_
  subst eu e3
  refine thn (hst.run pins s3 σ H3 (fun o H4 => o = some (-1) ∧ H4 = H3) I3 ⟨1, rfl, -1, rfl, rfl, rfl⟩) fun vs s4 ⟨o, H4, I4, ps, eo, e4⟩ => ?_
  subst eo e4
  have I5 : Inv X pins σ H4 { s4 with heap := s4.heap.push { cls := .type "slice", data := .fields #[vl, vu, vs] } } := I4.kept (t' := s4.toks) fun b ob q => Heap.get?_push_of_some _ q
  obtain ⟨its, r, ht, hz⟩ := I5.list hx
  have hlen := r.length
  rw [List.length_append] at hlen
  have hl2 : its.length = xs.length + 2 := hlen.symm
  show wpAny (model X.prog X.w) X.A (subscriptTail e (.Slice none (some (.UnaryOp .USub (.Constant (.int 3) k2 p4) p5)) (some (.UnaryOp .USub (.Constant (.int 1) k p1) p2)) p3) (.ref a) (.ref s4.heap.objs.size)) (EP X pins σ Q) X.xe { s4 with heap := s4.heap.push { cls := .type "slice", data := .fields #[vl, vu, vs] } }
  refine tail_any (ops := [.ref a, .ref s4.heap.objs.size]) ht.isList.typeIs (PySem.slot_list_getitem.lookup) ?_ (by with_unfolding_all rfl)
  refine wpAny_getItem_list_slice ht.isList (Heap.IsSliceOf.new _ vl vu vs) pl pu ps (by decide) ?_ (by rw [List.size_toArray]; rw [List.length_append] at hz; omega)
  obtain ⟨w1, hw1, rw1⟩ := r.get (i := xs.length + 1) (x := v1) (by rw [List.getElem?_append_right (by omega), show xs.length + 1 - xs.length = 1 by omega]; rfl)
  obtain ⟨w2, hw2, rw2⟩ := r.get (i := xs.length) (x := u1) (by rw [List.getElem?_append_right (by omega), Nat.sub_self]; rfl)
  rw [pick2 its xs.length w1 w2 hl2 hw1 hw2]
  refine ⟨.ref _, _, I5.laid (t' := s4.toks) (o := .lst [v1, u1]) (fun b ob q => Heap.get?_push_of_some _ q) (Nat.le_refl _) ?_, rfl, q _ (I5.hok.fresh (Nat.le_refl _))⟩
  exact ⟨by show 2 ≤ sizeLine; decide, _, 0, .cons rw1 (.cons rw2 .nil), Heap.get?_push_size _ rfl⟩
end
/-! ### deeds -/
theorem DS.step_deeds (s : DS) (p : Nat) : (s.step p).deeds = s.deeds ++ [⟨true, p, .str (DS.kindOf (s.stg p))⟩] := by
  have h4 := DS.stg_lt s p
  rcases (show s.stg p = 0 ∨ s.stg p = 1 ∨ s.stg p = 2 ∨ s.stg p = 3 by omega) with e | e | e | e
  · rw [DS.step0 e, e]; rfl
  · rw [DS.step1 e, e]; rfl
  · rw [DS.step2 e, e]; rfl
  · rw [DS.step3 e, e]; split <;> rfl
structure DS.DOk (s : DS) : Prop where
  hok : ∀ q x, s.hd q = some x → ∃ r, s.cm r = some x
  dcm : ∀ d ∈ s.deeds, d.stp = false → s.cm d.p = some d.x
  dst : ∀ d ∈ s.deeds, d.stp = true → ∃ k, k ≤ 3 ∧ d.x = .str (DS.kindOf k)
  dp : ∀ d ∈ s.deeds, d.p < 5
theorem DS.DOk.new (n : Nat) : (DS.new n).DOk := ⟨fun q x h => (by rw [DS.hd_new] at h; cases h), fun d h => absurd h (by simp [DS.new]), fun d h => absurd h (by simp [DS.new]), fun d h => absurd h (by simp [DS.new])⟩
theorem DS.DOk.come {s : DS} {p : Nat} {v : V} (h : s.DOk) (W : s.WF) (hp : p < s.lev.length) (hc : s.cm p = none) : (s.come p v).DOk := by
  have keep : ∀ r x, s.cm r = some x → (s.come p v).cm r = some x := fun r x hr => by
    rw [DS.cm_come, if_neg]
    · exact hr
    · rintro ⟨z, _⟩; rw [← z, hc] at hr; cases hr
  have e : (s.come p v).deeds = s.deeds ++ [⟨false, p, v⟩] := rfl
  have h5 := W.n5
  refine ⟨fun q x hq => ?_, fun d hd hs => ?_, fun d hd hs => ?_, fun d hd => ?_⟩
  · rw [DS.hd_come] at hq
    obtain ⟨r, hr⟩ := h.hok q x hq
    exact ⟨r, keep r x hr⟩
  · rw [e] at hd
    rcases List.mem_append.mp hd with hd | hd
    · exact keep _ _ (h.dcm d hd hs)
    · rw [List.mem_singleton] at hd; subst hd
      rw [DS.cm_come, if_pos ⟨rfl, by rw [W.lc]; exact hp⟩]
  · rw [e] at hd
    rcases List.mem_append.mp hd with hd | hd
    · exact h.dst d hd hs
    · rw [List.mem_singleton] at hd; subst hd; cases hs
  · rw [e] at hd
    rcases List.mem_append.mp hd with hd | hd
    · exact h.dp d hd
    · rw [List.mem_singleton] at hd; subst hd; show p < 5; omega
theorem DS.DOk.step {s : DS} {p : Nat} (h : s.DOk) (W : s.WF) (hc : s.cm p ≠ none) : (s.step p).DOk := by
  have hp := DS.lt_of_cm W hc
  have h5 := W.n5
  refine ⟨fun q x hq => ?_, fun d hd hs => ?_, fun d hd hs => ?_, fun d hd => ?_⟩
  · rw [DS.hd_step W hc] at hq
    split at hq
    · exact ⟨s.two, by rw [DS.cm_step]; exact hq⟩
    · obtain ⟨r, hr⟩ := h.hok q x hq
      exact ⟨r, by rw [DS.cm_step]; exact hr⟩
  · rw [DS.step_deeds] at hd
    rw [DS.cm_step]
    rcases List.mem_append.mp hd with hd | hd
    · exact h.dcm d hd hs
    · rw [List.mem_singleton] at hd; subst hd; cases hs
  · rw [DS.step_deeds] at hd
    rcases List.mem_append.mp hd with hd | hd
    · exact h.dst d hd hs
    · rw [List.mem_singleton] at hd; subst hd; exact ⟨_, DS.stg_lt s p, rfl⟩
  · rw [DS.step_deeds] at hd
    rcases List.mem_append.mp hd with hd | hd
    · exact h.dp d hd
    · rw [List.mem_singleton] at hd; subst hd; show p < 5; omega
theorem kind_cases {k : Nat} (h : k ≤ 3) : DS.kindOf k = "level" ∨ DS.kindOf k = "look" ∨ DS.kindOf k = "ask" := by
  rcases (show k = 0 ∨ k = 1 ∨ k = 2 ∨ k = 3 by omega) with e | e | e | e <;> subst e
  · exact .inl rfl
  · exact .inr (.inl rfl)
  · exact .inl rfl
  · exact .inr (.inr rfl)
theorem sm_kind {k : Nat} (h : k ≤ 3) : Sm 1 10 (.str (DS.kindOf k)) := by
  rcases kind_cases h with e | e | e <;> rw [e] <;> exact sm_word _ (by decide +kernel)
/-- a deed as data -/
def DD (d : Deed) (pd : PyData) : Prop := ∃ w x, pd = .tuple [.str w, .int (d.p : Nat), x]
theorem deeds_data {H : Hp} : ∀ ds : List Deed, (∀ d ∈ ds, (d.stp = false → Good H d.x) ∧ (d.stp = true → ∃ k, k ≤ 3 ∧ d.x = .str (DS.kindOf k)) ∧ d.p < 5) →
    ∃ pds : List PyData, (∀ (K : PySem.W.Frag) (H' : Hp) (dv : List V), TK H H' → Paired (DeedAt H') dv ds → DpAll K H' dv pds) ∧ (∀ d ∈ pds, Sm 5 70 d) ∧ Paired DD ds pds
  | [], _ => ⟨[], fun K H' dv g P => by cases P; exact .nil, fun d h => absurd h (by simp), .nil⟩
  | d :: ds, h => by
    obtain ⟨pds, h1, h2, h3⟩ := deeds_data ds fun e he => h e (List.mem_cons_of_mem _ he)
    obtain ⟨g0, g1, g2⟩ := h d List.mem_cons_self
    have smp : Sm 1 0 (.int (d.p : Nat)) := Sm.int (by omega) (by omega)
    cases hs : d.stp with
    | false =>
      obtain ⟨dx, vx, ox⟩ := g0 hs
      refine ⟨.tuple [.str "come", .int (d.p : Nat), dx] :: pds, fun K H' dv g P => ?_, fun e he => ?_, .cons ⟨_, _, rfl⟩ h3⟩
      · cases P with
        | cons a r =>
          obtain ⟨q, rfl, hq⟩ := a
          rw [hs] at hq
          exact .cons (.tup (.of hq) (.cons (.str _) (.cons (.int _) (.cons (vx.mono g).dp .nil)))) (h1 K H' _ g r)
      · rcases List.mem_cons.mp he with e' | e'
        · rw [e']
          exact (Sms.tup (.cons ((sm_word "come" (by decide +kernel)).mono (by decide : 1 ≤ 4) (Nat.le_refl 10)) (.cons (smp.mono (by decide) (Nat.le_refl 0)) (.cons ox.sm (Sms.nil (n := 0)))))).mono (by decide) (by decide)
        · exact h2 e e'
    | true =>
      obtain ⟨k, hk, ex⟩ := g1 hs
      refine ⟨.tuple [.str "step", .int (d.p : Nat), .str (DS.kindOf k)] :: pds, fun K H' dv g P => ?_, fun e he => ?_, .cons ⟨_, _, rfl⟩ h3⟩
      · cases P with
        | cons a r =>
          obtain ⟨q, rfl, hq⟩ := a
          rw [hs, ex] at hq
          exact .cons (.tup (.of hq) (.cons (.str _) (.cons (.int _) (.cons (.str _) .nil)))) (h1 K H' _ g r)
      · rcases List.mem_cons.mp he with e' | e'
        · rw [e']
          exact (Sms.tup (.cons ((sm_word "step" (by decide +kernel)).mono (by decide : 1 ≤ 4) (Nat.le_refl 10)) (.cons (smp.mono (by decide) (Nat.le_refl 0)) (.cons ((sm_kind hk).mono (by decide) (Nat.le_refl 10)) (Sms.nil (n := 0)))))).mono (by decide) (by decide)
        · exact h2 e e'
theorem eqv_players : ∀ {ds es : List Deed} {pd pe : List PyData}, Paired DD ds pd → Paired DD es pe → PyData.eqvAll pd pe = true → ds.map Deed.p = es.map Deed.p
  | _, _, _, _, .nil, .nil, _ => rfl
  | _, _, _, _, .nil, .cons _ _, h => by simp [PyData.eqvAll] at h
  | _, _, _, _, .cons _ _, .nil, h => by simp [PyData.eqvAll] at h
  | _, _, _, _, .cons a r, .cons b t, h => by
    obtain ⟨w, x, rfl⟩ := a
    obtain ⟨w', x', rfl⟩ := b
    rw [PyData.eqvAll, Bool.and_eq_true] at h
    have h1 := h.1
    simp only [PyData.eqv, PyData.eqvAll, Bool.and_eq_true] at h1
    have h2 := h1.2.1
    rw [List.map_cons, List.map_cons, eqv_players r t h.2]
    congr 1
    simp at h2
    omega
theorem DS.DOk.deeds {C : Addr} {H : Hp} {d : Addr} {s : DS} (h : s.DOk) (D : DoorAt C H d s) : ∀ x ∈ s.deeds, (x.stp = false → Good H x.x) ∧ (x.stp = true → ∃ k, k ≤ 3 ∧ x.x = .str (DS.kindOf k)) ∧ x.p < 5 := by
  intro x hx
  obtain ⟨dx', a, b, c, e, f, cv', hv', sv', dv', DD⟩ := D
  exact ⟨fun z => DD.good _ _ (h.dcm x hx z), h.dst x hx, h.dp x hx⟩
/-! ### (VALUE,) or None, as data -/
theorem opt_data {H : Hp} : ∀ m : List (Option V), (∀ x, some x ∈ m → Good H x) → ∃ ds : List PyData, (∀ (K : PySem.W.Frag) (H' : Hp) (cv : List V), TK H H' → Paired (One H') cv m → DpAll K H' cv ds) ∧ (∀ d ∈ ds, Sm 5 60 d) ∧ ds.length = m.length
  | [], _ => ⟨[], fun K H' cv g P => by cases P; exact .nil, fun d h => absurd h (by simp), rfl⟩
  | o :: m, h => by
    obtain ⟨ds, h1, h2, h3⟩ := opt_data m fun x hx => h x (List.mem_cons_of_mem _ hx)
    cases o with
    | none =>
      refine ⟨.none :: ds, fun K H' cv g P => ?_, fun d hd => ?_, by simp [h3]⟩
      · cases P with
        | cons a r => rw [show _ = V.non from a]; exact .cons .non (h1 K H' _ g r)
      · rcases List.mem_cons.mp hd with e | e
        · rw [e]; exact Sm.non.mono (by decide) (by decide)
        · exact h2 d e
    | some v =>
      obtain ⟨dv, vv, ov⟩ := h v List.mem_cons_self
      refine ⟨.tuple [dv] :: ds, fun K H' cv g P => ?_, fun d hd => ?_, by simp [h3]⟩
      · cases P with
        | cons a r => obtain ⟨q, rfl, hq⟩ := a; exact .cons (word_dp vv g hq) (h1 K H' _ g r)
      · rcases List.mem_cons.mp hd with e | e
        · rw [e]; exact word_data ov
        · exact h2 d e
/-! ### shown texts -/
theorem str_ext {a b : Str} (h : a.cps.toList = b.cps.toList) : a = b := by
  cases a; cases b; congr 1; exact Array.ext' h
theorem cpl (a b : Str) : (a ++ b).cps.toList = a.cps.toList ++ b.cps.toList := by rw [Str.cps_append]; simp
theorem textFrom_app : ∀ (as bs : List Str) (k : Nat) (acc : Str), textFrom k acc (as ++ bs) = textFrom (k + as.length) (textFrom k acc as) bs
  | [], bs, k, acc => rfl
  | a :: as, bs, k, acc => by
    show textFrom (k + 1) _ (as ++ bs) = _
    rw [textFrom_app as bs, List.length_cons, show k + 1 + as.length = k + (as.length + 1) by omega]
    rfl
def digit (p : Nat) : Nat := 48 + p
theorem int_text : ∀ p : Nat, p < 5 → (toString (p : Int) : Str).cps.toList = [digit p] := by decide +kernel
theorem pair_text {p : Nat} (hp : p < 5) (c : PyData) : ∃ r, (PyData.shown (.tuple [.int (p : Nat), c])).cps.toList = 40 :: digit p :: r := by
  refine ⟨?r, ?_⟩
  rotate_left
  · simp only [PyData.shown, PyData.shownAll, tupleText, Str.join, List.length_cons, List.length_nil]
    rw [cpl, cpl, cpl, cpl, int_text p hp]
    show [40] ++ ([digit p] ++ _ ++ _) ++ _ = _
    simp only [List.cons_append, List.nil_append, List.append_assoc]
    rfl
theorem shown_list (xs : List PyData) : PyData.shown (.list xs) = listText (PyData.shownAll xs) := by rw [PyData.shown]
theorem shownAll_app : ∀ xs ys : List PyData, PyData.shownAll (xs ++ ys) = PyData.shownAll xs ++ PyData.shownAll ys
  | [], ys => by simp [PyData.shownAll]
  | x :: xs, ys => by simp [PyData.shownAll, shownAll_app xs ys]
theorem textFrom2 (k : Nat) (acc a b : Str) : ∃ z, (textFrom k acc [a, b]).cps.toList = acc.cps.toList ++ (if k > 0 then [44, 32] else []) ++ a.cps.toList ++ z := by
  refine ⟨?z, ?_⟩
  rotate_left
  · show ((acc ++ _ ++ a) ++ _ ++ b).cps.toList = _
    rw [cpl, cpl, cpl, cpl]
    have : ((if k > 0 then ", " else "" : String) : Str).cps.toList = (if k > 0 then [44, 32] else []) := by split <;> decide +kernel
    rw [this, List.append_assoc]
/-- two lists of pairs that begin alike, and go on by other players -/
theorem shown_other {xs : List PyData} {p q : Nat} {c d : PyData} (hp : p < 5) (hq : q < 5) (h : p ≠ q) :
    PyData.shown (.list (xs ++ [.tuple [.int (p : Nat), c], .tuple [.int (q : Nat), d]])) ≠ PyData.shown (.list (xs ++ [.tuple [.int (q : Nat), d], .tuple [.int (p : Nat), c]])) := by
  intro e
  rw [shown_list, shown_list, shownAll_app, shownAll_app] at e
  unfold listText at e
  rw [textFrom_app, textFrom_app] at e
  have e2 := congrArg (fun z : Str => z.cps.toList) e
  simp only [cpl] at e2
  obtain ⟨z1, h1⟩ := textFrom2 (0 + (PyData.shownAll xs).length) (textFrom 0 "[" (PyData.shownAll xs)) (PyData.shown (.tuple [.int (p : Nat), c])) (PyData.shown (.tuple [.int (q : Nat), d]))
  obtain ⟨z2, h2⟩ := textFrom2 (0 + (PyData.shownAll xs).length) (textFrom 0 "[" (PyData.shownAll xs)) (PyData.shown (.tuple [.int (q : Nat), d])) (PyData.shown (.tuple [.int (p : Nat), c]))
  obtain ⟨r1, g1⟩ := pair_text hp c
  obtain ⟨r2, g2⟩ := pair_text hq d
  have s1 : PyData.shownAll [.tuple [.int (p : Nat), c], .tuple [.int (q : Nat), d]] = [PyData.shown (.tuple [.int (p : Nat), c]), PyData.shown (.tuple [.int (q : Nat), d])] := by simp [PyData.shownAll]
  have s2 : PyData.shownAll [.tuple [.int (q : Nat), d], .tuple [.int (p : Nat), c]] = [PyData.shown (.tuple [.int (q : Nat), d]), PyData.shown (.tuple [.int (p : Nat), c])] := by simp [PyData.shownAll]
  rw [s1, s2, h1, h2, g1, g2] at e2
  simp only [List.append_assoc] at e2
  have e3 := List.append_cancel_left (List.append_cancel_left e2)
  simp only [List.cons_append, List.cons.injEq, true_and] at e3
  have := e3.1
  unfold digit at this
  omega
theorem pr_imp' {α β : Type} {F G : α → β → Prop} : ∀ {l : List α} {m : List β}, Paired F l m → (∀ n ∈ l, ∀ y, F n y → G n y) → Paired G l m
  | _, _, .nil, _ => .nil
  | _, _, .cons a r, h => .cons (h _ List.mem_cons_self _ a) (pr_imp' r fun n hn => h n (List.mem_cons_of_mem _ hn))
def rListOf (K : PySem.W.Frag) : List V → Hp → VK → Prop := fun xs H Q => ∃ p ys, xs = [.ref p] ∧ (SqL K H p ys ∨ SqT K H p ys) ∧ ∀ l, H l = none → Q (.ref l) (upd H l (.lst ys))
theorem call_list_ofK {X : Cx} {K : PySem.W.Frag} (e : X.K = K := by rfl) : CallR X (.type "list") (rListOf K) := by subst e; exact call_list_of
/-! ### promises -/
def spCopy (C : Addr) : Sp := fun vs H Q _ => ∃ (d : Addr) (s : DS), vs = [.ref d] ∧ DoorAt C H d s ∧ ∀ e H', Same H H' → H e = none → DoorAt C H' e s → Q (.ref e) H'
def spDEq (C : Addr) : Sp := fun vs H Q _ => ∃ (d : Addr) (s : DS) (y : V), vs = [.ref d, y] ∧ DoorAt C H d s ∧ s.DOk ∧
  ((∃ e t, y = .ref e ∧ DoorAt C H e t ∧ t.DOk ∧ t.lev.length = s.lev.length ∧ ∀ b, (t.deeds = s.deeds → b = true) → (s.deeds.map Deed.p ≠ t.deeds.map Deed.p → b = false) → Q (.bl b) H) ∨ (∃ o kvs, y = .ref o ∧ H o = some (.dK kvs) ∧ Q (.bl false) H))
def spONext : Sp := fun vs H Q _ => ∃ (o : Addr) (L : List Addr) (p : Nat) (s : DS) (k : Int), vs = [.ref o, .int p] ∧ OwnAt H o L s k ∧ s.WF ∧ p < s.lev.length ∧ ∀ H', Same H H' → Q (optS (s.next p)) H'
def spOCopy : Sp := fun vs H Q _ => ∃ (o : Addr) (L : List Addr) (s : DS) (k : Int), vs = [.ref o] ∧ OwnAt H o L s k ∧ ∀ o' L' H', Same H H' → (∀ x ∈ L', H x = none) → OwnAt H' o' L' s k → Q (.ref o') H'
def spIsDoor (C : Addr) : Sp := fun vs H Q _ => ∃ (d o : Addr) (L : List Addr) (s : DS), vs = [.ref d, .ref o] ∧ DoorAt C H d s ∧ OwnAt H o L s (s.stps : Nat) ∧ s.DOk ∧ s.deeds.length < 100000 ∧ ∀ H', Same H H' → Q (.bl true) H'
/-! ### what was done -/
abbrev Done := Nat × Option V
def DoneAt (H : Hp) (x : V) (e : Done) : Prop := ∃ t c, x = .ref t ∧ H t = some (.tup [.int (e.1 : Nat), c]) ∧ e.1 < 5 ∧ match e.2 with
  | none => c = .non
  | some v => ∃ q, c = .ref q ∧ H q = some (.tup [v]) ∧ Good H v
theorem DoneAt.mono {H H' : Hp} (g : TK H H') {x : V} {e : Done} (h : DoneAt H x e) : DoneAt H' x e := by
  obtain ⟨p, o⟩ := e
  obtain ⟨t, c, h1, h2, h3, h4⟩ := h
  refine ⟨t, c, h1, g.t h2, h3, ?_⟩
  cases o with
  | none => exact h4
  | some v => obtain ⟨q, a, b, d⟩ := h4; exact ⟨q, a, g.t b, d.mono g⟩
def DS.does (s : DS) (e : Done) : DS := match e.2 with
  | none => s.step e.1
  | some v => s.come e.1 v
def DS.let_ (s : DS) (e : Done) : Prop := match e.2 with
  | none => s.cm e.1 ≠ none
  | some _ => s.cm e.1 = none ∧ e.1 < s.lev.length
def DS.run (s : DS) (l : List Done) : DS := l.foldl DS.does s
inductive Leg : DS → List Done → Prop
  | nil {s} : Leg s []
  | cons {s e l} : s.let_ e → Leg (s.does e) l → Leg s (e :: l)
section
variable {s : DS} {e f : Done} {l m : List Done}
theorem Leg.snoc : ∀ {l : List Done} {s : DS}, Leg s l → (s.run l).let_ e → Leg s (l ++ [e])
  | [], _, _, h => .cons h .nil
  | _ :: _, _, .cons a r, h => .cons a (Leg.snoc r h)
theorem Leg.take : ∀ {l m : List Done} {s : DS}, Leg s (l ++ m) → Leg s l ∧ Leg (s.run l) m
  | [], _, _, h => ⟨.nil, h⟩
  | _ :: _, _, _, .cons a r => ⟨.cons a (Leg.take r).1, (Leg.take r).2⟩
theorem Leg.app : ∀ {l m : List Done} {s : DS}, Leg s l → Leg (s.run l) m → Leg s (l ++ m)
  | [], _, _, _, h => h
  | _ :: _, _, _, .cons a r, h => .cons a (Leg.app r h)
theorem run_app : s.run (l ++ m) = (s.run l).run m := List.foldl_append
theorem len_does : (s.does e).lev.length = s.lev.length := by
  obtain ⟨p, o⟩ := e
  cases o with
  | none => exact DS.len_step
  | some v => rfl
theorem len_run : ∀ {l : List Done} {s : DS}, (s.run l).lev.length = s.lev.length
  | [], _ => rfl
  | e :: l, s => (len_run (l := l) (s := s.does e)).trans len_does
theorem WF_does (W : s.WF) (h : s.let_ e) : (s.does e).WF := by
  obtain ⟨p, o⟩ := e
  cases o with
  | none => exact W.step h
  | some v => exact W.come
theorem DOk_does (D : s.DOk) (W : s.WF) (h : s.let_ e) : (s.does e).DOk := by
  obtain ⟨p, o⟩ := e
  cases o with
  | none => exact D.step W h
  | some v => exact D.come W h.2 h.1
theorem both_run : ∀ {l : List Done} {s : DS}, Leg s l → s.WF → s.DOk → (s.run l).WF ∧ (s.run l).DOk
  | [], _, _, W, D => ⟨W, D⟩
  | _ :: _, _, .cons a r, W, D => by
    have h := both_run r (WF_does W a) (DOk_does D W a)
    exact h
theorem ps_does : (s.does e).deeds.map Deed.p = s.deeds.map Deed.p ++ [e.1] := by
  obtain ⟨p, o⟩ := e
  cases o with
  | none => show (s.step p).deeds.map Deed.p = _; rw [DS.step_deeds, List.map_append]; rfl
  | some v => show (s.come p v).deeds.map Deed.p = _; rw [show (s.come p v).deeds = s.deeds ++ [⟨false, p, v⟩] from rfl, List.map_append]; rfl
theorem ps_run : ∀ {l : List Done} {s : DS}, (s.run l).deeds.map Deed.p = s.deeds.map Deed.p ++ l.map Prod.fst
  | [], s => by simp [DS.run]
  | e :: l, s => by
    show ((s.does e).run l).deeds.map Deed.p = _
    rw [ps_run, ps_does]; simp
theorem cm_does (W : s.WF) (h : s.let_ e) (q : Nat) (hq : q ≠ e.1) : (s.does e).cm q = s.cm q := by
  obtain ⟨p, o⟩ := e
  cases o with
  | none => exact DS.cm_step q
  | some v =>
    show (s.come p v).cm q = _
    rw [DS.cm_come, if_neg]
    rintro ⟨z, _⟩; exact hq z.symm
theorem let_swap (W : s.WF) (he : s.let_ e) (hf : (s.does e).let_ f) (n : f.1 ≠ e.1) : s.let_ f ∧ (s.does f).let_ e := by
  have a : s.let_ f := by
    obtain ⟨q, o⟩ := f
    cases o with
    | none => show s.cm q ≠ none; rw [← cm_does W he q n]; exact hf
    | some v => exact ⟨by rw [← cm_does W he q n]; exact hf.1, by rw [← len_does (s := s) (e := e)]; exact hf.2⟩
  refine ⟨a, ?_⟩
  obtain ⟨p, o⟩ := e
  cases o with
  | none => show (s.does f).cm p ≠ none; rw [cm_does W a p (Ne.symm n)]; exact he
  | some v => exact ⟨by rw [cm_does W a p (Ne.symm n)]; exact he.1, by rw [len_does]; exact he.2⟩
theorem len_deeds_run : (s.run l).deeds.length = s.deeds.length + l.length := by
  have := congrArg List.length (ps_run (l := l) (s := s))
  simpa using this
end
def spAgain (C : Addr) (K : PySem.W.Frag) : Sp := fun vs H Q _ => ∃ (n : Nat) (dl : Addr) (xs : List V) (l : List Done), vs = [.int n, .ref dl] ∧ 1 ≤ n ∧ n ≤ 5 ∧ H dl = some (.lst xs) ∧ Paired (DoneAt H) xs l ∧ Leg (DS.new n) l ∧ l.length < 1000 ∧
  ∀ d H', Same H H' → H d = none → DoorAt C H' d ((DS.new n).run l) → Q (.ref d) H'
def spLDeed (C : Addr) : Sp := fun vs H Q _ => ∃ (pt d o dl : Addr) (L : List Addr) (s : DS) (m : Nat) (xs : List V), vs = [.ref pt, .ref d, .ref o, .ref dl] ∧ PotAt H pt m ∧ m < 800000 ∧ DoorAt C H d s ∧ OwnAt H o L s (s.stps : Nat) ∧ H dl = some (.lst xs) ∧ xs.length < 1000 ∧ s.deeds.length < 1000 ∧
  pt ∉ L ∧ pt ≠ d ∧ pt ≠ dl ∧ dl ∉ L ∧ dl ≠ d ∧ d ∉ L ∧
  ∀ (e : Done) (x : V) H', But (pt :: d :: dl :: L) H H' → PotAt H' pt (m + 100) → s.let_ e → DoorAt C H' d (s.does e) → OwnAt H' o L (s.does e) ((s.does e).stps : Nat) → H' dl = some (.lst (xs ++ [x])) → DoneAt H' x e → Q (.bl true) H'
theorem stps_step {s : DS} {p : Nat} : (s.step p).stps = s.stps + 1 := by
  unfold DS.stps
  rw [DS.step_deeds, List.filter_append, List.length_append]; rfl
theorem stps_come {s : DS} {p : Nat} {v : V} : (s.come p v).stps = s.stps := by
  unfold DS.stps
  rw [show (s.come p v).deeds = s.deeds ++ [⟨false, p, v⟩] from rfl, List.filter_append, List.length_append]; rfl
end Fp
/-! values of any kind, as data -/
namespace Fp
open PySem PySem.Spec PyProof.Rows L2 LamX
mutual
inductive DA (H : Hp) : V → PyData → Prop where
  | non : DA H .non .none
  | bl (b : Bool) : DA H (.bl b) (.bool b)
  | int (i : Int) : DA H (.int i) (.int i)
  | str (z : Str) : DA H (.str z) (.str z)
  | tup {a : Addr} {xs : List V} {ds : List PyData} : H a = some (.tup xs) → DAs H xs ds → DA H (.ref a) (.tuple ds)
  | lst {a : Addr} {xs : List V} {ds : List PyData} : H a = some (.lst xs) → DAs H xs ds → DA H (.ref a) (.list ds)
  | dct {a : Addr} : H a = some (.dK []) → DA H (.ref a) (.dict [])
inductive DAs (H : Hp) : List V → List PyData → Prop where
  | nil : DAs H [] []
  | cons {v vs d ds} : DA H v d → DAs H vs ds → DAs H (v :: vs) (d :: ds)
end
/-- what is no table stays -/
theorem ExtN.at_ {H H' : Hp} (g : ExtN H H') {a : Addr} {o : HO} (h : H a = some o) (n : ∀ ps, o ≠ .tbl ps) : H' a = some o := g a o h n
mutual
theorem DA.ext {H H' : Hp} (g : ExtN H H') : ∀ {v : V} {d : PyData}, DA H v d → DA H' v d
  | _, _, .non => .non
  | _, _, .bl b => .bl b
  | _, _, .int i => .int i
  | _, _, .str z => .str z
  | _, _, .tup h t => .tup (g _ _ h fun _ z => by cases z) (DAs.ext g t)
  | _, _, .lst h t => .lst (g _ _ h fun _ z => by cases z) (DAs.ext g t)
  | _, _, .dct h => .dct (g _ _ h fun _ z => by cases z)
theorem DAs.ext {H H' : Hp} (g : ExtN H H') : ∀ {vs : List V} {ds : List PyData}, DAs H vs ds → DAs H' vs ds
  | _, _, .nil => .nil
  | _, _, .cons h t => .cons (DA.ext g h) (DAs.ext g t)
end
mutual
theorem DA.dp {K : PySem.W.Frag} {H : Hp} : ∀ {v : V} {d : PyData}, DA H v d → d.hasDict = false → Dp K H v d
  | _, _, .non, _ => .non
  | _, _, .bl b, _ => .bl b
  | _, _, .int i, _ => .int i
  | _, _, .str z, _ => .str z
  | _, _, .tup h t, e => .tup (.of h) (DAs.dp t (by simpa [PyData.hasDict] using e))
  | _, _, .lst h t, e => .lst (.of h) (DAs.dp t (by simpa [PyData.hasDict] using e))
  | _, _, .dct h, e => by simp [PyData.hasDict] at e
theorem DAs.dp {K : PySem.W.Frag} {H : Hp} : ∀ {vs : List V} {ds : List PyData}, DAs H vs ds → PyData.hasDictAll ds = false → DpAll K H vs ds
  | _, _, .nil, _ => .nil
  | _, _, .cons h t, e => by
    simp only [PyData.hasDictAll, Bool.or_eq_false_iff] at e
    exact .cons (DA.dp h e.1) (DAs.dp t e.2)
end
theorem DAs.len {H : Hp} : ∀ {vs : List V} {ds : List PyData}, DAs H vs ds → vs.length = ds.length
  | _, _, .nil => rfl
  | _, _, .cons _ t => congrArg (· + 1) (DAs.len t)
theorem DAs.at_ {H : Hp} {v : V} : ∀ {i : Nat} {vs : List V} {ds : List PyData}, DAs H vs ds → vs[i]? = some v → ∃ d, ds[i]? = some d ∧ DA H v d
  | 0, _, _, .cons h t, e => by cases e; exact ⟨_, rfl, h⟩
  | i + 1, _, _, .cons h t, e => DAs.at_ (i := i) t e
  | _, _, _, .nil, e => by simp at e
/-- of which built-in type -/
def tyN : PyData → String
  | .none => "NoneType" | .bool _ => "bool" | .int _ => "int" | .str _ => "str" | .tuple _ => "tuple" | .list _ => "list" | .dict _ => "dict"
theorem DA.ty {K : PySem.W.Frag} {H : Hp} {v : V} {d : PyData} (h : DA H v d) : TyX K H v (.type (tyN d)) := by
  cases h with
  | non => exact .base .non
  | bl b => exact .base (.bl b)
  | int i => exact .base (.int i)
  | str z => exact .base (.str z)
  | tup h t => exact .base (.tup h)
  | lst h t => exact .base (.lst h)
  | dct h => exact .base (.dK h)
theorem kit_tuple {K : PySem.W.Frag} (d : PyData) : PySem.W.kitOne K (.type (tyN d)) (.type "tuple") = some (match d with | .tuple _ => true | _ => false) := by
  cases d <;> first | rfl | decide +kernel | kernel_rfl
theorem kit_int {K : PySem.W.Frag} (d : PyData) : PySem.W.kitOne K (.type (tyN d)) (.type "int") = some (match d with | .int _ => true | .bool _ => true | _ => false) := by
  cases d <;> first | rfl | decide +kernel | kernel_rfl
theorem kit_bool {K : PySem.W.Frag} (d : PyData) : PySem.W.kitOne K (.type (tyN d)) (.type "bool") = some (match d with | .bool _ => true | _ => false) := by
  cases d <;> first | rfl | decide +kernel | kernel_rfl
/-- repr of any such data: without dicts, or an empty dict itself -/
def ShowOk (d : PyData) : Prop := (∃ k n, Sm k n d ∧ k ≤ 64 ∧ n ≤ 1000000) ∨ d = .dict []
section
variable {X : Cx}
theorem call_reprX {K : PySem.W.Frag} (hgu : X.A.guards = some []) (hu : X.A.units + 66 < cLine) (e : X.K = K := by rfl) : CallR X (.builtin "repr") (fun xs H Q => ∃ (x : V) (d : PyData), xs = [x] ∧ DA H x d ∧ ShowOk d ∧ Q (.str d.shown) H) := by
  subst e
  intro pins s σ H xs us Q I r h
  obtain ⟨x, d, rfl, hd, ok, q⟩ := h
  rcases ok with ⟨k, n, sm, hk, hn⟩ | rfl
  · exact call_reprA hgu hu pins s σ H _ us Q I r ⟨x, d, k, n, rfl, hd.dp (PyData.hasDict_of_canLay _ sm.lay), sm, hk, hn, q⟩
  · cases hd with
    | @dct a ha =>
      obtain ⟨u, rfl, rx⟩ := vals1 r
      cases rx
      obtain ⟨_, ns, vs, rv, o, es, ep, ho, hx, hd, hks, hps, _⟩ := (show ObjOk X.prog X.w H s.heap a (.dK []) from I.hok a _ ha)
      cases rv
      have he : es.toList = [] := by cases he : es.toList with
        | nil => rfl
        | cons x xs => rw [he] at hps; cases hps
      have rd : Reads s.heap (.ref a) (.dict []) (a :: [] ++ []) := by
        refine .dict ho hx.1 hd ?_ ?_ <;> (rw [he]; exact .nil)
      exact repr_of_reads' rd (by decide +kernel) (fun _ m => by
        have e : sysModules = a := by simpa using m
        rw [← e] at ns; simp at ns) hgu (by show _ + 2 < _; omega) (fun _ _ z => z) (fun h' u tk k => ⟨.str (PyData.dict []).shown, H, I.kept (t' := tk) k, ⟨_, rfl⟩, q⟩) (by decide +kernel)
end
/-! ### small values -/
def smallD : Nat → PyData → Bool
  | 0, .tuple _ => false
  | n + 1, .tuple ds => decide (ds.length ≤ 60) && ds.all (smallD n)
  | _, .none => true
  | _, .int i => decide (-9999 ≤ i) && decide (i ≤ 9999)
  | _, _ => false
def isInt : PyData → Bool
  | .int _ => true
  | _ => false
def spWholeD : Sp := fun vs H Q _ => ∃ v d, vs = [v] ∧ DA H v d ∧ Q (.bl (isInt d)) H
def spBelowD : Sp := fun vs H Q _ => ∃ (v : V) (d : PyData) (n : Int), vs = [v, .int n] ∧ DA H v d ∧ Q (.bl (match d with | .int i => decide (0 ≤ i ∧ i < n) | _ => false)) H
def spSmD (n : Nat) : Sp := fun vs H Q _ => ∃ (v : V) (d : PyData) (deep : Nat), vs = [v, .int deep] ∧ DA H v d ∧ deep < n ∧ ∀ H', Same H H' → Q (.bl (smallD deep d)) H'
def spSmallD : Sp := fun vs H Q _ => ∃ (v : V) (d : PyData), vs = [v] ∧ DA H v d ∧ ∀ H', Same H H' → Q (.bl (smallD 12 d)) H'
end Fp
namespace Fp
open PySem PySem.Spec PyProof.Rows L2
theorem DA.kind {K : PySem.W.Frag} {H : Hp} {v : V} {d : PyData} (h : DA H v d) : KindV K H v (isInt d) := by
  cases h with
  | non => exact .non
  | bl b => exact .bl b
  | int i => exact .int i
  | str z => exact .str z
  | tup h t => exact .tup (.base (.tup h))
  | lst h t => exact .lst (.base (.lst h))
  | dct h => exact .dct (.base (.dK h))
theorem DA.noneQ {H : Hp} {v : V} {d : PyData} (h : DA H v d) : decide (v = .non) = (match d with | .none => true | _ => false) := by
  cases h <;> first | rfl | exact decide_eq_false (fun z => by cases z)
theorem small_none (n : Nat) : smallD n .none = true := by cases n <;> rfl
theorem small_bl (n : Nat) (b : Bool) : smallD n (.bool b) = false := by cases n <;> rfl
theorem small_str (n : Nat) (z : Str) : smallD n (.str z) = false := by cases n <;> rfl
theorem small_lst (n : Nat) (z : List PyData) : smallD n (.list z) = false := by cases n <;> rfl
theorem small_dct (n : Nat) (z : List (PyData × PyData)) : smallD n (.dict z) = false := by cases n <;> rfl
theorem small_int (n : Nat) (i : Int) : smallD n (.int i) = (decide (-9999 ≤ i) && decide (i ≤ 9999)) := by cases n <;> rfl
section
variable {P : Program} {w : World} {K : PySem.W.Frag} {mg : Str → Option Value} {base : Heap} {f : Addr} {fd : FuncData} {C CE : Addr}
theorem ok_small_withinD {n : Nat} (F : Fun K "is_small_within" "is_small_within" s_is_small_within f fd) (T : PTx mg) (G_is_whole : Fd P w K mg base CX0 "is_whole" 1 ["value"] (spWholeA K)) (G_is_small_within : Fd P w K mg base CX0 "is_small_within" (n + 1) ["value", "deep"] (spSmD n)) : FnOk P w K mg base CX0 (n + 2) f fd ["value", "deep"] (spSmD (n + 1)) := by
  refine F.ok sc_is_small_within (fun vs H Q E h => ?_) (fun cdv A outer s H vs Q E hr h => ?_)
  · obtain ⟨v, d, deep, rfl, _⟩ := h
    rfl
  obtain ⟨v, d, deep, rfl, hv, hd, k⟩ := h
  have hr1 : Room 1 _ := hr.mono (by omega)
  refine ⟨_, (pss_cons (ps_if (pt_val (pe_callB call_isi rfl T.isinstance (by decide +kernel) (pa_cons (pv 0) (pa_cons (pe_bltn (v := .ty "tuple") rfl T.tuple boot_tuple rfl) pa_nil)))) (pss_cons (ps_if (PW.pt (pw_or (pt_cmpR op_eq (pv 1) pe_int (nomark _)) (pw_or1 (pt_cmpR op_gt (pe_callB call_len rfl T.len (by decide +kernel) (pa_cons (pv 0) pa_nil)) (pe_cI T.c_MOST_ENTRIES) (nomark _))))) (pss_one (ps_ret pe_bl)) pss_nil)
  (pss_one (ps_ret (pe_callB (cr_all rfl) rfl T.all (by decide +kernel) (pa_cons (pe_lc (own := [("thing", 2)]) (g := (gName 2)) (tt := tYes) rfl sc_is_small_within.nd (pi_tup (pv 0)) (blkOk_by (own := [("thing", 2)]) (N := ["value", "deep", "thing"]) (sc := defScope s_is_small_within) (by decide +kernel)) (fun _ _ _ _ _ => (pg_name (i := 2) sc_is_small_within.nd rfl (Or.inl rfl))) (fun _ _ _ _ _ => pts_nil) (fun _ _ _ _ _ => (pe_fd G_is_small_within hr rfl (pa_cons (pv 2) (pa_cons (pe_op op_sub (pv 1) pe_int) pa_nil))))) pa_nil))))) pss_nil)
  (pss_one (ps_ret (pe_or (pe_cmpR op_isN (pv 0) pe_non (nomark _)) (pe_one (pe_and (pe_fd G_is_whole hr1 rfl (pa_cons (pv 0) pa_nil)) (pe_one (pe_chain op_le op_le (pe_un un_neg (pe_cI T.c_MOST_INTEGER)) (pv 0) (pe_cI T.c_MOST_INTEGER))))))))), ?_⟩
  have nt : ∀ b, (∀ ds, d ≠ .tuple ds) → d ≠ .none → isInt d = false → smallD deep d = false → PySem.W.kitOne K (.type (tyN d)) (.type "tuple") = some b → b = false := by
    intro b h1 _ _ _ h2
    rw [kit_tuple] at h2
    cases d <;> first | (cases h2; rfl) | exact absurd rfl (h1 _)
  cases hv with
  | non =>
    refine ⟨_, rfl, _, _, _, _, false, rfl, .ty "tuple", .base .non, by first | rfl | decide +kernel | kernel_rfl, _, rfl, iteF ?_⟩
    exact ⟨_, rfl, rfl, _, rfl, iteT (by have := k H (Same.refl _); rwa [small_none] at this)⟩
  | int i =>
    refine ⟨_, rfl, _, _, _, _, false, rfl, .ty "tuple", .base (.int i), by first | rfl | decide +kernel | kernel_rfl, _, rfl, iteF ?_⟩
    refine ⟨_, rfl, rfl, _, rfl, iteF ⟨_, rfl, _, _, rfl, .int i, _, rfl, iteT ?_⟩⟩
    have k0 := k H (Same.refl _)
    rw [small_int] at k0
    refine ⟨_, rfl, _, rfl, _, _, rfl, rfl, _, rfl, ite2 (fun c => ?_) (fun c => ?_)⟩
    · refine ⟨_, _, rfl, rfl, ?_⟩
      rw [show decide (-9999 ≤ i) = true from c, Bool.true_and] at k0
      exact k0
    · rw [show decide (-9999 ≤ i) = false by simpa using c, Bool.false_and] at k0
      exact k0
  | bl b =>
    refine ⟨_, rfl, _, _, _, _, false, rfl, .ty "tuple", .base (.bl b), by first | rfl | decide +kernel | kernel_rfl, _, rfl, iteF ?_⟩
    refine ⟨_, rfl, rfl, _, rfl, iteF ⟨_, rfl, _, _, rfl, .bl b, _, rfl, iteF ?_⟩⟩
    have := k H (Same.refl _); rwa [small_bl] at this
  | str b =>
    refine ⟨_, rfl, _, _, _, _, false, rfl, .ty "tuple", .base (.str b), by first | rfl | decide +kernel | kernel_rfl, _, rfl, iteF ?_⟩
    refine ⟨_, rfl, rfl, _, rfl, iteF ⟨_, rfl, _, _, rfl, .str b, _, rfl, iteF ?_⟩⟩
    have := k H (Same.refl _); rwa [small_str] at this
  | lst ha t =>
    refine ⟨_, rfl, _, _, _, _, false, rfl, .ty "tuple", .base (.lst ha), by first | rfl | decide +kernel | kernel_rfl, _, rfl, iteF ?_⟩
    refine ⟨_, rfl, rfl, _, rfl, iteF ⟨_, rfl, _, _, rfl, .lst (.base (.lst ha)), _, rfl, iteF ?_⟩⟩
    have := k H (Same.refl _); rwa [small_lst] at this
  | dct ha =>
    refine ⟨_, rfl, _, _, _, _, false, rfl, .ty "tuple", .base (.dK ha), by first | rfl | decide +kernel | kernel_rfl, _, rfl, iteF ?_⟩
    refine ⟨_, rfl, rfl, _, rfl, iteF ⟨_, rfl, _, _, rfl, .dct (.base (.dK ha)), _, rfl, iteF ?_⟩⟩
    have := k H (Same.refl _); rwa [small_dct] at this
  | @tup a xs ds ha hxs =>
    refine ⟨_, rfl, _, _, _, _, true, rfl, .ty "tuple", .base (.tup ha), by first | rfl | decide +kernel | kernel_rfl, _, rfl, iteT ?_⟩
    refine ⟨_, rfl, rfl, _, rfl, ite2 (fun c => ?_) (fun c => ?_)⟩
    · have e0 : deep = 0 := by have := of_decide_eq_true c; injection this with z; omega
      subst e0
      exact k H (Same.refl _)
    obtain ⟨m, rfl⟩ : ∃ m, deep = m + 1 := by
      cases deep with
      | zero => simp at c
      | succ m => exact ⟨m, rfl⟩
    refine ⟨_, rfl, _, xs.length, rfl, .inr ⟨xs, .of ha, rfl⟩, _, _, rfl, rfl, _, rfl, ite2 (fun c2 => ?_) (fun c2 => ?_)⟩
    · have h60 : ¬ ds.length ≤ 60 := by have := of_decide_eq_true c2; rw [hxs.len] at this; omega
      have k0 := k H (Same.refl _)
      rw [show smallD (m + 1) (.tuple ds) = (decide (ds.length ≤ 60) && ds.all (smallD m)) from rfl, decide_eq_false h60, Bool.false_and] at k0
      exact k0
    have h60 : ds.length ≤ 60 := by have z : (xs.length : Int) ≤ 60 := (by simpa using c2); have := hxs.len; omega
    have hl3 : xs.length ≤ 60 := by rw [hxs.len]; exact h60
    refine ⟨_, rfl, a, rfl, ⟨_, .of ha⟩, fun D hD => ?_⟩
    refine lc_tup (K := K) (a := a) (xs := xs) (fun i H' => Same H H' ∧ H' D = some (.lst (((ds.take i).map (smallD m)).map V.bl))) ⟨same_new hD _, upd_same⟩ (fun i H' _ z => .of (z.1 _ _ ha)) ?_ ?_
    · rintro i x H2 hx ⟨g2, hD2⟩
      obtain ⟨it, hit, hI⟩ := hxs.at_ hx
      refine ⟨rfl, _, rfl, _, rfl, _, _, rfl, rfl, x, it, m, by simp, hI.ext (fun b o q _ => g2 b o q), by omega, fun H3 g3 => ?_⟩
      have hi := get_lt hit
      refine ⟨_, g3 _ _ hD2, szt (by rw [List.length_map, List.length_map, List.length_take]; omega), fun b o q => ?_, ?_⟩
      · rw [upd_ne (ne_of_none q hD)]
        exact g3 _ _ (g2 b o q)
      · rw [upd_same, List.take_succ, hit]
        simp
    · rintro H2 ⟨g2, hD2⟩
      rw [hxs.len, List.take_length] at hD2
      refine ⟨D, ds.map (smallD m), rfl, .of hD2, ?_⟩
      have k0 := k H2 g2
      rw [show smallD (m + 1) (.tuple ds) = (decide (ds.length ≤ 60) && ds.all (smallD m)) from rfl, decide_eq_true h60, Bool.true_and] at k0
      rw [List.all_map]
      exact k0
theorem all_smallD (F : Fun K "is_small_within" "is_small_within" s_is_small_within f fd) (b : Binds K fd ["value", "deep"] []) (m : mg "is_small_within" = some (.ref f)) (T : PTx mg) (G_is_whole : Fd P w K mg base CX0 "is_whole" 1 ["value"] (spWholeA K)) : ∀ n : Nat, Fd P w K mg base CX0 "is_small_within" (n + 1) ["value", "deep"] (spSmD n)
  | 0 => ⟨f, fd, m, F.kp, b, (none0 (fun vs H Q E h => by obtain ⟨v, d, m, _, _, h, _⟩ := h; omega)).mono (Nat.zero_le _)⟩
  | n + 1 => ⟨f, fd, m, F.kp, b, ok_small_withinD F T G_is_whole (all_smallD F b m T G_is_whole n)⟩
theorem ok_small_valueD (F : Fun K "is_small_value" "is_small_value" s_is_small_value f fd) (T : PTx mg) (G_is_small_within : Fd P w K mg base CX0 "is_small_within" 14 ["value", "deep"] (spSmD 13)) : FnOk P w K mg base CX0 15 f fd ["value"] spSmallD := by
  refine F.ok sc_is_small_value (fun vs H Q E h => ?_) (fun cdv A outer s H vs Q E hr h => ?_)
  · obtain ⟨v, d, rfl, _⟩ := h
    rfl
  obtain ⟨v, d, rfl, hv, k⟩ := h
  refine ⟨_, (pss_one (ps_ret (pe_fd G_is_small_within (hr.mono (by first | decide | omega)) rfl (pa_cons (pv 0) (pa_cons (pe_cI T.c_MOST_DEEP) pa_nil))))), ?_⟩
  exact ⟨_, rfl, v, d, 12, rfl, hv, by decide, k⟩
end
end Fp
namespace Fp
open PySem PySem.Spec PyProof.Rows L2
def spComeV (C CE : Addr) : Sp := fun vs H Q E => ∃ (d : Addr) (p : Nat) (x : V) (xd : PyData) (s : DS), vs = [.ref d, .int p, x] ∧ DoorAt C H d s ∧ p < s.lev.length ∧ DA H x xd ∧ smallD 12 xd = false ∧ ∀ H' e, Same H H' → H' e = none → E (.ref CE) (some e) (upd H' e (.xd [("value", x)]))
def spComeCD (C CE : Addr) : Sp := fun vs H Q E => ∃ (d : Addr) (p : Nat) (x : V) (xd : PyData) (s : DS), vs = [.ref d, .int p, x] ∧ DoorAt C H d s ∧ p < s.lev.length ∧ s.cm p ≠ none ∧ DA H x xd ∧ smallD 12 xd = true ∧ ∀ H' e, Same H H' → H' e = none → E (.ref CE) (some e) (upd H' e (.xd [("value", .int p)]))
def spComeF (C : Addr) : Sp := fun vs H Q _ => ∃ (d : Addr) (p : Nat) (x : V) (xd : PyData) (s : DS), vs = [.ref d, .int p, x] ∧ DoorAt C H d s ∧ p < s.lev.length ∧ s.cm p = none ∧ DA H x xd ∧ smallD 12 xd = true ∧ s.deeds.length < 100000 ∧
  ∀ H' dx a b c e f cv q, But [d] H H' → H' d = some (.ins C dx (dfl (s.lev.length : Nat) a b c e f)) → TF H' a cv → cv[p]? = some (.ref q) → H' q = some (.tup [x]) → Q .non H'
section
variable {P : Program} {w : World} {K : PySem.W.Frag} {mg : Str → Option Value} {base : Heap} {f : Addr} {fd : FuncData} {C CE : Addr}
theorem ok_Door_comeV (F : Fun K "come" "Door.come" s_Door_come f fd) (hC : DC K C) (hE : ErrC P w K mg base "BadValue" CE) (G_exchanged : Fd P w K mg base CX0 "exchanged" 1 ["row", "at", "thing"] (spExch K)) (G_is_small_value : Fd P w K mg base CX0 "is_small_value" 15 ["value"] spSmallD) (M_check_player : Md P w K mg base CX0 C "check_player" 3 ["self", "player"] (spCheck C)) : FnOk P w K mg base (L2.CX P w) 16 f fd ["self", "player", "value"] (spComeV C CE) := by
  refine F.okX sc_Door_come (fun vs H Q E h => ?_) (fun cdv A outer s0 H vs Q E hr h => ?_)
  · obtain ⟨d, v, x, xd, s, rfl, _⟩ := h
    rfl
  obtain ⟨d, p, x, xd, s, rfl, hD, hp, hg, hsm, k⟩ := h
  refine ⟨_, (pss_cons (ps_expr (pe_md (pv 0) hC.cl M_check_player (hr.mono (by first | decide | omega)) (pa_cons (pv 1) pa_nil)))
  (pss_cons (ps_if (pt_not (pt_val (pe_fd G_is_small_value (hr.mono (by first | decide | omega)) rfl (pa_cons (pv 2) pa_nil)))) (pss_one (ps_raiseE rfl (takes_of rfl rfl rfl rfl) hE (hr.mono (by decide)) rfl (pv 2))) pss_nil)
  (pss_cons (ps_if (pt_cmpR op_notN (pe_ix ix_tup (pe_fld (pv 0) rfl) (pv 1) (fun _ _ => rfl)) pe_non (nomark _)) (pss_one (ps_no)) pss_nil)
  (pss_cons (ps_fld (pv 0) (pe_fd G_exchanged (hr.mono (by first | decide | omega)) rfl (pa_cons (pe_fld (pv 0) rfl) (pa_cons (pv 1) (pa_cons (pe_tup (pa_cons (pv 2) pa_nil)) pa_nil)))) rfl)
  (pss_one (ps_fld (pv 0) (pe_mid (pe_op op_catA (pe_fld (pv 0) rfl) (pe_tup (pa_cons (pe_tup (pa_cons pe_str (pa_cons (pv 1) (pa_cons (pv 2) pa_nil)))) pa_nil)))) rfl)))))), ?_⟩
  obtain ⟨dx, a, b, c, e, f', cv, hv, sv, dv, D⟩ := id hD
  refine ⟨_, rfl, d, dx, _, rfl, D.obj, no_check, _, rfl, d, p, s, rfl, hD, hp, ?_⟩
  refine ⟨_, rfl, x, xd, rfl, hg, fun H1 g1 => ⟨_, rfl, ?_⟩⟩
  rw [hsm]
  exact iteT ⟨_, rfl, fun e he => k H1 e g1 he⟩
theorem ok_Door_comeCD (F : Fun K "come" "Door.come" s_Door_come f fd) (hC : DC K C) (hE : ErrC P w K mg base "CameIn" CE) (G_exchanged : Fd P w K mg base CX0 "exchanged" 1 ["row", "at", "thing"] (spExch K)) (G_is_small_value : Fd P w K mg base CX0 "is_small_value" 15 ["value"] spSmallD) (M_check_player : Md P w K mg base CX0 C "check_player" 3 ["self", "player"] (spCheck C)) : FnOk P w K mg base (L2.CX P w) 16 f fd ["self", "player", "value"] (spComeCD C CE) := by
  refine F.okX sc_Door_come (fun vs H Q E h => ?_) (fun cdv A outer s0 H vs Q E hr h => ?_)
  · obtain ⟨d, v, x, xd, s, rfl, _⟩ := h
    rfl
  obtain ⟨d, p, x, xd, s, rfl, hD, hp, hc, hg, hsm, k⟩ := h
  refine ⟨_, (pss_cons (ps_expr (pe_md (pv 0) hC.cl M_check_player (hr.mono (by first | decide | omega)) (pa_cons (pv 1) pa_nil)))
  (pss_cons (ps_if (pt_not (pt_val (pe_fd G_is_small_value (hr.mono (by first | decide | omega)) rfl (pa_cons (pv 2) pa_nil)))) (pss_one (ps_no)) pss_nil)
  (pss_cons (ps_if (pt_cmpR op_notN (pe_ix ix_tup (pe_fld (pv 0) rfl) (pv 1) (fun _ _ => rfl)) pe_non (nomark _)) (pss_one (ps_raiseE rfl (takes_of rfl rfl rfl rfl) hE (hr.mono (by decide)) rfl (pv 1))) pss_nil)
  (pss_cons (ps_fld (pv 0) (pe_fd G_exchanged (hr.mono (by first | decide | omega)) rfl (pa_cons (pe_fld (pv 0) rfl) (pa_cons (pv 1) (pa_cons (pe_tup (pa_cons (pv 2) pa_nil)) pa_nil)))) rfl)
  (pss_one (ps_fld (pv 0) (pe_mid (pe_op op_catA (pe_fld (pv 0) rfl) (pe_tup (pa_cons (pe_tup (pa_cons pe_str (pa_cons (pv 1) (pa_cons (pv 2) pa_nil)))) pa_nil)))) rfl)))))), ?_⟩
  obtain ⟨dx, a, b, c, e, f', cv, hv, sv, dv, D⟩ := id hD
  have W := D.wf
  refine ⟨_, rfl, d, dx, _, rfl, D.obj, no_check, _, rfl, d, p, s, rfl, hD, hp, ?_⟩
  refine ⟨_, rfl, x, xd, rfl, hg, fun H1 g1 => ⟨_, rfl, ?_⟩⟩
  rw [hsm]
  refine iteF ?_
  have D1 := D.mono (.of g1) (fun o q => g1 _ _ q) (by rw [g1 _ _ D.own]; exact D.own.symm)
  obtain ⟨xc, hxc, oc⟩ := pr_at D1.cameP (W.acm hp)
  refine ⟨_, rfl, d, C, dx, _, _, rfl, D1.obj, hC.cl, hC.nC, d_came, _, rfl, a, cv, _, _, rfl, rfl, D1.came.sq, atI_nat hxc, rfl, _, rfl, ?_⟩
  rw [oc.is]
  cases hcm : s.cm p with
  | none => exact absurd hcm hc
  | some y => exact iteT ⟨_, rfl, fun e he => k H1 e g1 he⟩
theorem ok_Door_comeF (F : Fun K "come" "Door.come" s_Door_come f fd) (hC : DC K C) (G_exchanged : Fd P w K mg base CX0 "exchanged" 1 ["row", "at", "thing"] (spExch K)) (G_is_small_value : Fd P w K mg base CX0 "is_small_value" 15 ["value"] spSmallD) (M_check_player : Md P w K mg base CX0 C "check_player" 3 ["self", "player"] (spCheck C)) : FnOk P w K mg base CX0 16 f fd ["self", "player", "value"] (spComeF C) := by
  refine F.ok sc_Door_come (fun vs H Q E h => ?_) (fun cdv A outer s H vs Q E hr h => ?_)
  · obtain ⟨d, p, v, dv0, s, rfl, _⟩ := h
    rfl
  obtain ⟨d, p, v, dv0, s, rfl, hD, hp, hc, hg, hsm, hdl, k⟩ := h
  refine ⟨_, (pss_cons (ps_expr (pe_md (pv 0) hC.cl M_check_player (hr.mono (by first | decide | omega)) (pa_cons (pv 1) pa_nil)))
  (pss_cons (ps_if (pt_not (pt_val (pe_fd G_is_small_value (hr.mono (by first | decide | omega)) rfl (pa_cons (pv 2) pa_nil)))) (pss_one (ps_no)) pss_nil)
  (pss_cons (ps_if (pt_cmpR op_notN (pe_ix ix_tup (pe_fld (pv 0) rfl) (pv 1) (fun _ _ => rfl)) pe_non (nomark _)) (pss_one (ps_no)) pss_nil)
  (pss_cons (ps_fld (pv 0) (pe_fd G_exchanged (hr.mono (by first | decide | omega)) rfl (pa_cons (pe_fld (pv 0) rfl) (pa_cons (pv 1) (pa_cons (pe_tup (pa_cons (pv 2) pa_nil)) pa_nil)))) rfl)
  (pss_one (ps_fld (pv 0) (pe_mid (pe_op op_catA (pe_fld (pv 0) rfl) (pe_tup (pa_cons (pe_tup (pa_cons pe_str (pa_cons (pv 1) (pa_cons (pv 2) pa_nil)))) pa_nil)))) rfl)))))), ?_⟩
  have hD0 := hD
  obtain ⟨dx, a, b, c, e, f, cv, hv, sv, dv, D⟩ := hD0
  have W := D.wf
  refine ⟨_, rfl, d, dx, _, rfl, D.obj, no_check, _, rfl, d, p, s, rfl, hD, hp, ?_⟩
  refine ⟨_, rfl, v, dv0, rfl, hg, fun H1 g1 => ⟨_, rfl, ?_⟩⟩
  rw [hsm]
  refine iteF ?_
  have D1 := D.mono (.of g1) (fun o q => g1 _ _ q) (by rw [g1 _ _ D.own]; exact D.own.symm)
  obtain ⟨xc, hxc, oc⟩ := pr_at D1.cameP (W.acm hp)
  refine ⟨_, rfl, d, C, dx, _, _, rfl, D1.obj, hC.cl, hC.nC, d_came, _, rfl, a, cv, _, _, rfl, rfl, D1.came.sq, atI_nat hxc, rfl, _, rfl, ?_⟩
  rw [oc.is, hc]
  refine iteF ?_
  have hlen : cv.length = s.lev.length := by rw [pr_len D1.cameP, W.lc]
  refine ⟨_, rfl, d, C, dx, _, _, rfl, D1.obj, hC.cl, hC.nC, d_came, _, rfl, _, rfl, szl (by show 1 ≤ _; decide), fun t0 n0 => ?_⟩
  have g0 := same_new n0 (.tup [v])
  refine ⟨a, cv, p, _, rfl, D1.came.sq.ext g0, by rw [hlen]; exact hp, by rw [hlen]; have := W.n5; omega, fun r H2 g2 h2 => ?_⟩
  refine ⟨_, rfl, d, C, dx, _, rfl, g2 _ _ (g0 _ _ D1.obj), hC.cl, hC.nC, by show 6 < 1000; decide, ?_⟩
  rw [dp_came]
  have hobj2 := g2 _ _ (g0 _ _ D1.obj)
  have ndx : dx ≠ d := fun z => by have := D.obj; rw [← z, D.own] at this; cases this
  have ndr : r ≠ d := fun z => by obtain ⟨o, z2, _⟩ := h2; rw [← z, z2] at hobj2; cases hobj2
  have tk : TK H1 (upd H2 d (.ins C dx (dfl (s.lev.length : Nat) r b c e f))) := ((TK.of g0).trans (TK.of g2)).trans (.put hobj2 fun z => z)
  have b3 := (But.of (S := [d]) ((g1.trans g0).trans g2)).put (o := .ins C dx (dfl (s.lev.length : Nat) r b c e f)) (p := d) (by simp)
  have h2' : TF (upd H2 d (.ins C dx (dfl (s.lev.length : Nat) r b c e f))) r (cv.set p (.ref t0)) := by obtain ⟨o, z2, z3⟩ := h2; exact ⟨o, by rw [upd_ne ndr]; exact z2, z3⟩
  have ht0 : H2 t0 = some (.tup [v]) := g2 _ _ upd_same
  have ht0' : upd H2 d (.ins C dx (dfl (s.lev.length : Nat) r b c e f)) t0 = some (.tup [v]) := by rw [upd_ne (fun z => by rw [z, hobj2] at ht0; cases ht0)]; exact ht0
  refine ⟨fun y H' => ∃ q t1, y = .ref q ∧ Same (upd H2 d (.ins C dx (dfl (s.lev.length : Nat) r b c e f))) H' ∧ H' q = some (.tup (dv ++ [.ref t1])) ∧ H' t1 = some (.tup [.str "come", .int p, v]), ?_, ?_⟩
  · refine ⟨_, rfl, d, C, dx, _, _, rfl, upd_same, hC.cl, hC.nD, d_deeds, _, rfl, _, rfl, szl (by show 3 ≤ _; decide), fun t1 n1 => ?_⟩
    refine ⟨szl (by show 1 ≤ _; decide), fun t2 n2 => ?_⟩
    have ga := same_new n1 (.tup [.str "come", .int p, v])
    have gb := same_new n2 (.tup [.ref t1])
    have h1 := gb _ _ (show upd (upd H2 d (.ins C dx (dfl (s.lev.length : Nat) r b c e f))) t1 (.tup [.str "come", .int p, v]) t1 = _ from upd_same)
    refine ⟨f, t2, dv, _, rfl, rfl, .of (gb _ _ (ga _ _ (tk.t D1.deeds))), .of upd_same, ?_, fun z => ?_, fun _ z => ?_, fun _ _ q nq => ?_⟩
    · rw [pr_len D1.deedsP]; exact szl (by show s.deeds.length + 1 ≤ _; omega)
    · exact ⟨t2, t1, rfl, ga.trans gb, by rw [z]; exact upd_same, h1⟩
    · cases z
    · exact ⟨q, t1, rfl, (ga.trans gb).trans (same_new nq _), upd_same, same_new nq _ _ _ h1⟩
  rintro y H3 ⟨f2, t1, rfl, g3, hf2, ht1⟩
  refine ⟨_, rfl, d, C, dx, _, rfl, g3 _ _ upd_same, hC.cl, hC.nD, by show 6 < 1000; decide, ?_⟩
  rw [dp_deeds]
  have hobj3 := g3 _ _ (show upd H2 d (.ins C dx (dfl (s.lev.length : Nat) r b c e f)) d = _ from upd_same)
  have b4 := (b3.trans (.of g3)).put (o := .ins C dx (dfl (s.lev.length : Nat) r b c e f2)) (p := d) (by simp)
  have tk2 : TK (upd H2 d (.ins C dx (dfl (s.lev.length : Nat) r b c e f))) (upd H3 d (.ins C dx (dfl (s.lev.length : Nat) r b c e f2))) := (TK.of g3).trans (.put hobj3 fun z => z)
  have tk3 := tk.trans tk2
  have ne : ∀ {q : Addr} {xs : List V}, H3 q = some (.tup xs) → q ≠ d := fun h z => by rw [← z, h] at hobj3; cases hobj3
  refine k _ dx r b c e f2 (cv.set p (.ref t0)) t0 b4 upd_same (tk2.f h2') ?_ (tk2.t ht0')
  rw [List.getElem?_set_self (by rw [hlen]; exact hp)]
end
end Fp
namespace Fp
open PySem PySem.Spec PyProof.Rows L2 LamX
/-- what a call without arguments does: it raises, so -/
def Raises (sp : Hp → VK → XK → Prop) (H : Hp) (R : XK) : Prop := ∀ Q E, (∀ cls d G, R cls d G → E cls d G) → sp H Q E
/-- a call that raises, caught: the error is kept, told in a pair -/
def spCaught (P : Program) (w : World) (K : PySem.W.Frag) (mg : Str → Option Value) (base : Heap) (k : Nat) (CH : Addr) : Sp := fun vs H Q _ => ∃ (f : Addr) (sp : Hp → VK → XK → Prop) (R : XK), vs = [.ref f] ∧ CloOk P w K mg base k f sp ∧
  Raises sp H R ∧ ∀ cls d G, R cls d G → PySem.W.exmOne K cls (.ref CH) = some true ∧ ∀ a t, a ≠ t → G a = none → G t = none → Q (.ref t) (upd (upd G t (.tup [.ref a, .non])) a (ErrO cls d a))
theorem takes_no {X : Cx} : Takes X (fun _ _ _ _ => False) := fun u s' ⟨_, _, _, _, _, _, _, _, _, _, _, _, _, _, _, _, w⟩ => w.elim
section
variable {P : Program} {w : World} {K : PySem.W.Frag} {mg : Str → Option Value} {base : Heap} {f : Addr} {fd : FuncData} {C CH : Addr}
abbrev s_law_caught : Stmt := top 27
theorem sc_law_caught : FnScope ["call", "act", "caught"] ["call"] (defScope s_law_caught) := ⟨rfl, rfl, rfl, by decide +kernel, rfl, by decide +kernel, by decide +kernel⟩
theorem ok_law_caught (F : Fun K "_law_caught" "_law_caught" s_law_caught f fd) (hH : mg "HandError" = some (.ref CH)) : FnOk P w K mg base CX0 18 f fd ["call"] (spCaught P w K mg base 17 CH) := by
  refine F.ok sc_law_caught (fun vs H Q E h => ?_) (fun cdv A outer s H vs Q E hr h => ?_)
  · obtain ⟨g, sp, R, rfl, _⟩ := h
    rfl
  obtain ⟨g, sp, R, rfl, hc, hR, k⟩ := h
  refine ⟨_, (pss_cons (ps_try_kept (i := 2) (c := .ref CH) rfl rfl rfl sc_law_caught.nd rfl rfl ⟨rfl, by decide, .inl hH⟩ takes_no (fun W pn xe tk po => pss_one (ps_set (i := 1) sc_law_caught.nd rfl (Or.inl rfl) (show PE _ _ (tCallClo P w K mg base 0 17 (WE W)) from pe_callClo (i := 0) (E := WE W) hr rfl (.inl rfl) (passAt tk))))
    (fun a oe cls d pn z ff => pss_one (ps_ret (pe_tup (pa_cons (pv 2) (pa_cons pe_non pa_nil))))))
    (pss_one (ps_ret (pe_tup (pa_cons pe_non (pa_cons (pv 1) pa_nil)))))), ?_⟩
  refine ⟨g, sp, rfl, hc, hR _ _ fun cls d G r => ?_⟩
  obtain ⟨e, q⟩ := k cls d G r
  refine ⟨true, e, fun _ a ha => ?_, fun z => by cases z⟩
  refine ⟨_, rfl, ?_⟩
  first | exact fun t ht z => q a t (fun e => by rw [e, upd_same] at z; cases z) ha ht | refine ⟨szl (by show 2 ≤ _; decide), fun t ht z => q a t (fun e => by rw [e, upd_same] at z; cases z) ha ht⟩
end
end Fp
namespace Fp
open PySem PySem.Spec PyProof.Rows L2 LamX
/-- the five errors, and the one below which they stand -/
structure E5 where
  m : Addr
  h : Addr
  v : Addr
  c : Addr
  n : Addr
def E5.at (e : E5) : Nat → Addr
  | 0 => e.m | 1 => e.h | 2 => e.v | 3 => e.c | _ => e.n
def wordOf : Nat → Str
  | 0 => "many" | 1 => "hand" | 2 => "value" | 3 => "came" | _ => "not come"
structure ErrsC (K : PySem.W.Frag) (mg : Str → Option Value) (e : E5) (CH : Addr) : Prop where
  a0 : mg "BadMany" = some (.ref e.m)
  a1 : mg "BadHand" = some (.ref e.h)
  a2 : mg "BadValue" = some (.ref e.v)
  a3 : mg "CameIn" = some (.ref e.c)
  a4 : mg "NotCome" = some (.ref e.n)
  kit : ∀ i j, i < 5 → j < 5 → PySem.W.kitOne K (.ref (e.at i)) (.ref (e.at j)) = some (decide (i = j))
  exc : ∀ i, i < 5 → ExcC K (e.at i)
  xf : ∀ i, i < 5 → XfC K (e.at i)
  noV : ∀ i, i < 5 → PySem.W.findIn K (.ref (e.at i)) "value" = some none
  hand : ∀ i, i < 5 → PySem.W.exmOne K (.ref (e.at i)) (.ref CH) = some true
def spWord (e : E5) : Sp := fun vs H Q _ => ∃ (a dd : Addr) (i : Nat) (fs : List (Str × V)), vs = [.ref a] ∧ i < 5 ∧ H a = some (ErrO (.ref (e.at i)) (some dd) a) ∧ H dd = some (.xd fs) ∧ Q (.str (wordOf i)) H
section
variable {P : Program} {w : World} {K : PySem.W.Frag} {mg : Str → Option Value} {base : Heap} {f : Addr} {fd : FuncData} {C CH : Addr}
abbrev s_law_word : Stmt := top 36
theorem sc_law_word : FnScope ["error"] ["error"] (defScope s_law_word) := ⟨rfl, rfl, rfl, by decide +kernel, rfl, by decide +kernel, by decide +kernel⟩
theorem ok_law_word {e : E5} (F : Fun K "_law_word" "_law_word" s_law_word f fd) (T : LTx mg) (hi : mg "isinstance" = none) (hE : ErrsC K mg e CH) : FnOk P w K mg base CX0 1 f fd ["error"] (spWord e) := by
  refine F.ok sc_law_word (fun vs H Q E h => ?_) (fun cdv A outer s H vs Q E hr h => ?_)
  · obtain ⟨a, dd, i, fs, rfl, _⟩ := h
    rfl
  obtain ⟨a, dd, i, fs, rfl, h5, ha, hd, k⟩ := h
  refine ⟨_, (pss_cons (ps_if (pt_val (pe_callB call_isK rfl hi (by decide +kernel) (pa_cons (pv 0) (pa_cons (pe_glob rfl hE.a0 (v := .ref e.m) rfl) pa_nil)))) (pss_one (ps_ret pe_str)) pss_nil)
  (pss_cons (ps_if (pt_val (pe_callB call_isK rfl hi (by decide +kernel) (pa_cons (pv 0) (pa_cons (pe_glob rfl hE.a1 (v := .ref e.h) rfl) pa_nil)))) (pss_one (ps_ret pe_str)) pss_nil)
  (pss_cons (ps_if (pt_val (pe_callB call_isK rfl hi (by decide +kernel) (pa_cons (pv 0) (pa_cons (pe_glob rfl hE.a2 (v := .ref e.v) rfl) pa_nil)))) (pss_one (ps_ret pe_str)) pss_nil)
  (pss_cons (ps_if (pt_val (pe_callB call_isK rfl hi (by decide +kernel) (pa_cons (pv 0) (pa_cons (pe_glob rfl hE.a3 (v := .ref e.c) rfl) pa_nil)))) (pss_one (ps_ret pe_str)) pss_nil)
  (pss_one (ps_ret (pe_ifExp (pt_val (pe_callB call_isK rfl hi (by decide +kernel) (pa_cons (pv 0) (pa_cons (pe_glob rfl hE.a4 (v := .ref e.n) rfl) pa_nil)))) pe_str pe_str))))))), ?_⟩
  have X := hE.exc i h5
  have rr : ∀ (x : Addr) (u : Value), RelV (.ref x) u → u = .ref x := fun x u r => r
  refine ⟨_, rfl, a, _, dd, fs, _, _, _, rfl, ha, hd, X, rr _, hE.kit i 0 h5 (by decide), _, rfl, ite2 (fun c => ?_) (fun c => ?_)⟩
  · obtain rfl : i = 0 := of_decide_eq_true c
    exact k
  refine ⟨_, rfl, a, _, dd, fs, _, _, _, rfl, ha, hd, X, rr _, hE.kit i 1 h5 (by decide), _, rfl, ite2 (fun c => ?_) (fun c => ?_)⟩
  · obtain rfl : i = 1 := of_decide_eq_true c
    exact k
  refine ⟨_, rfl, a, _, dd, fs, _, _, _, rfl, ha, hd, X, rr _, hE.kit i 2 h5 (by decide), _, rfl, ite2 (fun c => ?_) (fun c => ?_)⟩
  · obtain rfl : i = 2 := of_decide_eq_true c
    exact k
  refine ⟨_, rfl, a, _, dd, fs, _, _, _, rfl, ha, hd, X, rr _, hE.kit i 3 h5 (by decide), _, rfl, ite2 (fun c => ?_) (fun c => ?_)⟩
  · obtain rfl : i = 3 := of_decide_eq_true c
    exact k
  refine ⟨_, rfl, a, _, dd, fs, _, _, _, rfl, ha, hd, X, rr _, hE.kit i 4 h5 (by decide), _, rfl, ite2 (fun c => ?_) (fun c => ?_)⟩
  · obtain rfl : i = 4 := of_decide_eq_true c
    exact k
  · simp at *
    omega
end
end Fp
namespace Fp
open PySem PySem.Spec PyProof.Rows L2 LamX
/-- refused by the very error, with the very value -/
def spRefused (P : Program) (w : World) (K : PySem.W.Frag) (mg : Str → Option Value) (base : Heap) (e : E5) : Sp := fun vs H Q _ => ∃ (f : Addr) (i : Nat) (v : V) (d : PyData) (sp : Hp → VK → XK → Prop) (R : XK), vs = [.ref f, .str (wordOf i), v] ∧ i < 5 ∧ DA H v d ∧ ShowOk d ∧ CloOk P w K mg base 17 f sp ∧ Raises sp H R ∧
  ∀ cls dd G, R cls dd G → ∃ e' v', cls = .ref (e.at i) ∧ dd = some e' ∧ G e' = some (.xd [("value", v')]) ∧ DA G v' d ∧ DA G v d ∧ ∀ H', Same G H' → Q (.bl true) H'
def spNested (n : Nat) : Sp := fun vs H Q _ => ∃ (deep : Nat), vs = [.int 1, .int deep] ∧ deep < n ∧ ∀ v d H', Same H H' → DA H' v d → d = (Nat.repeat (fun x => PyData.tuple [x]) deep (.int 1)) → Q v H'
section
variable {P : Program} {w : World} {K : PySem.W.Frag} {mg : Str → Option Value} {base : Heap} {f : Addr} {fd : FuncData} {C CH : Addr}
abbrev s_law_is_refused : Stmt := top 28
theorem sc_law_is_refused : FnScope ["call", "word", "value", "caught"] ["call", "word", "value"] (defScope s_law_is_refused) := ⟨rfl, rfl, rfl, by decide +kernel, rfl, by decide +kernel, by decide +kernel⟩
theorem ok_law_is_refused {e : E5} (F : Fun K "_law_is_refused" "_law_is_refused" s_law_is_refused f fd) (T : LTx mg) (hE : ErrsC K mg e CH) (G_law_caught : Fd P w K mg base CX0 "_law_caught" 18 ["call"] (spCaught P w K mg base 17 CH)) (G_law_word : Fd P w K mg base CX0 "_law_word" 1 ["error"] (spWord e)) : FnOkG P w K mg base CX0 19 f fd ["call", "word", "value"] (spRefused P w K mg base e) := by
  refine fun_okG F sc_law_is_refused (fun vs H Q E h => ?_) (fun cdv A outer s H vs Q E hr hgu h => ?_)
  · obtain ⟨g, i, v, d, sp, R, rfl, _⟩ := h
    rfl
  obtain ⟨g, i, v, d, sp, R, rfl, h5, hv, hs, hc, hR, k⟩ := h
  refine ⟨_, (pss_cons (ps_set (i := 3) sc_law_is_refused.nd rfl (Or.inl rfl) (pe_ix ix_tup (pe_fd G_law_caught (hr.mono (by first | decide | omega)) rfl (pa_cons (pv 0) pa_nil)) pe_int (fun _ _ => rfl)))
  (pss_one (ps_ret (pe_and (pe_cmpR op_eq (pe_fd G_law_word (hr.mono (by first | decide | omega)) rfl (pa_cons (pv 3) pa_nil)) (pv 1) (nomark _)) (pe_one (pe_cmpR op_eq (pe_callB (call_reprX hgu (u66 hr)) rfl T.repr (by decide +kernel) (pa_cons (pe_xk (pv 3)) pa_nil)) (pe_callB (call_reprX hgu (u66 hr)) rfl T.repr (by decide +kernel) (pa_cons (pv 2) pa_nil)) (nomark _))))))), ?_⟩
  refine ⟨_, rfl, g, sp, R, rfl, hc, hR, fun cls dd G r => ?_⟩
  obtain ⟨e', v', rfl, rfl, he, hv', hv2, q⟩ := k cls dd G r
  refine ⟨hE.hand i h5, fun a t nat na nt => ?_⟩
  have na' : upd G t (.tup [.ref a, .non]) a = none := by rw [upd_ne nat]; exact na
  have g1 : Same G (upd (upd G t (.tup [.ref a, .non])) a (ErrO (.ref (e.at i)) (some e') a)) := (same_new nt _).trans (same_new na' _)
  refine ⟨t, _, _, _, rfl, rfl, .of (by rw [upd_ne (Ne.symm nat)]; exact upd_same), rfl, ?_⟩
  refine ⟨_, rfl, a, e', i, _, rfl, h5, upd_same, g1 _ _ he, ?_⟩
  refine ⟨_, rfl, rfl, _, rfl, ite_yes (decide_eq_true rfl) ?_⟩
  refine ⟨_, rfl, a, _, e', _, v', rfl, upd_same, g1 _ _ he, rfl, hE.xf i h5, hE.noV i h5, v', d, rfl, hv'.ext fun b o q _ => g1 b o q, hs, ?_⟩
  refine ⟨_, rfl, v, d, rfl, hv2.ext fun b o q _ => g1 b o q, hs, ?_⟩
  refine ⟨rfl, ?_⟩
  show Q (.bl (decide (V.str d.shown = V.str d.shown))) _
  rw [decide_eq_true rfl]
  exact q _ g1
abbrev s_law_nested : Stmt := top 37
theorem sc_law_nested : FnScope ["value", "deep"] ["value", "deep"] (defScope s_law_nested) := ⟨rfl, rfl, rfl, by decide +kernel, rfl, by decide +kernel, by decide +kernel⟩
theorem ok_law_nested {n : Nat} (F : Fun K "_law_nested" "_law_nested" s_law_nested f fd) (G_law_nested : Fd P w K mg base CX0 "_law_nested" (n + 1) ["value", "deep"] (spNested n)) : FnOk P w K mg base CX0 (n + 2) f fd ["value", "deep"] (spNested (n + 1)) := by
  refine F.ok sc_law_nested (fun vs H Q E h => ?_) (fun cdv A outer s H vs Q E hr h => ?_)
  · obtain ⟨deep, rfl, _⟩ := h
    rfl
  obtain ⟨deep, rfl, hd, k⟩ := h
  refine ⟨_, (pss_one (ps_ret (pe_ifExp (pt_cmpR op_eq (pv 1) pe_int (nomark _)) (pv 0) (pe_tup (pa_cons (pe_fd G_law_nested hr rfl (pa_cons (pv 0) (pa_cons (pe_op op_sub (pv 1) pe_int) pa_nil))) pa_nil))))), ?_⟩
  refine ⟨_, rfl, rfl, _, rfl, ite2 (fun c => ?_) (fun c => ?_)⟩
  · obtain rfl : deep = 0 := by have z := of_decide_eq_true c; injection z with z; omega
    exact ⟨_, rfl, k _ _ _ (Same.refl _) (.int 1) rfl⟩
  · obtain ⟨m, rfl⟩ : ∃ m, deep = m + 1 := by
      cases deep with
      | zero => simp at c
      | succ m => exact ⟨m, rfl⟩
    refine ⟨_, rfl, _, rfl, _, _, rfl, rfl, m, by simp, by omega, fun v d H1 g1 hv hd1 => ?_⟩
    refine ⟨szl (by show 1 ≤ _; decide), fun t ht => ?_⟩
    exact k _ _ _ (g1.trans (same_new ht _)) (.tup upd_same (.cons (hv.ext fun b o q _ => same_new ht _ b o q) .nil)) (by rw [hd1]; rfl)
theorem all_nested (F : Fun K "_law_nested" "_law_nested" s_law_nested f fd) (b : Binds K fd ["value", "deep"] []) (m : mg "_law_nested" = some (.ref f)) : ∀ n : Nat, Fd P w K mg base CX0 "_law_nested" (n + 1) ["value", "deep"] (spNested n)
  | 0 => ⟨f, fd, m, F.kp, b, (none0 (fun vs H Q E h => by obtain ⟨deep, _, h, _⟩ := h; omega)).mono (Nat.zero_le _)⟩
  | n + 1 => ⟨f, fd, m, F.kp, b, ok_law_nested F (all_nested F b m n)⟩
end
end Fp
namespace Fp
open PySem PySem.Spec PyProof.Rows L2
section
variable {P : Program} {w : World} {K : PySem.W.Frag} {mg : Str → Option Value} {base : Heap} {f : Addr} {fd : FuncData} {C : Addr}
abbrev s_Door_len : Stmt := inClass (top 21) 2
theorem sc_Door_len : FnScope ["self", "deed"] ["self"] (defScope s_Door_len) := ⟨rfl, rfl, rfl, by decide +kernel, rfl, by decide +kernel, by decide +kernel⟩
theorem ok_Door_len (F : Fun K "__len__" "Door.__len__" s_Door_len f fd) (T : PTx mg) (hC : DC K C) : FnOk P w K mg base CX0 1 f fd ["self"] (spDLen C) := by
  refine F.ok sc_Door_len (fun vs H Q E h => ?_) (fun cdv A outer s H vs Q E hr h => ?_)
  · obtain ⟨d, s, rfl, _⟩ := h
    rfl
  obtain ⟨d, s, rfl, hD, hdl, k⟩ := h
  refine ⟨_, (pss_one (ps_ret (pe_callB call_len rfl T.len (by decide +kernel) (pa_cons (pe_lc (own := [("deed", 1)]) (g := (gName 1))  rfl sc_Door_len.nd (pi_tup (pe_fld (pv 0) rfl)) (blkOk_by (own := [("deed", 1)]) (N := ["self", "deed"]) (sc := defScope s_Door_len) (by decide +kernel)) (fun _ _ _ _ _ => (pg_name (i := 1) sc_Door_len.nd rfl (Or.inl rfl))) (fun _ _ _ _ _ => (pts_one (pt_cmpR op_eq (pe_ix ix_tupK (pv 1) pe_int (fun _ _ => rfl)) pe_str (nomark _)))) (fun _ _ _ _ _ => (pv 1))) pa_nil)))), ?_⟩
  obtain ⟨dx, a, b, c, e, f, cv, hv, sv, dv, D⟩ := hD
  refine ⟨_, rfl, d, C, dx, _, _, rfl, D.obj, hC.cl, hC.nD, d_deeds, f, rfl, ⟨_, .of D.deeds⟩, fun D0 hD0 => ?_⟩
  refine lc_tup (K := K) (a := f) (xs := dv) (fun i H' => Same H H' ∧ ∃ ys, H' D0 = some (.lst ys) ∧ ys.length = ((s.deeds.take i).filter (·.stp)).length) ⟨same_new hD0 _, [], upd_same, rfl⟩ (fun i H' _ z => .of (z.1 _ _ D.deeds)) ?_ ?_
  · rintro i x H' hx ⟨g, ys, hD, hl⟩
    have hi := get_lt hx
    rw [pr_len D.deedsP] at hi
    obtain ⟨y, hy, q, rfl, hq⟩ := pr_at D.deedsP (List.getElem?_eq_getElem hi)
    rw [hx] at hy
    cases hy
    have et : s.deeds.take (i + 1) = s.deeds.take i ++ [s.deeds[i]] := by rw [List.take_add_one, List.getElem?_eq_getElem hi]; rfl
    refine ⟨rfl, _, rfl, q, _, _, _, rfl, rfl, .of (g _ _ hq), atI_nat (j := 0) rfl, rfl, _, rfl, ?_⟩
    have hlt : ys.length ≤ s.deeds.length := by
      rw [hl]
      exact Nat.le_trans (List.length_filter_le _ _) (by rw [List.length_take]; omega)
    rw [et, List.filter_append]
    cases hs : s.deeds[i].stp with
    | true =>
      refine ite_yes (by simp) ⟨_, rfl, ys, hD, szt (by omega), fun o u ho => ?_, _, upd_same, ?_⟩
      · rw [upd_ne (ne_of_none ho hD0)]; exact g _ _ ho
      · rw [List.length_append, List.length_append, hl]; simp [hs]
    | false =>
      refine ite_no (by decide) ⟨g, ys, hD, ?_⟩
      rw [List.length_append, hl]; simp [hs]
  · rintro H' ⟨g, ys, hD, hl⟩
    rw [pr_len D.deedsP, List.take_length] at hl
    refine ⟨_, ys.length, rfl, ?_, ?_⟩
    · exact .inl ⟨_, .of hD, rfl⟩
    · rw [hl]; exact k _ (fun o u ho => g _ _ ho)
end
end Fp
namespace Fp
open PySem PySem.Spec PyProof.Rows L2
theorem optS_dp {K : PySem.W.Frag} {H : Hp} (s : DS) : ∀ l : List Nat, ∃ ds : List PyData, DpAll K H (l.map fun p => optS (s.next p)) ds ∧ (∀ d ∈ ds, Sm 1 10 d) ∧ ds = l.map fun p => match s.next p with | none => PyData.none | some z => .str z
  | [] => ⟨[], .nil, fun d h => absurd h (by simp), rfl⟩
  | p :: l => by
    obtain ⟨ds, h1, h2, h3⟩ := optS_dp (K := K) (H := H) s l
    unfold DS.next at h3 ⊢
    by_cases hc : (s.cm p).isSome = true
    · refine ⟨.str (DS.kindOf (s.stg p)) :: ds, .cons ?_ h1, fun d hd => ?_, ?_⟩
      · simp only [hc, if_true]; exact .str _
      · rcases List.mem_cons.mp hd with e | e
        · rw [e]; exact sm_kind (DS.stg_lt s p)
        · exact h2 d e
      · rw [List.map_cons, ← h3]; simp only [hc, if_true]
    · refine ⟨.none :: ds, .cons ?_ h1, fun d hd => ?_, ?_⟩
      · simp only [hc]; exact .non
      · rcases List.mem_cons.mp hd with e | e
        · rw [e]; exact Sm.non.mono (by decide) (by decide)
        · exact h2 d e
      · rw [List.map_cons, ← h3]; simp only [hc]; rfl
section
variable {P : Program} {w : World} {K : PySem.W.Frag} {mg : Str → Option Value} {base : Heap} {f : Addr} {fd : FuncData} {C : Addr}
abbrev s_law_door_next : Stmt := top 30
theorem sc_law_door_next : FnScope ["door", "player"] ["door", "player"] (defScope s_law_door_next) := ⟨rfl, rfl, rfl, by decide +kernel, rfl, by decide +kernel, by decide +kernel⟩
theorem ok_law_door_next (F : Fun K "_law_door_next" "_law_door_next" s_law_door_next f fd) : FnOk P w K mg base CX0 1 f fd ["door", "player"] spONext := by
  refine F.ok sc_law_door_next (fun vs H Q E h => ?_) (fun cdv A outer s H vs Q E hr h => ?_)
  · obtain ⟨o, L, p, s, k, rfl, _⟩ := h
    rfl
  obtain ⟨o, L, p, s, k0, rfl, hO, W, hp, k⟩ := h
  refine ⟨_, (pss_cons (ps_if (pt_cmpR op_isN (pe_ix ix_list (pe_dget (hu_of hr) (pv 0) pe_str (fun _ _ => rfl)) (pv 1) (fun _ _ => rfl)) pe_non (nomark _)) (pss_one (ps_ret pe_non)) pss_nil)
  (pss_one (ps_ret (pe_ix ix_list (pe_lst (pa_cons pe_str (pa_cons pe_str (pa_cons pe_str (pa_cons pe_str pa_nil))))) (pe_ix ix_list (pe_dget (hu_of hr) (pv 0) pe_str (fun _ _ => rfl)) (pv 1) (fun _ _ => rfl)) (fun _ _ => rfl))))), ?_⟩
  obtain ⟨l1, l2, l3, l4, l5, cv, hv, rfl, O⟩ := hO
  obtain ⟨xc, hxc, oc⟩ := pr_at O.cameP (W.acm hp)
  refine ⟨_, rfl, o, _, rfl, og_came O.dict, _, rfl, l1, cv, _, _, rfl, rfl, .of O.came, atI_nat hxc, rfl, _, rfl, ?_⟩
  rw [oc.is]
  unfold DS.next at k
  cases hc : s.cm p with
  | none => rw [hc] at k; exact iteT (k _ (.refl _))
  | some v =>
    rw [hc] at k
    refine iteF ⟨szl (by decide), fun l nl => ?_⟩
    have g := same_new nl (.lst [.str "level", .str "look", .str "level", .str "ask"])
    have hst : ((List.range s.lev.length).map fun p => V.int (s.stg p : Nat))[p]? = some (.int (s.stg p : Nat)) := by rw [List.getElem?_map, List.getElem?_range hp]; rfl
    have hk : ([.str "level", .str "look", .str "level", .str "ask"] : List V)[s.stg p]? = some (.str (DS.kindOf (s.stg p))) := by
      have h4 := DS.stg_lt s p
      rcases (show s.stg p = 0 ∨ s.stg p = 1 ∨ s.stg p = 2 ∨ s.stg p = 3 by omega) with e | e | e | e <;> rw [e] <;> rfl
    refine ⟨_, rfl, o, _, rfl, og_stg (g _ _ O.dict), _, rfl, l3, _, _, _, rfl, rfl, .of (g _ _ O.stg), atI_nat hst, l, _, _, _, rfl, rfl, .of upd_same, atI_nat hk, ?_⟩
    exact k _ g
abbrev s_law_is_door : Stmt := top 34
theorem sc_law_is_door : FnScope ["door", "own", "many", "player"] ["door", "own"] (defScope s_law_is_door) := ⟨rfl, rfl, rfl, by decide +kernel, rfl, by decide +kernel, by decide +kernel⟩
theorem ok_law_is_door (F : Fun K "_law_is_door" "_law_is_door" s_law_is_door f fd) (T : LTx mg) (hC : DC K C) (G_law_door_next : Fd P w K mg base CX0 "_law_door_next" 1 ["door", "player"] spONext) (M_next : Md P w K mg base CX0 C "next" 4 ["self", "player"] (spNext C)) (M_len : LenC P w K mg base C 1 ["self"] (spDLen C)) : FnOkG P w K mg base CX0 6 f fd ["door", "own"] (spIsDoor C) := by
  refine fun_okG F sc_law_is_door (fun vs H Q E h => ?_) (fun cdv A outer s H vs Q E hr hgu h => ?_)
  · obtain ⟨d, o, L, s, rfl, _⟩ := h
    rfl
  obtain ⟨d, o, L, s, rfl, hD, hO, hK, hdl, k⟩ := h
  refine ⟨_, (pss_cons (ps_if (pt_mid (pt_cmpR op_ne (pe_callB (call_reprA hgu (u66 hr)) rfl T.repr (by decide +kernel) (pa_cons (pe_tup (pa_cons (pe_fld (pv 0) rfl) (pa_cons (pe_fld (pv 0) rfl) (pa_cons (pe_fld (pv 0) rfl) pa_nil)))) pa_nil)) (pe_callB (call_reprA hgu (u66 hr)) rfl T.repr (by decide +kernel) (pa_cons (pe_tup (pa_cons (pe_callTy call_tuple_of rfl T.tuple (by decide +kernel) (pa_cons (pe_dget (hu_of hr) (pv 1) pe_str (fun _ _ => rfl)) pa_nil)) (pa_cons (pe_callTy call_tuple_of rfl T.tuple (by decide +kernel) (pa_cons (pe_dget (hu_of hr) (pv 1) pe_str (fun _ _ => rfl)) pa_nil)) (pa_cons (pe_callTy call_tuple_of rfl T.tuple (by decide +kernel) (pa_cons (pe_dget (hu_of hr) (pv 1) pe_str (fun _ _ => rfl)) pa_nil)) pa_nil)))) pa_nil)) (nomark _))) (pss_one (ps_ret pe_bl)) pss_nil)
  (pss_cons (ps_set (i := 2) sc_law_is_door.nd rfl (Or.inl rfl) (pe_callB call_len rfl T.len (by decide +kernel) (pa_cons (pe_dget (hu_of hr) (pv 1) pe_str (fun _ _ => rfl)) pa_nil)))
  (pss_one (ps_ret (pe_and (pe_cmpR op_eq (pe_callB (call_lenO M_len (hr.mono (by decide))) rfl T.len (by decide +kernel) (pa_cons (pv 0) pa_nil)) (pe_dget (hu_of hr) (pv 1) pe_str (fun _ _ => rfl)) (nomark _)) (pe_one (pe_cmpR (op_eqD hr.units) (pe_lc (own := [("player", 3)]) (g := (gName 3)) (tt := tYes) rfl sc_law_is_door.nd (pi_range1 rfl T.range (pa_cons (pv 2) pa_nil)) (blkOk_by (own := [("player", 3)]) (N := ["door", "own", "many", "player"]) (sc := defScope s_law_is_door) (by decide +kernel)) (fun _ _ _ _ _ => (pg_name (i := 3) sc_law_is_door.nd rfl (Or.inl rfl))) (fun _ _ _ _ _ => pts_nil) (fun _ _ _ _ _ => (pe_md (pv 0) hC.cl M_next (hr.mono (by first | decide | omega)) (pa_cons (pv 3) pa_nil)))) (pe_lc (own := [("player", 3)]) (g := (gName 3)) (tt := tYes) rfl sc_law_is_door.nd (pi_range1 rfl T.range (pa_cons (pv 2) pa_nil)) (blkOk_by (own := [("player", 3)]) (N := ["door", "own", "many", "player"]) (sc := defScope s_law_is_door) (by decide +kernel)) (fun _ _ _ _ _ => (pg_name (i := 3) sc_law_is_door.nd rfl (Or.inl rfl))) (fun _ _ _ _ _ => pts_nil) (fun _ _ _ _ _ => (pe_fd G_law_door_next (hr.mono (by first | decide | omega)) rfl (pa_cons (pv 1) (pa_cons (pv 3) pa_nil))))) (nomark _)))))))), ?_⟩
  have hD0 := hD
  have hO0 := hO
  obtain ⟨dx, a, b, c, e, f, cv, hv, sv, dv, D⟩ := hD0
  obtain ⟨l1, l2, l3, l4, l5, cw, hw, rfl, O⟩ := hO0
  have W := D.wf
  have n5 := W.n5
  have gc : ∀ x, some x ∈ s.came → Good H x := fun x hx => by
    obtain ⟨q, hq⟩ := mem_getD.mp hx
    exact D.good q x hq
  have gh : ∀ x, some x ∈ s.heard → Good H x := fun x hx => by
    obtain ⟨q, hq⟩ := mem_getD.mp hx
    obtain ⟨r, hr⟩ := hK.hok q x hq
    exact D.good r x hr
  obtain ⟨cds, c1, c2, c3⟩ := opt_data s.came gc
  obtain ⟨hds, h1, h2, h3⟩ := opt_data s.heard gh
  have lc := W.lc
  have lh := W.lh
  have smc : Sm 6 305 (.tuple cds) := (Sms.all c2).tup.mono (by decide) (by omega)
  have smh : Sm 6 305 (.tuple hds) := (Sms.all h2).tup.mono (by decide) (by omega)
  have sml : Sm 6 305 (.tuple (s.lev.map lvD)) := (lv_sms W.small.2 W.small.1).tup.mono (by decide) (by decide)
  have smt : Sm 7 1000 (.tuple [.tuple (s.lev.map lvD), .tuple hds, .tuple cds]) := (Sms.tup (.cons sml (.cons smh (.cons smc (Sms.nil (n := 0)))))).mono (by decide) (by decide)
  refine ⟨fun y H' => y = false ∧ Same H H', ?_, ?_⟩
  · refine ⟨_, rfl, d, C, dx, _, _, rfl, D.obj, hC.cl, hC.nL, d_lev, _, rfl, d, C, dx, _, _, rfl, D.obj, hC.cl, hC.nH, d_heard, _, rfl, d, C, dx, _, _, rfl, D.obj, hC.cl, hC.nC, d_came, szl (by show 3 ≤ _; decide), fun t nt => ?_⟩
    have g1 := same_new nt (.tup [.ref b, .ref c, .ref a])
    have k1 : TK H _ := .of g1
    refine ⟨_, _, 7, 1000, rfl, .tup (.of upd_same) (.cons (.tup (k1.f D.lev).sq (lv_dp s.lev)) (.cons (.tup (k1.f D.heard).sq (h1 K _ _ k1 (pr_imp (fun _ _ => One.mono k1) D.heardP))) (.cons (.tup (k1.f D.came).sq (c1 K _ _ k1 (pr_imp (fun _ _ => One.mono k1) D.cameP))) .nil))), smt, by decide, by decide, ?_⟩
    refine ⟨_, rfl, o, _, rfl, og_lev (g1 _ _ O.dict), l2, _, rfl, .inl ⟨.of (g1 _ _ O.lev), fun q2 nq2 => ?_⟩⟩
    have g2 := g1.trans (same_new nq2 (.tup (s.lev.map lvV)))
    refine ⟨_, rfl, o, _, rfl, og_heard (g2 _ _ O.dict), l5, _, rfl, .inl ⟨.of (g2 _ _ O.heard), fun q3 nq3 => ?_⟩⟩
    have gg3 := same_new nq3 (.tup hw)
    have g3 := g2.trans gg3
    refine ⟨_, rfl, o, _, rfl, og_came (g3 _ _ O.dict), l1, _, rfl, .inl ⟨.of (g3 _ _ O.came), fun q4 nq4 => ?_⟩⟩
    have gg4 := same_new nq4 (.tup cw)
    have g4 := g3.trans gg4
    refine ⟨szl (by show 3 ≤ _; decide), fun t2 nt2 => ?_⟩
    have gg5 := same_new nt2 (.tup [.ref q2, .ref q3, .ref q4])
    have g5 := g4.trans gg5
    have k5 : TK H _ := .of g5
    refine ⟨_, _, 7, 1000, rfl, .tup (.of upd_same) (.cons (.tup (.of (gg5 _ _ (gg4 _ _ (gg3 _ _ upd_same)))) (lv_dp s.lev)) (.cons (.tup (.of (gg5 _ _ (gg4 _ _ upd_same))) (h1 K _ _ k5 (pr_imp (fun _ _ => One.mono k5) O.heardP))) (.cons (.tup (.of (gg5 _ _ upd_same)) (c1 K _ _ k5 (pr_imp (fun _ _ => One.mono k5) O.cameP))) .nil))), smt, by decide, by decide, ?_⟩
    exact ⟨rfl, _, rfl, two_str rfl, g5⟩
  rintro y H1 ⟨rfl, g1⟩
  have O1 := hO.same g1
  have D1 := hD.same g1
  refine iteF ?_
  refine ⟨_, rfl, o, _, rfl, og_came (g1 _ _ O.dict), _, cw.length, rfl, .inl ⟨_, .of (g1 _ _ O.came), rfl⟩, ?_⟩
  have hcl : cw.length = s.lev.length := by rw [pr_len O.cameP, W.lc]
  rw [hcl]
  obtain ⟨dx1, fs1, ob1, ns1, nc1, nn1, ny1⟩ := D1.ob
  refine ⟨_, rfl, d, dx1, fs1, rfl, ob1, d, s, rfl, D1, hdl, fun H2 g2 => ⟨s.stps, rfl, ?_, ?_⟩⟩
  · have := List.length_filter_le (·.stp) s.deeds
    unfold DS.stps; omega
  have D2 := D1.same g2
  have O2 := O1.same g2
  refine ⟨_, rfl, o, _, rfl, og_steps (g2 _ _ (g1 _ _ O.dict)), rfl, _, rfl, ite_yes (decide_eq_true rfl) ?_⟩
  refine ⟨_, rfl, _, rfl, by omega, by omega, fun E1 hE1 => ?_⟩
  refine lc_range (lo := 0) (n := s.lev.length) (fun i H' => Same H2 H' ∧ H' E1 = some (.lst ((List.range i).map fun p => optS (s.next p)))) ⟨same_new hE1 _, upd_same⟩ ?_ ?_
  · rintro i H' hi ⟨g3, hE⟩
    obtain ⟨dx3, fs3, ob3, ns3, nc3, nn3, ny3⟩ := (D2.same g3).ob
    rw [Int.zero_add]
    refine ⟨rfl, _, rfl, d, dx3, fs3, rfl, ob3, nn3, _, rfl, d, i, s, rfl, D2.same g3, hi, fun H4 g4 => ⟨_, g4 _ _ hE, szt (by rw [List.length_map, List.length_range]; omega), fun q u hq => ?_, ?_⟩⟩
    · rw [upd_ne (ne_of_none hq hE1)]; exact g4 _ _ (g3 _ _ hq)
    · rw [upd_same, List.range_succ, List.map_append]; rfl
  rintro H3 ⟨g3, hE⟩
  have O3 := O2.same g3
  refine ⟨_, rfl, _, rfl, by omega, by omega, fun E2 hE2 => ?_⟩
  refine lc_range (lo := 0) (n := s.lev.length) (fun i H' => Same H3 H' ∧ H' E2 = some (.lst ((List.range i).map fun p => optS (s.next p)))) ⟨same_new hE2 _, upd_same⟩ ?_ ?_
  · rintro i H' hi ⟨g4, hE⟩
    rw [Int.zero_add]
    refine ⟨rfl, _, rfl, _, rfl, o, _, i, s, _, rfl, O3.same g4, W, hi, fun H4 g5 => ⟨_, g5 _ _ hE, szt (by rw [List.length_map, List.length_range]; omega), fun q u hq => ?_, ?_⟩⟩
    · rw [upd_ne (ne_of_none hq hE2)]; exact g5 _ _ (g4 _ _ hq)
    · rw [upd_same, List.range_succ, List.map_append]; rfl
  rintro H4 ⟨g4, hE'⟩
  obtain ⟨ds, x1, x2, x3⟩ := optS_dp (K := K) (H := H4) s (List.range s.lev.length)
  have smd : Sm 2 _ (.list ds) := (Sms.all x2).lst
  refine ⟨.list ds, .list ds, .lst (.of (g4 _ _ hE)) x1, .lst (.of hE') x1, smd.shaped (by decide), smd.shaped (by decide), ?_⟩
  rw [show PyData.eqv (.list ds) (.list ds) = true from SeqAt.eqv_refl _ smd.lay]
  exact k _ (((g1.trans g2).trans g3).trans g4)
end
end Fp
/-! a def with lambdas, refused: what is wanted at the law's def itself -/
namespace L2
open PySem PySem.Spec PyProof.Rows LamX
/-- all stays but tables and what is pinned -/
def Kp (H H' : Hp) : Prop := ∀ b o, H b = some o → (∀ ps, o ≠ .tbl ps) → (∀ φ, o ≠ .ext φ) → H' b = some o
theorem Kp.of {H H' : Hp} (g : ExtN H H') : Kp H H' := fun b o q n _ => g b o q n
theorem Kp.trans {H H1 H2 : Hp} (a : Kp H H1) (b : Kp H1 H2) : Kp H H2 := fun c o h n m => b c o (a c o h n m) n m
end L2
namespace Fp
open PySem PySem.Spec PyProof.Rows L2 LamX
theorem kp_same {H H' : Hp} (g : Same H H') : Kp H H' := fun b o q _ _ => g b o q
theorem extN_same {H H' : Hp} (g : Same H H') : ExtN H H' := fun b o q _ => g b o q
theorem Kp.tk {H H' : Hp} (g : Kp H H') : TK H H' := fun a h => by
  cases e : H a with
  | none => rw [e] at h; exact h.elim
  | some o =>
    rw [e] at h
    refine g a o e (fun ps z => ?_) (fun φ z => ?_) <;> (subst z; exact h)
mutual
theorem DA.kp {H H' : Hp} (g : Kp H H') : ∀ {v : V} {d : PyData}, DA H v d → DA H' v d
  | _, _, .non => .non
  | _, _, .bl b => .bl b
  | _, _, .int i => .int i
  | _, _, .str z => .str z
  | _, _, .tup h t => .tup (g _ _ h (fun _ z => by cases z) (fun _ z => by cases z)) (DAs.kp g t)
  | _, _, .lst h t => .lst (g _ _ h (fun _ z => by cases z) (fun _ z => by cases z)) (DAs.kp g t)
  | _, _, .dct h => .dct (g _ _ h (fun _ z => by cases z) (fun _ z => by cases z))
theorem DAs.kp {H H' : Hp} (g : Kp H H') : ∀ {vs : List V} {ds : List PyData}, DAs H vs ds → DAs H' vs ds
  | _, _, .nil => .nil
  | _, _, .cons h t => .cons (DA.kp g h) (DAs.kp g t)
end
theorem DoorAt.kp {C : Addr} {H H' : Hp} {d : Addr} {s : DS} (h : DoorAt C H d s) (g : Kp H H') : DoorAt C H' d s := by
  obtain ⟨dx, a, b, c, e, f, cv, hv, sv, dv, h⟩ := h
  exact ⟨dx, a, b, c, e, f, cv, hv, sv, dv, h.mono (Kp.tk g) (fun o q => by rw [h.obj] at q; cases q; exact g _ _ h.obj (fun _ z => by cases z) (fun _ z => by cases z)) (by rw [g _ _ h.own (fun _ z => by cases z) (fun _ z => by cases z)]; exact h.own.symm)⟩
theorem OwnAt.kp {H H' : Hp} {o : Addr} {L : List Addr} {s : DS} {k : Int} (h : OwnAt H o L s k) (g : Kp H H') : OwnAt H' o L s k := by
  obtain ⟨l1, l2, l3, l4, l5, cv, hv, rfl, h⟩ := h
  have l : ∀ {a : Addr} {xs : List V}, H a = some (.lst xs) → H' a = some (.lst xs) := fun q => g _ _ q (fun _ z => by cases z) (fun _ z => by cases z)
  have tk := Kp.tk g
  exact ⟨l1, l2, l3, l4, l5, cv, hv, rfl, g _ _ h.dict (fun _ z => by cases z) (fun _ z => by cases z), l h.came, pr_imp (fun _ _ => One.mono tk) h.cameP, l h.lev, l h.stg, l h.won, l h.heard, pr_imp (fun _ _ => One.mono tk) h.heardP, h.nd⟩
theorem PotAt.kp {H H' : Hp} {p : Addr} {m : Nat} (h : PotAt H p m) (g : Kp H H') : PotAt H' p m := by
  obtain ⟨a, b, c, h1, h2⟩ := h
  exact ⟨a, b, c, g _ _ h1 (fun _ z => by cases z) (fun _ z => by cases z), h2⟩
/-- a class whose making may raise -/
structure MkX (P : Program) (w : World) (K : PySem.W.Frag) (mg : Str → Option Value) (base : Heap) (x : Str) (C : Addr) (k : Nat) (ps : List Str) (sp : Sp) : Prop where
  at_ : mg x = some (.ref C)
  ex : ∃ (f : Addr) (fd : FuncData), Mk K C f ∧ Binds K fd ps [] ∧ FnOk P w K mg base (L2.CX P w) k f fd ps sp
section
variable {X : Cx} {x : Str} {k : Nat} {ps : List Str} {sp : Sp} {C : Addr} {e : Expr} {es : List Expr} {t : TA} {p pos : Pos} {E : XK}
theorem pe_mkE (tk : Takes X (fun cls d _ H => E cls d H)) (M : MkX X.prog X.w X.K X.mg X.base x C k ps sp) (hr : Room (k + 1) X.A) (hg : Gl X x) (ha : PA X (e :: es) t) (hdb : (x == ("__debug__" : Str)) = false := by decide)
    (he : starEach (e :: es) X.env = (false, eval e X.env) :: starEach es X.env := by rfl) (hpl : (backTo pos (starEach es X.env)).any (·.1) = false := by rfl) : PE X (.Call (.Name x p) (e :: es) [] pos) (tMake C sp [] E t) := by
  obtain ⟨f, fd, h1, h2, h3⟩ := M.ex
  exact pe_make h1 h3 hr hg M.at_ h2 .nil (pass_of tk) ha hdb he hpl
end
section
variable {P : Program} {w : World} {K : PySem.W.Frag} {mg : Str → Option Value} {base : Heap}
/-- as fun_okG, where the def's code is known -/
theorem fun_okT {x qual : Str} {st : Stmt} {f c PT : Addr} {fd : FuncData} {N ps : List Str} {k : Nat} {sp : Sp} (F : Fun K x qual st f fd) (hns : PySem.W.nsIn K mainGlobals x = some (some (.ref f))) (hT : PySem.W.tabIn K x = some (c, PT)) (S : FnScope N ps (defScope st)) (len : ∀ vs H Q E, sp vs H Q E → vs.length = ps.length)
    (hbody : ∀ (A : Around) (outer : List Env) (s : Shared) (H : Hp) (vs : List V) (Q : VK) (E : XK), Room k (A.deeper (envOfC qual (defScope st) s.heap.objs.size f (.ref c))) → (A.deeper (envOfC qual (defScope st) s.heap.objs.size f (.ref c))).guards = some [] → sp vs H Q E →
      ∃ t, PSs (cxOf CX0 P w K mg base N qual (defScope st) f (.ref c) A outer s H E).nox (defBody st) t ∧ t { nx := fun _ H' => Q .non H', rt := Q } (start N vs) H) : FnOkG P w K mg base CX0 (k + 1) f fd ps sp := by
  obtain ⟨oc, od, kV, doc, pm, an, cdv, ct, osl, rfl, lk, hcd⟩ := F.ex
  have e : cdv = .ref c := by
    unfold PySem.W.tabIn at hT
    rw [hns] at hT
    dsimp only at hT
    rw [lk] at hT
    dsimp only at hT
    cases cdv <;> first | (cases hT; done) | skip
    rename_i c'
    have hT : (match K.lookup c' with
        | some ⟨_, _, .fields vs, _⟩ => (match (vs[11]? : Option Value) with
          | some (.ref P) => some (c', P)
          | _ => none)
        | _ => none) = some (c, PT) := hT
    split at hT
    · split at hT
      · cases hT; rfl
      · cases hT
    · cases hT
  subst e
  refine fn_ofG lk hcd S len fun A outer s H vs Q E hr hg hsp => ?_
  obtain ⟨t, h, q⟩ := hbody A outer s H vs Q E hr hg hsp
  exact ⟨t, h.nox, q⟩
end
end Fp
namespace Fp
open PySem PySem.Spec PyProof.Rows L2 LamX
/-- what a lambda's body reads -/
def LamR (X : Cx) (scope : Scope) (body : Expr) (t : XK → TE) : Prop := ∀ (A : Around) (outer : List Env) (s : Shared) (H : Hp) (E : XK) (f c' : Addr), Room 16 (A.deeper (lamEnv X scope s.heap.objs.size f c')) → PE (lamCx X A outer s H E scope f c') body (t E)
def LamB (params : Arguments) (body : Expr) (scope : Scope) : Prop := ∀ (q : Str) (cl : List (Str × Addr)) (pm cv ctv : Value), bindArgs (PySem.W.kla_fn "<lambda>" q params body scope cl pm cv ctv) ⟨[], []⟩ = pure []
section
variable {X : Cx} {T : List (Addr × Str)} {params : Arguments} {body : Expr} {scope : Scope} {ys : List Str} {e : E5} {i : Nat} {v : V} {d : PyData} {tf tv : TE} {t : XK → TE} {σ : L2.St} {H HZ : Hp} {Q : VK} {f : Addr}
theorem refused_at (ok : X.Ok) (hl : σ.length = X.N.length) (L : LamS X.env.scope scope) (hbind : LamB params body scope) (hbody : LamR X scope body t) (hf : LamAt X HZ f params body scope) (cA : CellsAt X.N X.base σ (lamCl X scope) HZ) (h5 : i < 5) (hd : DA HZ v d) (hs : ShowOk d)
    (hR : ∀ Q' E', (∀ e' G0, Same (dropC (lamCs X scope) HZ) G0 → G0 e' = some (.xd [("value", v)]) → E' (.ref (e.at i)) (some e') G0) → t E' σ (dropC (lamCs X scope) HZ) Q')
    (hQ : ∀ H', Same HZ H' → Q (.bl true) H') : spRefused X.prog X.w X.K X.mg X.base e [.ref f, .str (wordOf i), v] HZ Q E0 := by
  refine ⟨f, i, v, d, _, fun cls dd G => ∃ G0 e', cls = .ref (e.at i) ∧ dd = some e' ∧ Same (dropC (lamCs X scope) HZ) G0 ∧ G0 e' = some (.xd [("value", v)]) ∧ (∀ c ∈ lamCs X scope, G0 c = none) ∧ G = backC (lamCs X scope) HZ G0, rfl, h5, hd, hs, lam_clo ok hl L hbind hbody, fun Q' E' hE => ⟨hf, cA, hR _ _ fun e' G0 g he n => hE _ _ _ ⟨G0, e', rfl, rfl, g, he, n, rfl⟩⟩, ?_⟩
  rintro cls dd G ⟨G0, e', rfl, rfl, g, he, n, rfl⟩
  have sg : Same HZ (backC (lamCs X scope) HZ G0) := fun b o q => by
    by_cases m : b ∈ lamCs X scope
    · rw [backC_in m]; exact q
    · rw [backC_out m]; exact g b o (by rw [dropC_out m]; exact q)
  have ne : e' ∉ lamCs X scope := fun m => by rw [n e' m] at he; cases he
  exact ⟨e', v, rfl, rfl, by rw [backC_out ne]; exact he, hd.ext (extN_same sg), hd.ext (extN_same sg), fun H' g' => hQ _ (sg.trans g')⟩
/-- a lambda that stands, handed on -/
theorem refused_old (L : LamS X.env.scope scope) (hbind : LamB params body scope) (hbody : LamR X scope body t) (hy : ∀ y ∈ scope.names, y.2 = .free → y.1 ∈ ys) (h5 : i < 5) (hd : DA H v d) (hs : ShowOk d) (hf : LamAt X H f params body scope)
    (hv : tf σ H fun x H1 => x = .ref f ∧ H1 = H) (hv' : tv σ H fun x H1 => x = v ∧ H1 = H)
    (mf : ∀ {Q1 Q2 : VK}, (∀ x H1, Q1 x H1 → Q2 x H1) → tf σ H Q1 → tf σ H Q2) (mv : ∀ {Q1 Q2 : VK}, (∀ x H1, Q1 x H1 → Q2 x H1) → tv σ H Q1 → tv σ H Q2)
    (hR : ∀ G Q' E', Kp H G → (∀ e' G0, Same G G0 → G0 e' = some (.xd [("value", v)]) → E' (.ref (e.at i)) (some e') G0) → t E' σ G Q')
    (hQ : ∀ H', Same H H' → Q (.bl true) H') : tCallC X ys (spRefused X.prog X.w X.K X.mg X.base e) (tCons tf (tCons (tC (.str (wordOf i))) (tCons tv tNil))) σ H Q := by
  refine mf (fun x H1 z => ?_) hv
  obtain ⟨rfl, rfl⟩ := z
  refine mv (fun x H2 z => ?_) hv'
  obtain ⟨rfl, rfl⟩ := z
  intro ok hl cs HZ eD pn cA
  have up : ∀ b o, H2 b = some o → HZ b = some o ∧ b ∉ cs := fun b o q => by
    rw [← eD] at q
    exact ⟨(dropC_some q).2, (dropC_some q).1⟩
  have cL := cA.lam ok L hy
  have ps := cL.pins (lamCl_N ok L)
  refine refused_at ok hl L hbind hbody (hf.ext fun b φ q => (up b _ q).1) cL h5 (hd.ext fun b o q _ => (up b o q).1) hs (fun Q' E' hE => hR _ Q' E' (fun b o q n1 n2 => ?_) hE) fun H' g => ⟨fun c m => ?_, hQ _ fun b o q => ?_⟩
  · have q' := (up b o q).1
    rw [dropC_out (ps.no q' n2)]; exact q'
  · obtain ⟨o, z⟩ := pn c m
    rw [z]; exact g _ _ z
  · obtain ⟨q1, q2⟩ := up b o q
    rw [dropC_out q2]; exact g _ _ q1
/-- a lambda, made and handed on -/
theorem refused_lam (L : LamS X.env.scope scope) (hbind : LamB params body scope) (hbody : LamR X scope body t) (hy : ∀ y ∈ scope.names, y.2 = .free → y.1 ∈ ys) (h5 : i < 5) (hd : DA H v d) (hs : ShowOk d) (hT : Tabs T H)
    (hv : ∀ H1 Q1, ExtN H H1 → Q1 v H1 → tv σ H1 Q1)
    (hR : ∀ G Q' E', Kp H G → (∀ e' G0, Same G G0 → G0 e' = some (.xd [("value", v)]) → E' (.ref (e.at i)) (some e') G0) → t E' σ G Q')
    (hQ : ∀ H', ExtN H H' → Tabs T H' → Q (.bl true) H') : tCallC X ys (spRefused X.prog X.w X.K X.mg X.base e) (tCons (tLamE X T params body scope) (tCons (tC (.str (wordOf i))) (tCons tv tNil))) σ H Q := by
  refine ⟨hT, fun f H1 g1 T1 nf hf => ?_⟩
  refine hv _ _ g1 ?_
  intro ok hl cs HZ eD pn cA
  have up : ∀ b o, H1 b = some o → HZ b = some o ∧ b ∉ cs := fun b o q => by
    rw [← eD] at q
    exact ⟨(dropC_some q).2, (dropC_some q).1⟩
  have cL := cA.lam ok L hy
  have ps := cL.pins (lamCl_N ok L)
  have s1 : ∀ {H' : Hp}, Same HZ H' → ∀ b o, H1 b = some o → dropC cs H' b = some o := fun {H'} g b o q => by
    obtain ⟨q1, q2⟩ := up b o q
    rw [dropC_out q2]; exact g _ _ q1
  refine refused_at ok hl L hbind hbody (hf.ext fun b φ q => (up b _ q).1) cL h5 ((hd.ext g1).ext fun b o q _ => (up b o q).1) hs (fun Q' E' hE => hR _ Q' E' (fun b o q n1 n2 => ?_) hE) fun H' g => ⟨fun c m => ?_, hQ _ (fun b o q n => s1 g b o (g1 b o q n)) ?_⟩
  · have q' := (up b o (g1 b o q n1)).1
    rw [dropC_out (ps.no q' n2)]; exact q'
  · obtain ⟨o, z⟩ := pn c m
    rw [z]; exact g _ _ z
  · exact fun p hp => (T1 p hp).ext (s1 g)
end
end Fp
namespace Fp
open PySem PySem.Spec PyProof.Rows L2 LamX
/-! ### the heap, tables apart -/
def ButN (S : List Addr) (H H' : Hp) : Prop := ∀ b o, b ∉ S → H b = some o → (∀ ps, o ≠ .tbl ps) → H' b = some o
theorem ButN.of {S : List Addr} {H H' : Hp} (g : But S H H') : ButN S H H' := fun b o n q _ => g b o n q
theorem ButN.ext {S : List Addr} {H H' : Hp} (g : ExtN H H') : ButN S H H' := fun b o _ q t => g b o q t
theorem ButN.trans {S : List Addr} {H H1 H2 : Hp} (a : ButN S H H1) (b : ButN S H1 H2) : ButN S H H2 := fun c o n q t => b c o n (a c o n q t) t
theorem Tabs.but {T : List (Addr × Str)} {S : List Addr} {H H' : Hp} (t : Tabs T H) (g : But S H H') (n : ∀ x ∈ S, ∀ o, H x = some o → (∀ ps, o ≠ .tbl ps) ∧ ∀ φ, o ≠ .ext φ) : Tabs T H' := fun p hp => by
  obtain ⟨ps, h1, h2, h3⟩ := t p hp
  have out : ∀ {b : Addr} {o : HO}, H b = some o → ((∃ ps, o = .tbl ps) ∨ ∃ φ, o = .ext φ) → H' b = some o := fun {b o} q k => g b o (fun m => by
    obtain ⟨n1, n2⟩ := n b m o q
    rcases k with ⟨ps, z⟩ | ⟨φ, z⟩
    · exact n1 _ z
    · exact n2 _ z) q
  refine ⟨ps, out h1 (.inl ⟨_, rfl⟩), h2, fun pos cv hc => ?_⟩
  obtain ⟨c, e1, e2⟩ := h3 pos cv hc
  exact ⟨c, e1, out e2 (.inr ⟨_, rfl⟩)⟩
theorem Tabs.same {T : List (Addr × Str)} {H H' : Hp} (t : Tabs T H) (g : Same H H') : Tabs T H' := t.ext fun b o q => g b o q
abbrev Q41 : Str := ("_law_right" : Str) ++ (".<locals>." : Str)
abbrev T41 (PR : Addr) : List (Addr × Str) := [(PR, Q41 ++ ("<lambda>" : Str))]
theorem mem41 {q : Str} {PR : Addr} (h : q = Q41) : (PR, q ++ ("<lambda>" : Str)) ∈ T41 PR := by subst h; exact List.mem_singleton.mpr rfl
theorem only41 {q : Str} {PR : Addr} (h : q = Q41) : ∀ p ∈ T41 PR, p.1 = PR → p.2 = q ++ ("<lambda>" : Str) := fun p hp _ => by subst h; exact congrArg Prod.snd (List.mem_singleton.mp hp)
def spRightT (PR : Addr) : Sp := fun vs H Q _ => ∃ p, vs = [.ref p] ∧ PotAt H p 0 ∧ Tabs (T41 PR) H ∧ ∀ H', ButN [p] H H' → Tabs (T41 PR) H' → Q (.bl true) H'
theorem lamB0 {body : Expr} {scope : Scope} : LamB { posonlyargs := [], args := [], vararg := none, kwonlyargs := [], kw_defaults := [], kwarg := none, defaults := [] } body scope := fun q cl pm cv ctv => rfl
mutual
theorem DA.keep {H H' : Hp} (g : ∀ b o, H b = some o → (∀ C dx fs, o ≠ .ins C dx fs) → H' b = some o) : ∀ {v : V} {d : PyData}, DA H v d → DA H' v d
  | _, _, .non => .non
  | _, _, .bl b => .bl b
  | _, _, .int i => .int i
  | _, _, .str z => .str z
  | _, _, .tup h t => .tup (g _ _ h (fun _ _ _ z => by cases z)) (DAs.keep g t)
  | _, _, .lst h t => .lst (g _ _ h (fun _ _ _ z => by cases z)) (DAs.keep g t)
  | _, _, .dct h => .dct (g _ _ h (fun _ _ _ z => by cases z))
theorem DAs.keep {H H' : Hp} (g : ∀ b o, H b = some o → (∀ C dx fs, o ≠ .ins C dx fs) → H' b = some o) : ∀ {vs : List V} {ds : List PyData}, DAs H vs ds → DAs H' vs ds
  | _, _, .nil => .nil
  | _, _, .cons h t => .cons (DA.keep g h) (DAs.keep g t)
end
/-! ### what lambdas do -/
/-- no number of players -/
def BadMany (d : PyData) : Prop := isInt d = false ∨ ∃ i : Int, d = .int i ∧ ¬ (1 ≤ i ∧ i ≤ 5)
/-- no number of a player -/
def BadHand (n : Nat) (d : PyData) : Prop := isInt d = false ∨ ∃ i : Int, d = .int i ∧ ¬ (0 ≤ i ∧ i < n)
theorem DA.isI {H : Hp} {v : V} {i : Int} (h : DA H v (.int i)) : v = .int i := by cases h; rfl
section
variable {K : PySem.W.Frag} {C CE d : Addr} {σ : L2.St} {G : Hp} {Q' : VK} {E' : XK} {v x : V} {vd xd : PyData} {s : DS} {p : Nat}
theorem mk_bad (hv : σ[12]? = some (some v)) (hd : DA G v vd) (hb : BadMany vd) (hE : ∀ e' G0, Same G G0 → G0 e' = some (.xd [("value", v)]) → E' (.ref CE) (some e') G0) : tMake C (spDInitX K CE) [] E' (tCons (tVar 12) tNil) σ G Q' := by
  refine ⟨_, hv, fun a dx ha hdx ne => ?_⟩
  have g : Same G (upd (upd G dx (.own a)) a (.ins C dx [])) := (same_new hdx _).trans (same_new (by rw [upd_ne (Ne.symm ne)]; exact ha) _)
  refine ⟨a, v, rfl, ?_, fun e' he => hE e' _ (g.trans (same_new he _)) upd_same⟩
  rcases hb with h | ⟨i, rfl, h⟩
  · have := (hd.ext (extN_same g)).kind (K := K)
    rw [h] at this
    exact .inr this
  · exact .inl ⟨i, hd.isI, h⟩
theorem wrongP (hd : DA G v vd) {n : Nat} (hb : BadHand n vd) : WrongP K G n v := by
  rcases hb with h | ⟨i, rfl, h⟩
  · have := hd.kind (K := K)
    rw [h] at this
    exact .inr this
  · exact .inl ⟨i, hd.isI, h⟩
theorem come_hand (h9 : σ[9]? = some (some (.ref d))) (h11 : σ[11]? = some (some v)) (h13 : σ[13]? = some (some x)) (D : DoorAt C G d s) (hd : DA G v vd) (hb : BadHand s.lev.length vd) (hE : ∀ e' G0, Same G G0 → G0 e' = some (.xd [("value", v)]) → E' (.ref CE) (some e') G0) :
    tMeth C "come" (spComeX K C CE) [] E' (tVar 9) (tCons (tVar 11) (tCons (tVar 13) tNil)) σ G Q' := by
  obtain ⟨dx, fs, hobj, n1, n2, n3, n4⟩ := D.ob
  exact ⟨_, h9, d, dx, fs, rfl, hobj, n2, _, h11, _, h13, d, v, x, s, rfl, D, wrongP hd hb, fun e' he => hE e' _ (same_new he _) upd_same⟩
theorem step_hand (h9 : σ[9]? = some (some (.ref d))) (h11 : σ[11]? = some (some v)) (D : DoorAt C G d s) (hd : DA G v vd) (hb : BadHand s.lev.length vd) (hE : ∀ e' G0, Same G G0 → G0 e' = some (.xd [("value", v)]) → E' (.ref CE) (some e') G0) :
    tMeth C "step" (spCheckX K C CE) [] E' (tVar 9) (tCons (tVar 11) tNil) σ G Q' := by
  obtain ⟨dx, fs, hobj, n1, n2, n3, n4⟩ := D.ob
  exact ⟨_, h9, d, dx, fs, rfl, hobj, n1, _, h11, d, v, s, rfl, D, wrongP hd hb, fun e' he => hE e' _ (same_new he _) upd_same⟩
theorem next_hand (h9 : σ[9]? = some (some (.ref d))) (h11 : σ[11]? = some (some v)) (D : DoorAt C G d s) (hd : DA G v vd) (hb : BadHand s.lev.length vd) (hE : ∀ e' G0, Same G G0 → G0 e' = some (.xd [("value", v)]) → E' (.ref CE) (some e') G0) :
    tMeth C "next" (spCheckX K C CE) [] E' (tVar 9) (tCons (tVar 11) tNil) σ G Q' := by
  obtain ⟨dx, fs, hobj, n1, n2, n3, n4⟩ := D.ob
  exact ⟨_, h9, d, dx, fs, rfl, hobj, n3, _, h11, d, v, s, rfl, D, wrongP hd hb, fun e' he => hE e' _ (same_new he _) upd_same⟩
theorem come_value (h9 : σ[9]? = some (some (.ref d))) (h6 : σ[6]? = some (some (.int p))) (h13 : σ[13]? = some (some x)) (D : DoorAt C G d s) (hp : p < s.lev.length) (hd : DA G x xd) (hb : smallD 12 xd = false) (hE : ∀ e' G0, Same G G0 → G0 e' = some (.xd [("value", x)]) → E' (.ref CE) (some e') G0) :
    tMeth C "come" (spComeV C CE) [] E' (tVar 9) (tCons (tVar 6) (tCons (tVar 13) tNil)) σ G Q' := by
  obtain ⟨dx, fs, hobj, n1, n2, n3, n4⟩ := D.ob
  exact ⟨_, h9, d, dx, fs, rfl, hobj, n2, _, h6, _, h13, d, p, x, xd, s, rfl, D, hp, hd, hb, fun H' e' g he => hE e' _ (g.trans (same_new he _)) upd_same⟩
theorem come_twice (h9 : σ[9]? = some (some (.ref d))) (h6 : σ[6]? = some (some (.int p))) (h10 : σ[10]? = some (some x)) (D : DoorAt C G d s) (hp : p < s.lev.length) (hc : s.cm p ≠ none) (hd : DA G x xd) (hb : smallD 12 xd = true) (hE : ∀ e' G0, Same G G0 → G0 e' = some (.xd [("value", .int p)]) → E' (.ref CE) (some e') G0) :
    tMeth C "come" (spComeCD C CE) [] E' (tVar 9) (tCons (tVar 6) (tCons (tVar 10) tNil)) σ G Q' := by
  obtain ⟨dx, fs, hobj, n1, n2, n3, n4⟩ := D.ob
  exact ⟨_, h9, d, dx, fs, rfl, hobj, n2, _, h6, _, h10, d, p, x, xd, s, rfl, D, hp, hc, hd, hb, fun H' e' g he => hE e' _ (g.trans (same_new he _)) upd_same⟩
theorem step_away (h9 : σ[9]? = some (some (.ref d))) (h6 : σ[6]? = some (some (.int p))) (D : DoorAt C G d s) (hp : p < s.lev.length) (hc : s.cm p = none) (hE : ∀ e' G0, Same G G0 → G0 e' = some (.xd [("value", .int p)]) → E' (.ref CE) (some e') G0) :
    tMeth C "step" (spStepN C CE) [] E' (tVar 9) (tCons (tVar 6) tNil) σ G Q' := by
  obtain ⟨dx, fs, hobj, n1, n2, n3, n4⟩ := D.ob
  exact ⟨_, h9, d, dx, fs, rfl, hobj, n1, _, h6, d, p, s, rfl, D, hp, hc, fun H' e' g he => hE e' _ (g.trans (same_new he _)) upd_same⟩
end
/-! ### the standing -/
structure R41 (C : Addr) (H0 : Hp) (pt d o : Addr) (L : List Addr) (H : Hp) (s : DS) (m q : Nat) : Prop where
  st : Sta C H0 pt d o L H s s m q
  own : OwnAt H o L s (s.stps : Nat)
  ok : s.DOk
/-- as it stands once lambdas are made -/
structure S41 (C PR : Addr) (H0 : Hp) (pt d o : Addr) (L : List Addr) (H : Hp) (s : DS) (m : Nat) : Prop where
  fr : ButN [pt] H0 H
  tab : Tabs (T41 PR) H
  door : DoorAt C H d s
  own : OwnAt H o L s (s.stps : Nat)
  pot : PotAt H pt m
  ok : s.DOk
  ptL : pt ∉ L
  dl : s.deeds.length ≤ 1000
section
variable {C PR : Addr} {H0 H H' : Hp} {pt d o : Addr} {L : List Addr} {s : DS} {m m' : Nat}
theorem S41.ext (S : S41 C PR H0 pt d o L H s m) (g : ExtN H H') (t : Tabs (T41 PR) H') : S41 C PR H0 pt d o L H' s m :=
  ⟨S.fr.trans (.ext g), t, S.door.kp (Kp.of g), S.own.kp (Kp.of g), S.pot.kp (Kp.of g), S.ok, S.ptL, S.dl⟩
theorem S41.same (S : S41 C PR H0 pt d o L H s m) (g : Same H H') : S41 C PR H0 pt d o L H' s m := S.ext (extN_same g) (Tabs.same S.tab g)
theorem S41.take (S : S41 C PR H0 pt d o L H s m) (g : But [pt] H H') (hp : PotAt H' pt m') : S41 C PR H0 pt d o L H' s m' := by
  obtain ⟨xs, z⟩ := S.pot.there
  refine ⟨S.fr.trans (.of g), Tabs.but S.tab g fun x hx u q => ?_, S.door.but g fun x hx => by rw [List.mem_singleton.mp hx]; exact .inl ⟨xs, z⟩, S.own.but g (fun x hx => by rw [List.mem_singleton.mp hx]; exact S.ptL) (S.pot.tk g), hp, S.ok, S.ptL, S.dl⟩
  rw [List.mem_singleton.mp hx, z] at q
  cases q
  exact ⟨fun _ z => (by cases z), fun _ z => (by cases z)⟩
theorem S41.ne (S : S41 C PR H0 pt d o L H s m) {a : Addr} (n : H a = none) : a ≠ pt := fun z => by
  obtain ⟨xs, e⟩ := S.pot.there
  rw [z, e] at n; cases n
theorem S41.nL (S : S41 C PR H0 pt d o L H s m) {a : Addr} (n : H a = none) : a ∉ L := fun z => by
  rcases S.own.kind a z with ⟨xs, e⟩ | ⟨xs, e⟩ <;> (rw [e] at n; cases n)
theorem S41.put {a : Addr} {xs ys : List V} {Hz : Hp} (S : S41 C PR H0 pt d o L H s m) (fz : ButN [pt] H0 Hz) (hz : Hz a = none) (h : H a = some (.lst xs)) (n : a ≠ pt) (nL : a ∉ L) : S41 C PR H0 pt d o L (upd H a (.lst ys)) s m := by
  have bb : But [a] H (upd H a (.lst ys)) := (But.refl _ _).put (by simp)
  refine ⟨fun b o nb q nt => ?_, Tabs.but S.tab bb fun x hx u q => ?_, S.door.but bb fun x hx => by rw [List.mem_singleton.mp hx]; exact .inl ⟨xs, h⟩, S.own.but bb (fun x hx => by rw [List.mem_singleton.mp hx]; exact nL) (.put h fun z => z), S.pot.but bb (by simpa using Ne.symm n), S.ok, S.ptL, S.dl⟩
  · by_cases e : b = a
    · subst e
      have := fz b o nb q nt
      rw [hz] at this; cases this
    · rw [upd_ne e]; exact S.fr b o nb q nt
  · rw [List.mem_singleton.mp hx, h] at q
    cases q
    exact ⟨fun _ z => (by cases z), fun _ z => (by cases z)⟩
end
theorem LamAt.extN {X : Cx} {H H' : Hp} {f : Addr} {params : Arguments} {body : Expr} {scope : Scope} (h : LamAt X H f params body scope) (g : ExtN H H') : LamAt X H' f params body scope := LamAt.ext h fun b φ q => g b _ q (fun _ z => by cases z)
theorem LamAt.put {X : Cx} {H : Hp} {f a : Addr} {xs ys : List V} {params : Arguments} {body : Expr} {scope : Scope} (h : LamAt X H f params body scope) (e : H a = some (.lst xs)) : LamAt X (upd H a (.lst ys)) f params body scope := LamAt.ext h fun b φ q => by
  rw [upd_ne (fun z => by rw [z, e] at q; cases q)]; exact q
theorem DA.put {H : Hp} {v : V} {d : PyData} {a : Addr} {xs ys : List V} {Hz : Hp} (hz : Hz a = none) (gz : ExtN Hz H) (h : DA Hz v d) (e : H a = some (.lst xs)) : DA (upd H a (.lst ys)) v d := h.ext fun b o q n => by
  rw [upd_ne (fun z => by rw [z, hz] at q; cases q)]; exact gz b o q n
theorem ext_put {Hz H : Hp} {a : Addr} {u : HO} (hz : Hz a = none) (g : ExtN Hz H) : ExtN Hz (upd H a u) := fun b o q n => by
  rw [upd_ne (fun z => by rw [z, hz] at q; cases q)]; exact g b o q n
theorem Sta.make1 {C : Addr} {H1 H2 H3 : Hp} {pt d dx o : Addr} {L : List Addr} {N m : Nat} (hP1 : PotAt H1 pt m) (hd : H1 d = none) (hdx : H1 dx = none) (hne : dx ≠ d)
    (b : But [d] (upd (upd H1 dx (.own d)) d (.ins C dx [])) H2) (D : DoorAt C H2 d (DS.new N)) (g3 : Same H2 H3) (hL : ∀ x ∈ L, H2 x = none) (O : OwnAt H3 o L (DS.new N) 0) : Sta C H1 pt d o L H3 (DS.new N) (DS.new N) m 0 := by
  have g2 : Same H1 (upd (upd H1 dx (.own d)) d (.ins C dx [])) := (same_new hdx _).trans (same_new (by rw [upd_ne (Ne.symm hne)]; exact hd) _)
  have pd : pt ≠ d := fun z => hP1.ne0 (by rw [z]; exact hd)
  have fr2 : But [pt] H1 H2 := (But.of (S := [pt]) g2).into b fun x hx => by rw [List.mem_singleton.mp hx]; exact .inl hd
  have hP2 : PotAt H2 pt m := (hP1.but (.of (S := []) g2) (by simp)).but b (by simpa using pd)
  exact ⟨fr2.trans (.of g3), D.same g3, ⟨_, O⟩, hP2.but (.of (S := []) g3) (by simp), hP1.ne0, hd, fun x hx => fr2.free hP2.ne0 (hL x hx), Nat.le_refl _⟩
/-! ### drawn values that are wrong, or fine -/
theorem Sm.bl (b : Bool) : Sm 1 0 (.bool b) := ⟨by simp [PyData.showable], by simp [PyData.canLay0], by simp [PyData.leavesShort], by simp [PyData.bulk], by simp [PyData.depth]⟩
abbrev nestD (k : Nat) : PyData := Nat.repeat (fun x => PyData.tuple [x]) k (.int 1)
theorem nest_sm : ∀ k : Nat, Sm (k + 1) k (nestD k)
  | 0 => Sm.int (by decide) (by decide)
  | k + 1 => (Sms.tup (.cons (nest_sm k) ((Sms.nil (k := k + 1) (n := 0))))).mono (Nat.le_refl _) (by omega)
theorem nest_tk {H H' : Hp} (g : TK H H') : ∀ (k : Nat) {v : V}, DA H v (nestD k) → DA H' v (nestD k)
  | 0, _, h => by cases h; exact .int _
  | k + 1, _, h => by
    cases h with
    | tup h t =>
      cases t with
      | cons a b =>
        cases b
        exact .tup (g.t h) (.cons (nest_tk g k a) .nil)
theorem DAs.rep {H : Hp} {v : V} {d : PyData} (h : DA H v d) : ∀ n : Nat, DAs H (List.replicate n v) (List.replicate n d)
  | 0 => .nil
  | n + 1 => .cons h (DAs.rep h n)
theorem non_sm (n : Nat) (h : n ≤ 1000) : Sm 2 1000 (.tuple (List.replicate n .none)) := (Sms.all (k := 1) (n := 0) (ds := List.replicate n .none) fun d hd => by rw [(List.mem_replicate.mp hd).2]; exact Sm.non).tup.mono (by decide) (by rw [List.length_replicate]; omega)
theorem wrong_vals {H : Hp} {a1 a2 a3 a4 a6 a7 : Addr} {nv : V} {nd : PyData} (h1 : H a1 = some (.lst [.int 1])) (h2 : H a2 = some (.lst [.int 2])) (h3 : H a3 = some (.tup [.int 1, .ref a2])) (h4 : H a4 = some (.tup [.bl true])) (h6 : H a6 = some (.tup (List.replicate 61 V.non))) (hn : DA H nv nd) (en : nd = nestD 13) (h7 : H a7 = some (.dK []))
    {x : V} {i : Nat} (h : ([.bl true, .int 10000, .int (-10000), .str "a", .ref a1, .ref a3, .ref a4, .ref a6, nv, .ref a7] : List V)[i]? = some x) : ∃ d, DA H x d ∧ ShowOk d ∧ smallD 12 d = false := by
  have hi := get_lt h
  have s1 : Sm 1 0 (.int 1) := Sm.int (by decide) (by decide)
  have s2 : Sm 1 0 (.int 2) := Sm.int (by decide) (by decide)
  have l2 : Sm 2 1 (.list [.int 2]) := (Sms.lst (.cons s2 (Sms.nil (n := 0)))).mono (by decide) (by decide)
  match i, hi with
  | 0, _ => cases h; exact ⟨_, .bl _, .inl ⟨1, 0, Sm.bl _, by decide, by decide⟩, by rfl⟩
  | 1, _ => cases h; exact ⟨_, .int _, .inl ⟨1, 0, ⟨by decide +kernel, by decide +kernel, by decide +kernel, by decide +kernel, by decide +kernel⟩, by decide, by decide⟩, by decide +kernel⟩
  | 2, _ => cases h; exact ⟨_, .int _, .inl ⟨1, 0, ⟨by decide +kernel, by decide +kernel, by decide +kernel, by decide +kernel, by decide +kernel⟩, by decide, by decide⟩, by decide +kernel⟩
  | 3, _ => cases h; exact ⟨_, .str _, .inl ⟨1, 10, sm_word "a" (by decide +kernel), by decide, by decide⟩, by rfl⟩
  | 4, _ => cases h; exact ⟨_, .lst h1 (.cons (.int _) .nil), .inl ⟨2, 1, (Sms.lst (.cons s1 (Sms.nil (n := 0)))).mono (by decide) (by decide), by decide, by decide⟩, by rfl⟩
  | 5, _ => cases h; exact ⟨_, .tup h3 (.cons (.int _) (.cons (.lst h2 (.cons (.int _) .nil)) .nil)), .inl ⟨3, 10, (Sms.tup (.cons (s1.mono (by decide : 1 ≤ 2) (Nat.le_refl 0)) (.cons l2 (Sms.nil (n := 0))))).mono (by decide) (by decide), by decide, by decide⟩, by decide +kernel⟩
  | 6, _ => cases h; exact ⟨_, .tup h4 (.cons (.bl _) .nil), .inl ⟨2, 1, (Sms.tup (.cons (Sm.bl true) (Sms.nil (n := 0)))).mono (by decide) (by decide), by decide, by decide⟩, by decide +kernel⟩
  | 7, _ => cases h; exact ⟨_, .tup h6 (DAs.rep .non 61), .inl ⟨2, 1000, non_sm 61 (by decide), by decide, by decide⟩, by decide +kernel⟩
  | 8, _ => cases h; rw [en] at hn; exact ⟨_, hn, .inl ⟨14, 13, nest_sm 13, by decide, by decide⟩, by decide +kernel⟩
  | 9, _ => cases h; exact ⟨_, .dct h7, .inr rfl, by rfl⟩
theorem fine_vals {H : Hp} {a1 a2 : Addr} {nv : V} {nd : PyData} (h1 : H a1 = some (.tup (List.replicate 60 V.non))) (hn : DA H nv nd) (en : nd = nestD 12) (h2 : H a2 = some (.tup []))
    {x : V} {i : Nat} (h : ([.non, .int (-9999), .ref a1, nv, .ref a2] : List V)[i]? = some x) : ∃ d k n, DA H x d ∧ Sm k n d ∧ k ≤ 20 ∧ n ≤ 1000 ∧ smallD 12 d = true := by
  have hi := get_lt h
  match i, hi with
  | 0, _ => cases h; exact ⟨_, 1, 0, .non, Sm.non, by decide, by decide, by rfl⟩
  | 1, _ => cases h; exact ⟨_, 1, 0, .int _, Sm.int (by decide) (by decide), by decide, by decide, by decide +kernel⟩
  | 2, _ => cases h; exact ⟨_, 2, 1000, .tup h1 (DAs.rep .non 60), non_sm 60 (by decide), by decide, by decide, by decide +kernel⟩
  | 3, _ => cases h; rw [en] at hn; exact ⟨_, 13, 12, hn, nest_sm 12, by decide, by decide, by decide +kernel⟩
  | 4, _ => cases h; exact ⟨_, 1, 0, .tup h2 .nil, (Sms.tup (Sms.nil (k := 0) (n := 0))), by decide, by decide, by decide +kernel⟩
end Fp
namespace Fp
open PySem PySem.Spec PyProof.Rows L2 LamX
theorem g_set {i : Nat} {v : V} {σ : L2.St} {H : Hp} {k : L2.St → Hp → Prop} (h : k (σ.set i (some v)) H) : gName i v σ H k := h
theorem yes_in {σ : L2.St} {H : Hp} {A B : Hp → Prop} (h : A H) : tYes σ H fun b H3 => if b = true then A H3 else B H3 := by
  show if true = true then A H else B H
  exact iteT h
theorem nx_in {f b c : L2.St → Hp → Prop} {r : VK} {σ : L2.St} {H : Hp} (h : f σ H) : ({ nx := f, rt := r, bk := b, ct := c } : Ends).nx σ H := h
theorem seq_in {a b : TS} {D : Ends} {σ : L2.St} {H : Hp} (h : a { nx := b D, rt := D.rt, bk := D.bk, ct := D.ct } σ H) : tSeq a b D σ H := h
theorem if_not {te : TE} {a b : TS} {D : Ends} {σ : L2.St} {H : Hp} (h : te σ H fun v H1 => ∃ c, v = .bl c ∧ if (!c) = true then a D σ H1 else b D σ H1) : tIfS (tNot (tB te)) a b D σ H := h
/-- values that are no numbers of players -/
theorem many_vals {H : Hp} {t l : Addr} (ht : H t = some (.tup [.int 2])) (hl : H l = some (.lst [.int 2])) {x : V} {i : Nat} (h : ([.int 0, .int 6, .int (-1), .bl true, .non, .str "2", .ref t, .ref l] : List V)[i]? = some x) : ∃ d, DA H x d ∧ ShowOk d ∧ BadMany d := by
  have hi := get_lt h
  have sm2 : Sm 1 0 (.int 2) := Sm.int (by decide) (by decide)
  match i, hi with
  | 0, _ => cases h; exact ⟨_, .int _, .inl ⟨1, 0, Sm.int (by decide) (by decide), by decide, by decide⟩, .inr ⟨_, rfl, by decide⟩⟩
  | 1, _ => cases h; exact ⟨_, .int _, .inl ⟨1, 0, Sm.int (by decide) (by decide), by decide, by decide⟩, .inr ⟨_, rfl, by decide⟩⟩
  | 2, _ => cases h; exact ⟨_, .int _, .inl ⟨1, 0, Sm.int (by decide) (by decide), by decide, by decide⟩, .inr ⟨_, rfl, by decide⟩⟩
  | 3, _ => cases h; exact ⟨_, .bl _, .inl ⟨1, 0, Sm.bl _, by decide, by decide⟩, .inl rfl⟩
  | 4, _ => cases h; exact ⟨_, .non, .inl ⟨1, 0, Sm.non, by decide, by decide⟩, .inl rfl⟩
  | 5, _ => cases h; exact ⟨_, .str _, .inl ⟨1, 10, sm_word "2" (by decide +kernel), by decide, by decide⟩, .inl rfl⟩
  | 6, _ => cases h; exact ⟨_, .tup ht (.cons (.int _) .nil), .inl ⟨2, 1, (Sms.tup (.cons sm2 (Sms.nil (n := 0)))).mono (by decide) (by decide), by decide, by decide⟩, .inl rfl⟩
  | 7, _ => cases h; exact ⟨_, .lst hl (.cons (.int _) .nil), .inl ⟨2, 1, (Sms.lst (.cons sm2 (Sms.nil (n := 0)))).mono (by decide) (by decide), by decide, by decide⟩, .inl rfl⟩
theorem hand_vals {H : Hp} {t : Addr} {N : Nat} (ht : H t = some (.tup [.int 0])) (hN : N ≤ 5) {x : V} {i : Nat} (h : ([.int N, .int (-1), .bl true, .non, .str "0", .ref t, .int ((10 : Int) ^ (8 : Int).toNat)] : List V)[i]? = some x) : ∃ d, DA H x d ∧ ShowOk d ∧ BadHand N d := by
  have hi := get_lt h
  have sm0 : Sm 1 0 (.int 0) := Sm.int (by decide) (by decide)
  have smB : Sm 1 0 (.int ((10 : Int) ^ (8 : Int).toNat)) := ⟨by decide +kernel, by decide +kernel, by decide +kernel, by decide +kernel, by decide +kernel⟩
  match i, hi with
  | 0, _ => cases h; exact ⟨_, .int _, .inl ⟨1, 0, Sm.int (by omega) (by omega), by decide, by decide⟩, .inr ⟨_, rfl, by omega⟩⟩
  | 1, _ => cases h; exact ⟨_, .int _, .inl ⟨1, 0, Sm.int (by decide) (by decide), by decide, by decide⟩, .inr ⟨_, rfl, by omega⟩⟩
  | 2, _ => cases h; exact ⟨_, .bl _, .inl ⟨1, 0, Sm.bl _, by decide, by decide⟩, .inl rfl⟩
  | 3, _ => cases h; exact ⟨_, .non, .inl ⟨1, 0, Sm.non, by decide, by decide⟩, .inl rfl⟩
  | 4, _ => cases h; exact ⟨_, .str _, .inl ⟨1, 10, sm_word "0" (by decide +kernel), by decide, by decide⟩, .inl rfl⟩
  | 5, _ => cases h; exact ⟨_, .tup ht (.cons (.int _) .nil), .inl ⟨2, 1, (Sms.tup (.cons sm0 (Sms.nil (n := 0)))).mono (by decide) (by decide), by decide, by decide⟩, .inl rfl⟩
  | 6, _ => cases h; exact ⟨_, .int _, .inl ⟨1, 0, smB, by decide, by decide⟩, .inr ⟨_, rfl, (by
      rintro ⟨_, z⟩
      have e : ((10 : Int) ^ (8 : Int).toNat) = 100000000 := by decide +kernel
      rw [e] at z
      omega)⟩⟩
section
variable {P : Program} {w : World} {K : PySem.W.Frag} {mg : Str → Option Value} {base : Heap} {f : Addr} {fd : FuncData} {C CH : Addr}
abbrev s_law_right : Stmt := top 38
theorem sc_law_right : FnScope ["pot", "many", "own", "lap", "coming", "looks", "player", "here", "away", "door", "fine", "hand", "value", "wrong", "look"] ["pot"] (defScope s_law_right) := ⟨rfl, rfl, rfl, by decide +kernel, rfl, by decide +kernel, by decide +kernel⟩
theorem notLook {y : Str} (hy : y = "door" ∨ y = "hand" ∨ y = "wrong") {i : Nat} (hi : (["pot","many","own","lap","coming","looks","player","here","away","door","fine","hand","value","wrong","look"] : List Str)[i]? = some y) : i ∉ [14] := fun m => by
  obtain rfl := List.mem_singleton.mp m
  have : y = "look" := (Option.some.inj hi).symm
  subst this
  rcases hy with h | h | h <;> exact absurd h (by decide)
theorem ok_law_right {e : E5} {cR PR : Addr} (F : Fun K "_law_right" "_law_right" s_law_right f fd) (hns : PySem.W.nsIn K mainGlobals "_law_right" = some (some (.ref f))) (hTab : PySem.W.tabIn K "_law_right" = some (cR, PR)) (TB : TabB base mg cR PR) (T : LTx mg) (hC : DC K C) (G_law_take : Fd P w K mg base CX0 "_law_take" 1 ["pot", "upto"] spTake) (G_law_of : Fd P w K mg base CX0 "_law_of" 2 ["pot", "some"] (spOf K)) (G_law_drawn_deed : Fd P w K mg base CX0 "_law_drawn_deed" 6 ["pot", "own"] spDeed) (G_law_door : Fd P w K mg base CX0 "_law_door" 1 ["many"] spODoor) (G_law_door_come : Fd P w K mg base CX0 "_law_door_come" 1 ["door", "player", "value"] spOCome) (G_law_door_step : Fd P w K mg base CX0 "_law_door_step" 1 ["door", "player"] spOStep)
    (G_law_nested : ∀ n, Fd P w K mg base CX0 "_law_nested" (n + 1) ["value", "deep"] (spNested n)) (G_law_is_refused : FdG P w K mg base CX0 "_law_is_refused" 19 ["call", "word", "value"] (spRefused P w K mg base e)) (G_law_is_door : FdG P w K mg base CX0 "_law_is_door" 6 ["door", "own"] (spIsDoor C))
    (M_Door : MkC P w K mg base "Door" C 2 ["self", "many"] (spDInit C)) (X_Door : MkX P w K mg base "Door" C 3 ["self", "many"] (spDInitX K e.m)) (M_step : Md P w K mg base CX0 C "step" 5 ["self", "player"] (spStep C)) (M_come : Md P w K mg base CX0 C "come" 8 ["self", "player", "value"] (spCome C)) (M_next : Md P w K mg base CX0 C "next" 4 ["self", "player"] (spNext C))
    (X_come : Md P w K mg base (L2.CX P w) C "come" 8 ["self", "player", "value"] (spComeX K C e.h)) (V_come : Md P w K mg base (L2.CX P w) C "come" 16 ["self", "player", "value"] (spComeV C e.v)) (C_come : Md P w K mg base (L2.CX P w) C "come" 16 ["self", "player", "value"] (spComeCD C e.c)) (F_come : Md P w K mg base CX0 C "come" 16 ["self", "player", "value"] (spComeF C))
    (X_step : Md P w K mg base (L2.CX P w) C "step" 5 ["self", "player"] (spCheckX K C e.h)) (N_step : Md P w K mg base (L2.CX P w) C "step" 5 ["self", "player"] (spStepN C e.n)) (X_next : Md P w K mg base (L2.CX P w) C "next" 4 ["self", "player"] (spCheckX K C e.h)) : FnOkG P w K mg base CX0 20 f fd ["pot"] (spRightT PR) := by
  refine fun_okT F hns hTab sc_law_right (fun vs H Q E h => ?_) (fun A outer s H vs Q E hr hgu h => ?_)
  · obtain ⟨p, rfl, _⟩ := h
    rfl
  obtain ⟨pt, rfl, hP, hT, k⟩ := h
  refine ⟨_, (pss_cons (ps_set (i := 1) sc_law_right.nd rfl (Or.inl rfl) (pe_mid (pe_op op_add pe_int (pe_fd G_law_take (hr.mono (by first | decide | omega)) rfl (pa_cons (pv 0) (pa_cons pe_int pa_nil))))))
  (pss_cons (ps_for PassesOwn.never rfl (pi_list (pe_lst (pa_cons pe_int (pa_cons pe_int (pa_cons (pe_un un_neg pe_int) (pa_cons pe_bl (pa_cons pe_non (pa_cons pe_str (pa_cons (pe_tup (pa_cons pe_int pa_nil)) (pa_cons (pe_lst (pa_cons pe_int pa_nil)) pa_nil)))))))))) (pg_name (i := 12) sc_law_right.nd rfl (Or.inr rfl)) (pss_one (ps_if (pt_not (pt_val (pe_fdC ["value"] (fun y hy => by simp only [List.mem_cons, List.not_mem_nil, or_false] at hy; rcases hy with rfl <;> first | exact Or.inl rfl | exact Or.inr rfl) (noFr_def rfl) G_law_is_refused (hr.mono (by decide)) hgu rfl (pa_cons (pe_lam (T := T41 PR) TB rfl (mem41 (by rfl)) (only41 (by rfl)) rfl (lamS_by (by first | rfl | kernel_rfl))) (pa_cons pe_str (pa_cons (pv 12) pa_nil)))))) (pss_one (ps_ret pe_bl)) pss_nil)))
  (pss_cons (ps_asg (pe_tup (pa_cons (pe_mk M_Door (hr.mono (by first | decide | omega)) rfl (pa_cons (pv 1) pa_nil)) (pa_cons (pe_fd G_law_door (hr.mono (by first | decide | omega)) rfl (pa_cons (pv 1) pa_nil)) pa_nil))) (pg_tup rfl (pgs_cons (pg_name (i := 9) sc_law_right.nd rfl (Or.inr rfl)) (pgs_cons (pg_name (i := 2) sc_law_right.nd rfl (Or.inr rfl)) pgs_nil))))
  (pss_cons (ps_for PassesOwn.never rfl (pi_range1 rfl T.range (pa_cons (pe_fd G_law_take (hr.mono (by first | decide | omega)) rfl (pa_cons (pv 0) (pa_cons pe_int pa_nil))) pa_nil)) (pg_name (i := 3) sc_law_right.nd rfl (Or.inl rfl)) (pss_cons (ps_asg (pe_fd G_law_drawn_deed (hr.mono (by first | decide | omega)) rfl (pa_cons (pv 0) (pa_cons (pv 2) pa_nil))) (pg_tup rfl (pgs_cons (pg_name (i := 6) sc_law_right.nd rfl (Or.inl rfl)) (pgs_cons (pg_name (i := 4) sc_law_right.nd rfl (Or.inl rfl)) pgs_nil))))
  (pss_one (ps_if (pt_cmpR op_notN (pv 4) pe_non (nomark _)) (pss_cons (ps_expr (pe_fd G_law_door_come (hr.mono (by first | decide | omega)) rfl (pa_cons (pv 2) (pa_cons (pv 6) (pa_cons (pe_ix ix_tup (pv 4) pe_int (fun _ _ => rfl)) pa_nil)))))
  (pss_one (ps_expr (pe_md (pv 9) hC.cl M_come (hr.mono (by first | decide | omega)) (pa_cons (pv 6) (pa_cons (pe_ix ix_tup (pv 4) pe_int (fun _ _ => rfl)) pa_nil)))))) (pss_cons (ps_expr (pe_fd G_law_door_step (hr.mono (by first | decide | omega)) rfl (pa_cons (pv 2) (pa_cons (pv 6) pa_nil))))
  (pss_one (ps_expr (pe_md (pv 9) hC.cl M_step (hr.mono (by first | decide | omega)) (pa_cons (pv 6) pa_nil)))))))))
  (pss_cons (ps_set (i := 11) sc_law_right.nd rfl (Or.inr rfl) (pe_fd G_law_of (hr.mono (by first | decide | omega)) rfl (pa_cons (pv 0) (pa_cons (pe_lst (pa_cons (pv 1) (pa_cons (pe_un un_neg pe_int) (pa_cons pe_bl (pa_cons pe_non (pa_cons pe_str (pa_cons (pe_tup (pa_cons pe_int pa_nil)) (pa_cons (pe_op op_pow pe_int pe_int) pa_nil)))))))) pa_nil))))
  (pss_cons (ps_set (i := 13) sc_law_right.nd rfl (Or.inr rfl) (pe_fd G_law_of (hr.mono (by first | decide | omega)) rfl (pa_cons (pv 0) (pa_cons (pe_lst (pa_cons pe_bl (pa_cons pe_int (pa_cons (pe_un un_neg pe_int) (pa_cons pe_str (pa_cons (pe_lst (pa_cons pe_int pa_nil)) (pa_cons (pe_tup (pa_cons pe_int (pa_cons (pe_lst (pa_cons pe_int pa_nil)) pa_nil))) (pa_cons (pe_tup (pa_cons pe_bl pa_nil)) (pa_cons (pe_op op_repT (pe_tup (pa_cons pe_non pa_nil)) pe_int) (pa_cons (pe_fd (G_law_nested 14) (hr.mono (by decide)) rfl (pa_cons pe_int (pa_cons pe_int pa_nil))) (pa_cons pe_dnewK pa_nil))))))))))) pa_nil))))
  (pss_cons (ps_set (i := 5) sc_law_right.nd rfl (Or.inl rfl) (pe_lst (pa_cons (pe_lam (T := T41 PR) TB rfl (mem41 (by rfl)) (only41 (by rfl)) rfl (lamS_by (by first | rfl | kernel_rfl))) pa_nil)))
  (pss_cons (ps_expr (pe_bm PySem.F.plainAttrs_list PySem.F.slot_list_append PySem.F.type_list_append mt_append (pv 5) (pa_cons (pe_lam (T := T41 PR) TB rfl (mem41 (by rfl)) (only41 (by rfl)) rfl (lamS_by (by first | rfl | kernel_rfl))) pa_nil)))
  (pss_cons (ps_expr (pe_bm PySem.F.plainAttrs_list PySem.F.slot_list_append PySem.F.type_list_append mt_append (pv 5) (pa_cons (pe_lam (T := T41 PR) TB rfl (mem41 (by rfl)) (only41 (by rfl)) rfl (lamS_by (by first | rfl | kernel_rfl))) pa_nil)))
  (pss_cons (ps_if (pt_not (pt_val (pe_callB (cr_all rfl) rfl T.all (by decide +kernel) (pa_cons (pe_lcX (own := [("look", 14)]) (g := (gName 14)) (tt := tYes) rfl sc_law_right.nd (pi_list (pv 5)) (blkOk_by (own := [("look", 14)]) (N := ["pot", "many", "own", "lap", "coming", "looks", "player", "here", "away", "door", "fine", "hand", "value", "wrong", "look"]) (sc := defScope s_law_right) (by decide +kernel)) (fun _ _ _ _ _ => (pg_name (i := 14) sc_law_right.nd rfl (Or.inl rfl))) (fun _ _ _ _ _ => pts_nil) (peb_fdC ["door", "hand", "wrong"] (fun y hy => by simp only [List.mem_cons, List.not_mem_nil, or_false] at hy; rcases hy with rfl | rfl | rfl <;> first | exact Or.inl rfl | exact Or.inr rfl) (noFr_def rfl) (fun y hy i hi => by simp only [List.mem_cons, List.not_mem_nil, or_false] at hy; exact notLook hy hi) G_law_is_refused (hr.mono (by decide)) hgu (fun _ _ _ _ _ => rfl) (fun _ _ _ _ _ => (pa_cons (pv 14) (pa_cons pe_str (pa_cons (pv 11) pa_nil)))))) pa_nil)))) (pss_one (ps_ret pe_bl)) pss_nil)
  (pss_cons (ps_setLc (i := 7) (own := [("player", 6)]) (g := (gName 6))  rfl sc_law_right.nd rfl rfl (sw_true rfl rfl rfl (by decide +kernel)) (pi_range1 rfl T.range (pa_cons (pv 1) pa_nil)) (blkOk_by (own := [("player", 6)]) (N := ["pot", "many", "own", "lap", "coming", "looks", "player", "here", "away", "door", "fine", "hand", "value", "wrong", "look"]) (sc := defScope s_law_right) (by decide +kernel)) (fun _ _ _ _ _ => (pg_name (i := 6) sc_law_right.nd rfl (Or.inl rfl))) (fun _ _ _ _ _ => (pts_one (pt_cmpR op_notN (pe_ix ix_listK (pe_dget (hu_of hr) (pv 2) pe_str (fun _ _ => rfl)) (pv 6) (fun _ _ => rfl)) pe_non (nomark _)))) (fun _ _ _ _ _ => (pv 6)))
  (pss_cons (ps_setLc (i := 8) (own := [("player", 6)]) (g := (gName 6))  rfl sc_law_right.nd rfl rfl (sw_true rfl rfl rfl (by decide +kernel)) (pi_range1 rfl T.range (pa_cons (pv 1) pa_nil)) (blkOk_by (own := [("player", 6)]) (N := ["pot", "many", "own", "lap", "coming", "looks", "player", "here", "away", "door", "fine", "hand", "value", "wrong", "look"]) (sc := defScope s_law_right) (by decide +kernel)) (fun _ _ _ _ _ => (pg_name (i := 6) sc_law_right.nd rfl (Or.inl rfl))) (fun _ _ _ _ _ => (pts_one (pt_cmpR op_isN (pe_ix ix_listK (pe_dget (hu_of hr) (pv 2) pe_str (fun _ _ => rfl)) (pv 6) (fun _ _ => rfl)) pe_non (nomark _)))) (fun _ _ _ _ _ => (pv 6)))
  (pss_cons (ps_if (pt_not (pt_val (pe_callB (cr_all rfl) rfl T.all (by decide +kernel) (pa_cons (pe_lcX (own := [("player", 6)]) (g := (gName 6)) (tt := tYes) rfl sc_law_right.nd (pi_list (pe_op op_cat (pv 7) (pv 8))) (blkOk_by (own := [("player", 6)]) (N := ["pot", "many", "own", "lap", "coming", "looks", "player", "here", "away", "door", "fine", "hand", "value", "wrong", "look"]) (sc := defScope s_law_right) (by decide +kernel)) (fun _ _ _ _ _ => (pg_name (i := 6) sc_law_right.nd rfl (Or.inr rfl))) (fun _ _ _ _ _ => pts_nil) (peb_all (fun σ0 s0 H0 C0 cl fp B => pe_fdC ["door", "player", "wrong"] (fun y hy => by simp only [List.mem_cons, List.not_mem_nil, or_false] at hy; rcases hy with rfl | rfl | rfl <;> first | exact Or.inl rfl | exact Or.inr rfl) (noFr_blk (blkOk_by (own := [("player", 6)]) (N := ["pot", "many", "own", "lap", "coming", "looks", "player", "here", "away", "door", "fine", "hand", "value", "wrong", "look"]) (sc := defScope s_law_right) (by decide +kernel)) (noFr_def rfl) B) G_law_is_refused (hr.mono (by decide)) hgu rfl (pa_cons (pe_lam (T := T41 PR) TB rfl (mem41 (by rfl)) (only41 (by rfl)) rfl (lamS_by (by first | rfl | kernel_rfl))) (pa_cons pe_str (pa_cons (pv 13) pa_nil)))))) pa_nil)))) (pss_one (ps_ret pe_bl)) pss_nil)
  (pss_cons (ps_set (i := 10) sc_law_right.nd rfl (Or.inr rfl) (pe_fd G_law_of (hr.mono (by first | decide | omega)) rfl (pa_cons (pv 0) (pa_cons (pe_lst (pa_cons pe_non (pa_cons (pe_un un_neg pe_int) (pa_cons (pe_op op_repT (pe_tup (pa_cons pe_non pa_nil)) pe_int) (pa_cons (pe_fd (G_law_nested 13) (hr.mono (by decide)) rfl (pa_cons pe_int (pa_cons pe_int pa_nil))) (pa_cons (pe_tup pa_nil) pa_nil)))))) pa_nil))))
  (pss_cons (ps_if (pt_not (pt_val (pe_callB (cr_all rfl) rfl T.all (by decide +kernel) (pa_cons (pe_lcX (own := [("player", 6)]) (g := (gName 6)) (tt := tYes) rfl sc_law_right.nd (pi_list (pv 7)) (blkOk_by (own := [("player", 6)]) (N := ["pot", "many", "own", "lap", "coming", "looks", "player", "here", "away", "door", "fine", "hand", "value", "wrong", "look"]) (sc := defScope s_law_right) (by decide +kernel)) (fun _ _ _ _ _ => (pg_name (i := 6) sc_law_right.nd rfl (Or.inr rfl))) (fun _ _ _ _ _ => pts_nil) (peb_all (fun σ0 s0 H0 C0 cl fp B => pe_fdC ["door", "player", "fine"] (fun y hy => by simp only [List.mem_cons, List.not_mem_nil, or_false] at hy; rcases hy with rfl | rfl | rfl <;> first | exact Or.inl rfl | exact Or.inr rfl) (noFr_blk (blkOk_by (own := [("player", 6)]) (N := ["pot", "many", "own", "lap", "coming", "looks", "player", "here", "away", "door", "fine", "hand", "value", "wrong", "look"]) (sc := defScope s_law_right) (by decide +kernel)) (noFr_def rfl) B) G_law_is_refused (hr.mono (by decide)) hgu rfl (pa_cons (pe_lam (T := T41 PR) TB rfl (mem41 (by rfl)) (only41 (by rfl)) rfl (lamS_by (by first | rfl | kernel_rfl))) (pa_cons pe_str (pa_cons (pv 6) pa_nil)))))) pa_nil)))) (pss_one (ps_ret pe_bl)) pss_nil)
  (pss_cons (ps_if (pt_not (pt_val (pe_callB (cr_all rfl) rfl T.all (by decide +kernel) (pa_cons (pe_lcX (own := [("player", 6)]) (g := (gName 6)) (tt := tYes) rfl sc_law_right.nd (pi_list (pv 8)) (blkOk_by (own := [("player", 6)]) (N := ["pot", "many", "own", "lap", "coming", "looks", "player", "here", "away", "door", "fine", "hand", "value", "wrong", "look"]) (sc := defScope s_law_right) (by decide +kernel)) (fun _ _ _ _ _ => (pg_name (i := 6) sc_law_right.nd rfl (Or.inr rfl))) (fun _ _ _ _ _ => pts_nil) (peb_all (fun σ0 s0 H0 C0 cl fp B => pe_fdC ["door", "player"] (fun y hy => by simp only [List.mem_cons, List.not_mem_nil, or_false] at hy; rcases hy with rfl | rfl <;> first | exact Or.inl rfl | exact Or.inr rfl) (noFr_blk (blkOk_by (own := [("player", 6)]) (N := ["pot", "many", "own", "lap", "coming", "looks", "player", "here", "away", "door", "fine", "hand", "value", "wrong", "look"]) (sc := defScope s_law_right) (by decide +kernel)) (noFr_def rfl) B) G_law_is_refused (hr.mono (by decide)) hgu rfl (pa_cons (pe_lam (T := T41 PR) TB rfl (mem41 (by rfl)) (only41 (by rfl)) rfl (lamS_by (by first | rfl | kernel_rfl))) (pa_cons pe_str (pa_cons (pv 6) pa_nil)))))) pa_nil)))) (pss_one (ps_ret pe_bl)) pss_nil)
  (pss_cons (ps_if (PW.pt (pw_or (pt_not (pt_val (pe_fdG G_law_is_door (hr.mono (by decide)) hgu rfl (pa_cons (pv 9) (pa_cons (pv 2) pa_nil))))) (pw_or1 (pt_not (pt_val (pe_callB (cr_all rfl) rfl T.all (by decide +kernel) (pa_cons (pe_lc (own := [("player", 6)]) (g := (gName 6)) (tt := tYes) rfl sc_law_right.nd (pi_list (pv 8)) (blkOk_by (own := [("player", 6)]) (N := ["pot", "many", "own", "lap", "coming", "looks", "player", "here", "away", "door", "fine", "hand", "value", "wrong", "look"]) (sc := defScope s_law_right) (by decide +kernel)) (fun _ _ _ _ _ => (pg_name (i := 6) sc_law_right.nd rfl (Or.inl rfl))) (fun _ _ _ _ _ => pts_nil) (fun _ _ _ _ _ => (pe_cmpR op_isN (pe_md (pv 9) hC.cl M_next (hr.mono (by first | decide | omega)) (pa_cons (pv 6) pa_nil)) pe_non (nomark _)))) pa_nil))))))) (pss_one (ps_ret pe_bl)) pss_nil)
  (pss_one (ps_ret (pe_or (pe_cmpR (op_eqD hr.units) (pv 8) (pe_lst pa_nil) (nomark _)) (pe_one (pe_and (pe_cmpR op_isN (pe_md (pv 9) hC.cl F_come (hr.mono (by decide)) (pa_cons (pe_ix ix_list (pv 8) pe_int (fun _ _ => rfl)) (pa_cons (pv 10) pa_nil))) pe_non (nomark _)) (pe_one (pe_cmpR op_eq (pe_callB (call_reprX hgu (u66 hr)) rfl T.repr (by decide +kernel) (pa_cons (pe_ix ix_tup (pe_fld (pv 9) rfl) (pe_ix ix_list (pv 8) pe_int (fun _ _ => rfl)) (fun _ _ => rfl)) pa_nil)) (pe_callB (call_reprX hgu (u66 hr)) rfl T.repr (by decide +kernel) (pa_cons (pe_tup (pa_cons (pv 10) pa_nil)) pa_nil)) (nomark _))))))))))))))))))))))))), ?_⟩
  refine ⟨fun y H' => ∃ N : Nat, y = .int N ∧ 2 ≤ N ∧ N ≤ 5 ∧ But [pt] H H' ∧ PotAt H' pt 1, ⟨_, rfl, pt, 4, 0, rfl, by decide, by decide, by decide, hP, fun n0 H1 hn0 g1 hP1 => ⟨_, _, rfl, rfl, 2 + n0, (by show V.int (2 + (n0 : Int)) = _; congr 1), by omega, by omega, g1, hP1⟩⟩, ?_⟩
  rintro y H1 ⟨N, rfl, hN2, hN5, g1, hP1⟩
  have potK : ∀ {H : Hp} {m : Nat}, PotAt H pt m → ∀ x ∈ [pt], ∀ o, H x = some o → (∀ ps, o ≠ .tbl ps) ∧ ∀ φ, o ≠ .ext φ := fun {H m} hP x hx o q => by
    obtain ⟨xs, z⟩ := hP.there
    rw [List.mem_singleton.mp hx, z] at q
    cases q
    exact ⟨fun _ z => (by cases z), fun _ z => (by cases z)⟩
  have hT1 : Tabs (T41 PR) H1 := Tabs.but hT g1 (potK hP)
  refine ⟨_, rfl, szl (by show 1 ≤ _; decide), fun t nt => ⟨szl (by show 1 ≤ _; decide), fun l2 nl2 => ⟨szl (by show 8 ≤ _; decide), fun vl nvl => ?_⟩⟩⟩
  have ga := same_new nt (.tup [.int 2])
  have gb := same_new nl2 (.lst [.int 2])
  have gc := same_new nvl (.lst [.int 0, .int 6, .int (-1), .bl true, .non, .str "2", .ref t, .ref l2])
  have ht := gc _ _ (gb _ _ (upd_same : upd H1 t (.tup [.int 2]) t = _))
  have hl2 := gc _ _ (upd_same : upd (upd H1 t (.tup [.int 2])) l2 (.lst [.int 2]) l2 = _)
  have hvl : upd (upd (upd H1 t (.tup [.int 2])) l2 (.lst [.int 2])) vl (.lst [.int 0, .int 6, .int (-1), .bl true, .non, .str "2", .ref t, .ref l2]) vl = _ := upd_same
  have g2 := (ga.trans gb).trans gc
  have hT2 := Tabs.same hT1 g2
  refine ⟨vl, rfl, ⟨_, .of hvl⟩, ?_⟩
  generalize upd (upd (upd H1 t (.tup [.int 2])) l2 (.lst [.int 2])) vl (.lst [.int 0, .int 6, .int (-1), .bl true, .non, .str "2", .ref t, .ref l2]) = H2 at ht hl2 hvl g2 hT2 ⊢
  refine for_list (K := K) (a := vl) (xs := [.int 0, .int 6, .int (-1), .bl true, .non, .str "2", .ref t, .ref l2]) (fun i σ H' => ∃ u12, σ = [some (.ref pt), some (.int N), none, none, none, none, none, none, none, none, none, none, u12, none, none] ∧ ExtN H2 H' ∧ Tabs (T41 PR) H') ⟨none, rfl, .refl _, hT2⟩ ?_ ?_ ?_
  · rintro i σ H' _ ⟨u12, rfl, g, _⟩
    exact .of (g _ _ hvl (fun _ z => (by cases z)))
  · rintro i x σ H' hx ⟨u12, rfl, g, hT'⟩
    obtain ⟨vd, hd, hs, hb⟩ := many_vals (g _ _ ht (fun _ z => (by cases z))) (g _ _ hl2 (fun _ z => (by cases z))) hx
    refine g_set ?_
    refine if_not ?_
    refine refused_lam (d := vd) (i := 0) (t := fun E => tMake C (spDInitX K e.m) [] E (tCons (tVar 12) tNil)) ?L lamB0 ?hb ?hy (by decide) hd hs hT' (fun H1 Q1 g1 q => ⟨_, rfl, q⟩) (fun G Q' E' gk hE => mk_bad rfl (hd.kp gk) hb hE) fun H3 g3 hT3 => ?_
    case L => exact lamS_by (by first | rfl | kernel_rfl)
    case hb => exact fun A outer s H E f c' hr => pe_mkE (takes_of rfl rfl rfl rfl) X_Door (hr.mono (by decide)) rfl (pa_cons (pv 12) pa_nil)
    case hy => decide
    exact ⟨true, rfl, ite_no rfl ⟨_, rfl, g.trans g3, hT3⟩⟩
  rintro σ Hb ⟨u12, rfl, gb', hTb⟩
  have eN : ExtN H1 Hb := (extN_same g2).trans gb'
  have hPb : PotAt Hb pt 1 := hP1.kp (Kp.of eN)
  refine ⟨_, rfl, fun d dx hd hdx hne => ?_⟩
  refine ⟨d, dx, N, rfl, by omega, hN5, upd_same, by rw [upd_ne hne]; exact upd_same, fun H2' b2 D2 => ⟨rfl, ?_⟩⟩
  refine ⟨_, rfl, N, rfl, hN5, fun o L H3 g3 hL O3 => ?_⟩
  refine ⟨szl (by show 2 ≤ _; decide), fun tt ntt => ⟨tt, _, rfl, .of upd_same, rfl, _, _, rfl, _, _, rfl, rfl, ?_⟩⟩
  have gt := same_new ntt (.tup [.ref d, .ref o])
  have S0 : R41 C Hb pt d o L (upd H3 tt (.tup [.ref d, .ref o])) (DS.new N) 1 0 := ⟨(Sta.make1 hPb hd hdx hne b2 D2 g3 hL O3).same gt, O3.same gt, DS.DOk.new N⟩
  generalize upd H3 tt (.tup [.ref d, .ref o]) = H4 at S0
  have l0 : (DS.new N).lev.length = N := by simp [DS.new]
  generalize DS.new N = s0 at S0 l0
  refine ⟨_, rfl, pt, 12, 1, rfl, by decide, by decide, by decide, S0.st.pot, fun n1 H5 hn1 g5 hP5 => ?_⟩
  have S1 : R41 C Hb pt d o L H5 s0 2 0 := ⟨S0.st.take g5 hP5, S0.own.but g5 (fun x hx => by rw [List.mem_singleton.mp hx]; exact S0.st.ptL) (S0.st.pot.tk g5), S0.ok⟩
  refine ⟨_, rfl, by omega, by omega, for_range (lo := 0) (n := n1) (fun i σ H' => ∃ u3 u4 u6 s, σ = [some (.ref pt), some (.int N), some (.ref o), u3, u4, none, u6, none, none, some (.ref d), none, none, u12, none, none] ∧ s.lev.length = N ∧ R41 C Hb pt d o L H' s (2 + i * 100) i) ?_ ?_ ?_⟩
  · exact ⟨none, none, none, s0, rfl, l0, S1⟩
  · rintro i σ H' hi ⟨u3, u4, u6, s, rfl, hl, R⟩
    have O := R.own
    have S := R.st
    have W := S.door.wf
    refine ⟨_, rfl, _, rfl, pt, o, L, s, _, _, rfl, O, W, S.ptL, S.pot, by omega, fun t p H1' g1' hP1' hp hcase => ?_⟩
    have S2 := S.take g1' hP1'
    have O2 : OwnAt H1' o L s (s.stps : Nat) := O.but g1' (fun x hx => by rw [List.mem_singleton.mp hx]; exact S.ptL) (S.pot.tk g1')
    rcases hcase with ⟨hc, q, v, ht, hq, dv, hv, ho⟩ | ⟨hc, ht⟩
    · have gd : Good H1' v := ⟨dv, hv, ho.up⟩
      refine ⟨t, _, rfl, .of ht, rfl, _, _, rfl, _, _, rfl, rfl, ?_⟩
      refine ⟨_, rfl, rfl, _, rfl, iteT ?_⟩
      refine ⟨_, rfl, _, rfl, _, rfl, q, _, _, _, rfl, rfl, .of hq, atI_nat (j := 0) rfl, o, L, p, v, s, _, rfl, O2, hp, W, fun H6 g6 O6 => ?_⟩
      have tk6 := O2.tk g6
      have S3 := S2.stepO g6 O6
      obtain ⟨dx', fs, hobj, n1', n2', n3', n4'⟩ := S3.door.ob
      refine ⟨_, rfl, d, dx', fs, rfl, hobj, n2', _, rfl, _, rfl, q, _, _, _, rfl, rfl, .of (tk6.t hq), atI_nat (j := 0) rfl, d, p, v, s, rfl, S3.door, hp, hc, gd.mono tk6, by have := S3.dl; omega, fun H7 g7 D7 => ?_⟩
      have S4 := S3.stepD g7 D7 (q' := i + 1) (by rw [deeds_come]; have := S3.dl; omega)
      have O7 := O6.but g7 (fun x hx => by rw [List.mem_singleton.mp hx]; exact S3.dL) (S3.door.tk g7)
      refine ⟨_, _, _, s.come p v, rfl, hl, ⟨S4.fr, S4.door, S4.own, S4.pot.mono (by omega), S4.p0, S4.d0, S4.L0, S4.dl⟩, by rw [stps_come]; exact O7, R.ok.come W hp hc⟩
    · refine ⟨t, _, rfl, .of ht, rfl, _, _, rfl, _, _, rfl, rfl, ?_⟩
      refine ⟨_, rfl, rfl, _, rfl, iteF ?_⟩
      refine ⟨_, rfl, _, rfl, o, L, p, s, _, rfl, O2, hc, W, fun t2 H6 g6 ht2 O6 => ?_⟩
      have S3 := S2.stepO g6 O6
      obtain ⟨dx', fs, hobj, n1', n2', n3', n4'⟩ := S3.door.ob
      refine ⟨_, rfl, d, dx', fs, rfl, hobj, n1', _, rfl, d, p, s, rfl, S3.door, hc, by have := S3.dl; omega, fun t1 H7 g7 ht1 D7 => ?_⟩
      have S4 := S3.stepD g7 D7 (q' := i + 1) (by rw [deeds_step]; have := S3.dl; omega)
      have O7 := O6.but g7 (fun x hx => by rw [List.mem_singleton.mp hx]; exact S3.dL) (S3.door.tk g7)
      refine ⟨_, _, _, s.step p, rfl, by rw [DS.len_step]; exact hl, ⟨S4.fr, S4.door, S4.own, S4.pot.mono (by omega), S4.p0, S4.d0, S4.L0, S4.dl⟩, by rw [stps_step]; exact O7, R.ok.step W hc⟩
  rintro σ H6 ⟨u3, u4, u6, s, rfl, hl, R⟩
  have W := R.st.door.wf
  have ptd := R.st.ptd
  have nd0 : ∀ o, H d = some o → (∀ ps, o ≠ .tbl ps) → False := fun o q n => by
    have := ((ButN.of g1).trans (.ext eN)) d o (by simpa using Ne.symm ptd) q n
    rw [R.st.d0] at this; cases this
  have S6 : S41 C PR H pt d o L H6 s 2000 := ⟨(((ButN.of g1).trans (.ext eN)).trans (.of R.st.fr)), Tabs.but hTb R.st.fr (potK hPb), R.st.door, R.own, R.st.pot.mono (by omega), R.ok, R.st.ptL, Nat.le_trans R.st.dl (by omega)⟩
  refine ⟨_, rfl, _, rfl, _, rfl, szl (by show 1 ≤ _; decide), fun t0 nt0 => ⟨_, _, rfl, rfl, ⟨by decide, by decide, by decide⟩, szl (by show 7 ≤ _; decide), fun hl0 nhl0 => ?_⟩⟩
  have S7 := S6.same ((same_new nt0 (.tup [.int 0])).trans (same_new nhl0 (.lst [.int N, .int (-1), .bl true, .non, .str "0", .ref t0, .int ((10 : Int) ^ (8 : Int).toNat)])))
  have ht0 := same_new nhl0 (.lst [.int N, .int (-1), .bl true, .non, .str "0", .ref t0, .int ((10 : Int) ^ (8 : Int).toNat)]) _ _ (upd_same : upd H6 t0 (.tup [.int 0]) t0 = _)
  refine ⟨pt, hl0, _, 2000, rfl, .of upd_same, ?_, by simp, by show 7 < 1000000; decide, by decide, S7.pot, fun j hand H8 hj g8 hP8 => ?_⟩
  · exact fun z => by rw [z] at nhl0; exact (S6.same (same_new nt0 (.tup [.int 0]))).pot.ne0 nhl0
  have S8 := S7.take g8 hP8
  have ht8 := g8 _ _ (by simpa using S6.ne nt0) ht0
  have k0 := S6.ne nt0
  generalize upd (upd H6 t0 (.tup [.int 0])) hl0 (.lst [.int N, .int (-1), .bl true, .non, .str "0", .ref t0, .int ((10 : Int) ^ (8 : Int).toNat)]) = H7 at S7 g8 ht0
  refine ⟨_, rfl, _, rfl, szl (by show 1 ≤ _; decide), fun a1 n1 => ?_⟩
  refine ⟨szl (by show 1 ≤ _; decide), fun a2 n2 => ⟨szl (by show 2 ≤ _; decide), fun a3 n3 => ?_⟩⟩
  refine ⟨szl (by show 1 ≤ _; decide), fun a4 n4 => ⟨szl (by show 1 ≤ _; decide), fun a5 n5 => ?_⟩⟩
  refine ⟨a5, 61, [.non], rfl, rfl, .of upd_same, by simp, by decide, by decide, by decide, fun a6 n6 => ?_⟩
  refine ⟨13, rfl, by decide, fun nv nd Hn gn hnv hnd a7 n7 => ?_⟩
  refine ⟨szl (by show 10 ≤ _; decide), fun wl nwl => ?_⟩
  have e1 := same_new n1 (.lst [.int 1])
  have e2 := same_new n2 (.lst [.int 2])
  have e3 := same_new n3 (.tup [.int 1, .ref a2])
  have e4 := same_new n4 (.tup [.bl true])
  have e5 := same_new n5 (.tup [.non])
  have e6 := same_new n6 (.tup (List.replicate (61 : Int).toNat [V.non]).flatten)
  have e7 := same_new n7 (.dK [])
  have e8 := same_new nwl (.lst [.bl true, .int 10000, .int (-10000), .str "a", .ref a1, .ref a3, .ref a4, .ref a6, nv, .ref a7])
  have k1 := S8.ne n1
  have k2 := (S8.same e1).ne n2
  have k3 := ((S8.same e1).same e2).ne n3
  have k4 := (((S8.same e1).same e2).same e3).ne n4
  have k6 := (((((S8.same e1).same e2).same e3).same e4).same e5).ne n6
  have Sn := ((((((S8.same e1).same e2).same e3).same e4).same e5).same e6).same gn
  have k7 := Sn.ne n7
  have kw := (Sn.same e7).ne nwl
  have S9 := (Sn.same e7).same e8
  have u7 := e8 _ _ (upd_same : upd Hn a7 (.dK []) a7 = _)
  have v6 := (gn.trans e7).trans e8
  have u6' := v6 _ _ upd_same
  have v4 := (e5.trans e6).trans v6
  have u4' := v4 _ _ upd_same
  have v3 := e4.trans v4
  have u3' := v3 _ _ upd_same
  have v2 := e3.trans v3
  have u2' := v2 _ _ upd_same
  have v1 := e2.trans v2
  have u1' := v1 _ _ upd_same
  have un : DA _ nv nd := (hnv.ext (extN_same e7)).ext (extN_same e8)
  have g89 := e1.trans v1
  have hw9 : upd (upd Hn a7 (.dK [])) wl (.lst [.bl true, .int 10000, .int (-10000), .str "a", .ref a1, .ref a3, .ref a4, .ref a6, nv, .ref a7]) wl = _ := upd_same
  clear e1 e2 e3 e4 e5 e6 e7 e8 v1 v2 v3 v4 v6
  generalize upd (upd Hn a7 (.dK [])) wl (.lst [.bl true, .int 10000, .int (-10000), .str "a", .ref a1, .ref a3, .ref a4, .ref a6, nv, .ref a7]) = H9 at S9 u7 u6' u4' u3' u2' u1' un g89 hw9 ⊢
  refine ⟨pt, wl, _, 2001, rfl, .of hw9, kw, by simp, by show 10 < 1000000; decide, by decide, S9.pot, fun j2 wrong H10 hj2 g10 hP10 => ?_⟩
  have S10 := S9.take g10 hP10
  have o10 : ∀ {a : Addr} {u : HO}, H9 a = some u → a ≠ pt → H10 a = some u := fun q n => g10 _ _ (by simpa using n) q
  obtain ⟨wd, hw, hsw, hsm⟩ := wrong_vals (o10 u1' k1) (o10 u2' k2) (o10 u3' k3) (o10 u4' k4) (o10 u6' k6) (by rw [hnd] at un; exact nest_tk (S9.pot.tk g10) 13 un) rfl (o10 u7 k7) hj2
  obtain ⟨hd8, hh, hsh, hbh⟩ := hand_vals (o10 (g89 _ _ ht8) k0) hN5 hj
  rw [← hl] at hbh
  refine ⟨S10.tab, fun f1 H11 g11 T11 nf1 hf1 => ⟨szl (by show 1 ≤ _; decide), fun ll nll => ?_⟩⟩
  have S11 := S10.ext g11 T11
  have gl := same_new nll (.lst [.ref f1])
  have S12 := S11.same gl
  have nLl := S11.nL nll
  have npl := S11.ne nll
  have h12 : upd H11 ll (.lst [.ref f1]) ll = some (.lst [.ref f1]) := upd_same
  have hf1 := LamAt.extN hf1 (extN_same gl)
  generalize upd H11 ll (.lst [.ref f1]) = H12 at gl S12 h12 hf1
  refine ⟨_, rfl, .inl ⟨rfl, _, .of h12⟩, S12.tab, fun f2 H13 g13 T13 nf2 hf2 => ?_⟩
  have S13 := S12.ext g13 T13
  have h13 := g13 _ _ h12 (fun _ z => (by cases z))
  have hf1 := LamAt.put (ys := [.ref f1] ++ [.ref f2]) (LamAt.extN hf1 g13) h13
  have hf2 := LamAt.put (ys := [.ref f1] ++ [.ref f2]) hf2 h13
  refine ⟨ll, _, _, rfl, rfl, h13, by simp [sizeLine_eq], ?_⟩
  have S14 := S13.put (ys := [.ref f1] ++ [.ref f2]) S11.fr nll h13 npl nLl
  have h14 : upd H13 ll (.lst ([.ref f1] ++ [.ref f2])) ll = some (.lst [.ref f1, .ref f2]) := upd_same
  have x14 : ExtN H11 (upd H13 ll (.lst ([.ref f1] ++ [.ref f2]))) := ext_put nll ((extN_same gl).trans g13)
  generalize upd H13 ll (.lst ([.ref f1] ++ [.ref f2])) = H14 at S14 h14 x14 hf1 hf2
  refine ⟨_, rfl, .inl ⟨rfl, _, .of h14⟩, S14.tab, fun f3 H15 g15 T15 nf3 hf3 => ?_⟩
  have S15 := S14.ext g15 T15
  have h15 := g15 _ _ h14 (fun _ z => (by cases z))
  have hf1 := LamAt.put (ys := [.ref f1, .ref f2] ++ [.ref f3]) (LamAt.extN hf1 g15) h15
  have hf2 := LamAt.put (ys := [.ref f1, .ref f2] ++ [.ref f3]) (LamAt.extN hf2 g15) h15
  have hf3 := LamAt.put (ys := [.ref f1, .ref f2] ++ [.ref f3]) hf3 h15
  refine ⟨ll, _, _, rfl, rfl, h15, by simp [sizeLine_eq], ?_⟩
  have S16 := S15.put (ys := [.ref f1, .ref f2] ++ [.ref f3]) S11.fr nll h15 npl nLl
  have h16 : upd H15 ll (.lst ([.ref f1, .ref f2] ++ [.ref f3])) ll = some (.lst [.ref f1, .ref f2, .ref f3]) := upd_same
  have x16 : ExtN H11 (upd H15 ll (.lst ([.ref f1, .ref f2] ++ [.ref f3]))) := ext_put nll (x14.trans g15)
  have hh16 := hh.ext (g11.trans x16)
  have hw16 := hw.ext (g11.trans x16)
  generalize upd H15 ll (.lst ([.ref f1, .ref f2] ++ [.ref f3])) = H16 at S16 h16 x16 hf1 hf2 hf3 hh16 hw16 ⊢
  refine nx_in ?_
  refine seq_in ?_
  refine if_not ?_
  refine ⟨_, rfl, ll, rfl, ⟨_, .of h16⟩, fun D0 hD0 => ?_⟩
  have gD := same_new hD0 (.lst [])
  refine lc_list (K := K) (a := ll) (xs := [.ref f1, .ref f2, .ref f3]) (fun i H' => Same H16 H' ∧ H' D0 = some (.lst ((List.replicate i true).map V.bl))) ⟨gD, upd_same⟩ (fun i H' _ z => .of (z.1 _ _ h16)) ?_ ?_
  · rintro i x H' hx ⟨g, hD'⟩
    refine ⟨rfl, yes_in ?_⟩
    have hi := get_lt hx
    have hi : i < 3 := hi
    have fin : ∀ H4, Same H' H4 → ∃ acc, H4 D0 = some (HO.lst acc) ∧ acc.length < sizeLine ∧ Same H16 (upd H4 D0 (HO.lst (acc ++ [.bl true]))) ∧ upd H4 D0 (HO.lst (acc ++ [.bl true])) D0 = some (HO.lst (List.map V.bl (List.replicate (i + 1) true))) := fun H4 g4 =>
      ⟨_, g4 _ _ hD', szt (by rw [List.length_map, List.length_replicate]; omega), fun b o q => by rw [upd_ne (ne_of_none q hD0)]; exact g4 _ _ (g _ _ q), by rw [upd_same, List.replicate_succ', List.map_append]; rfl⟩
    have hh' := hh16.ext (extN_same g)
    rcases (show i = 0 ∨ i = 1 ∨ i = 2 by omega) with rfl | rfl | rfl
    · cases hx
      refine refused_old (f := f1) (d := hd8) (i := 1) (t := fun E => tMeth C "come" (spComeX K C e.h) [] E (tVar 9) (tCons (tVar 11) (tCons (tVar 13) tNil))) ?L lamB0 ?hb ?hy (by decide) hh' hsh (LamAt.extN hf1 (extN_same g)) ⟨_, rfl, rfl, rfl⟩ ⟨_, rfl, rfl, rfl⟩ (fun hq ⟨v, e, q⟩ => ⟨v, e, hq _ _ q⟩) (fun hq ⟨v, e, q⟩ => ⟨v, e, hq _ _ q⟩) (fun G Q' E' gk hE => come_hand rfl rfl rfl (S16.door.kp ((kp_same g).trans gk)) (hh'.kp gk) hbh hE) fin
      case L => exact lamS_by (by first | rfl | kernel_rfl)
      case hb => exact fun A outer s H E f c' hr => pe_mdE (takes_of rfl rfl rfl rfl) (pv 9) hC.cl X_come (hr.mono (by decide)) (pa_cons (pv 11) (pa_cons (pv 13) pa_nil))
      case hy => decide
    · cases hx
      refine refused_old (f := f2) (d := hd8) (i := 1) (t := fun E => tMeth C "step" (spCheckX K C e.h) [] E (tVar 9) (tCons (tVar 11) tNil)) ?L lamB0 ?hb ?hy (by decide) hh' hsh (LamAt.extN hf2 (extN_same g)) ⟨_, rfl, rfl, rfl⟩ ⟨_, rfl, rfl, rfl⟩ (fun hq ⟨v, e, q⟩ => ⟨v, e, hq _ _ q⟩) (fun hq ⟨v, e, q⟩ => ⟨v, e, hq _ _ q⟩) (fun G Q' E' gk hE => step_hand rfl rfl (S16.door.kp ((kp_same g).trans gk)) (hh'.kp gk) hbh hE) fin
      case L => exact lamS_by (by first | rfl | kernel_rfl)
      case hb => exact fun A outer s H E f c' hr => pe_mdE (takes_of rfl rfl rfl rfl) (pv 9) hC.cl X_step (hr.mono (by decide)) (pa_cons (pv 11) pa_nil)
      case hy => decide
    · cases hx
      refine refused_old (f := f3) (d := hd8) (i := 1) (t := fun E => tMeth C "next" (spCheckX K C e.h) [] E (tVar 9) (tCons (tVar 11) tNil)) ?L lamB0 ?hb ?hy (by decide) hh' hsh (LamAt.extN hf3 (extN_same g)) ⟨_, rfl, rfl, rfl⟩ ⟨_, rfl, rfl, rfl⟩ (fun hq ⟨v, e, q⟩ => ⟨v, e, hq _ _ q⟩) (fun hq ⟨v, e, q⟩ => ⟨v, e, hq _ _ q⟩) (fun G Q' E' gk hE => next_hand rfl rfl (S16.door.kp ((kp_same g).trans gk)) (hh'.kp gk) hbh hE) fin
      case L => exact lamS_by (by first | rfl | kernel_rfl)
      case hb => exact fun A outer s H E f c' hr => pe_mdE (takes_of rfl rfl rfl rfl) (pv 9) hC.cl X_next (hr.mono (by decide)) (pa_cons (pv 11) pa_nil)
      case hy => decide
  · rintro H' ⟨g, hD'⟩
    refine ⟨D0, List.replicate 3 true, rfl, .of hD', _, rfl, ite_no (by rfl) ?_⟩
    have S17 := S16.same g
    have hh17 := hh16.ext (extN_same g)
    have hw17 := hw16.ext (extN_same g)
    clear hf1 hf2 hf3 h16 gD g hD' hD0
    obtain ⟨l1, l2', l3, l4, l5, cv, hv', eL, O⟩ := id S17.own
    have W17 := S17.door.wf
    refine ⟨_, rfl, _, rfl, by omega, by omega, fun lh nlh => ?_⟩
    refine lc_it (walk_range (lo := 0) (n := N)) (fun i H'' => Same H' H'' ∧ H'' lh = some (.lst (natV ((List.range i).filter fun p => !(s.cm p).isNone)))) ⟨same_new nlh _, upd_same⟩ (fun _ _ _ _ => True.intro) ?_ ?_
    · rintro i x H1' H2' hi ⟨g1', h1'⟩ ⟨rfl, rfl⟩
      have hi' : i < s.lev.length := by omega
      obtain ⟨xc, hxc, oc⟩ := pr_at O.cameP (W17.acm hi')
      have hr' : List.range (i + 1) = List.range i ++ [i] := List.range_succ
      refine ⟨rfl, _, rfl, o, _, rfl, og_came (g1' _ _ O.dict), _, rfl, l1, cv, _, _, rfl, rfl, .of (g1' _ _ O.came), (by rw [Int.zero_add]; exact atI_nat hxc), rfl, _, rfl, ?_⟩
      rw [oc.is]
      refine ite2 (fun z => ?_) (fun z => ?_)
      · have z' : (!(s.cm i).isNone) = true := z
        refine ⟨_, rfl, _, h1', szt ?_, fun q u hq => ?_, ?_⟩
        · unfold natV
          rw [List.length_map]
          have := List.length_filter_le (fun p => (!(s.cm p).isNone)) (List.range i)
          rw [List.length_range] at this
          omega
        · rw [upd_ne (ne_of_none hq nlh)]; exact g1' _ _ hq
        · rw [upd_same, hr', List.filter_append]
          unfold natV
          rw [List.map_append]
          have e0 : (0 : Int) + (i : Nat) = i := Int.zero_add _
          simp only [e0, List.filter_cons, z', if_true, List.filter_nil, List.map_cons, List.map_nil]
      · have z' : (!(s.cm i).isNone) = false := by first | exact Bool.eq_false_iff.mpr z | simpa using z
        refine ⟨g1', ?_⟩
        rw [h1', hr', List.filter_append]
        simp only [List.filter_cons, z', List.filter_nil, List.append_nil, Bool.false_eq_true, if_false]
    rintro H18 ⟨g18, hlh⟩
    have S18 := S17.same g18
    have hh18 := hh17.ext (extN_same g18)
    have hw18 := hw17.ext (extN_same g18)
    have O18c := g18 _ _ O.came
    have O18d := g18 _ _ O.dict
    refine ⟨_, rfl, _, rfl, by omega, by omega, fun la nla => ?_⟩
    refine lc_it (walk_range (lo := 0) (n := N)) (fun i H'' => Same H18 H'' ∧ H'' la = some (.lst (natV ((List.range i).filter fun p => (s.cm p).isNone)))) ⟨same_new nla _, upd_same⟩ (fun _ _ _ _ => True.intro) ?_ ?_
    · rintro i x H1' H2' hi ⟨g1', h1'⟩ ⟨rfl, rfl⟩
      have hi' : i < s.lev.length := by omega
      obtain ⟨xc, hxc, oc⟩ := pr_at O.cameP (W17.acm hi')
      have hr' : List.range (i + 1) = List.range i ++ [i] := List.range_succ
      refine ⟨rfl, _, rfl, o, _, rfl, og_came (g1' _ _ O18d), _, rfl, l1, cv, _, _, rfl, rfl, .of (g1' _ _ O18c), (by rw [Int.zero_add]; exact atI_nat hxc), rfl, _, rfl, ?_⟩
      rw [oc.is]
      refine ite2 (fun z => ?_) (fun z => ?_)
      · have z' : (s.cm i).isNone = true := z
        refine ⟨_, rfl, _, h1', szt ?_, fun q u hq => ?_, ?_⟩
        · unfold natV
          rw [List.length_map]
          have := List.length_filter_le (fun p => (s.cm p).isNone) (List.range i)
          rw [List.length_range] at this
          omega
        · rw [upd_ne (ne_of_none hq nla)]; exact g1' _ _ hq
        · rw [upd_same, hr', List.filter_append]
          unfold natV
          rw [List.map_append]
          have e0 : (0 : Int) + (i : Nat) = i := Int.zero_add _
          simp only [e0, List.filter_cons, z', if_true, List.filter_nil, List.map_cons, List.map_nil]
      · have z' : (s.cm i).isNone = false := by first | exact Bool.eq_false_iff.mpr z | simpa using z
        refine ⟨g1', ?_⟩
        rw [h1', hr', List.filter_append]
        simp only [List.filter_cons, z', List.filter_nil, List.append_nil, Bool.false_eq_true, if_false]
    rintro H19 ⟨g19, hla⟩
    have S19 := S18.same g19
    have hh19 := hh18.ext (extN_same g19)
    have hw19 := hw18.ext (extN_same g19)
    have hlh19 := g19 _ _ hlh
    have hereP : ∀ p, p ∈ (List.range N).filter (fun p => !(s.cm p).isNone) → p < N ∧ s.cm p ≠ none := fun p hp => by
      obtain ⟨a, b⟩ := List.mem_filter.mp hp
      exact ⟨List.mem_range.mp a, fun z => by rw [z] at b; simp at b⟩
    have awayP : ∀ p, p ∈ (List.range N).filter (fun p => (s.cm p).isNone) → p < N ∧ s.cm p = none := fun p hp => by
      obtain ⟨a, b⟩ := List.mem_filter.mp hp
      exact ⟨List.mem_range.mp a, Option.isNone_iff_eq_none.mp b⟩
    have hereN := List.length_filter_le (fun p => !(s.cm p).isNone) (List.range N)
    have awayN := List.length_filter_le (fun p => (s.cm p).isNone) (List.range N)
    rw [List.length_range] at hereN awayN
    generalize (List.range N).filter (fun p => !(s.cm p).isNone) = HL at hlh19 hereP hereN
    generalize (List.range N).filter (fun p => (s.cm p).isNone) = AL at hla awayP awayN
    clear hlh O18c O18d hh17 hh18 hw17 hw18 g18
    refine g_set ?_
    refine nx_in ?_
    refine seq_in ?_
    refine if_not ?_
    have en : natV HL ++ natV AL = natV (HL ++ AL) := by unfold natV; rw [List.map_append]
    have lHL : (natV HL).length = HL.length := by unfold natV; rw [List.length_map]
    have lAL : (natV AL).length = AL.length := by unfold natV; rw [List.length_map]
    refine ⟨_, rfl, _, rfl, lh, la, _, _, rfl, rfl, hlh19, hla, szl (by rw [lHL, lAL]; omega), fun lc nlc => ⟨lc, rfl, ⟨_, .of upd_same⟩, fun D1 hD1 => ?_⟩⟩
    have gc := same_new nlc (.lst (natV HL ++ natV AL))
    have S20 := S19.same gc
    have hw20 := hw19.ext (extN_same gc)
    have hh20 := hh19.ext (extN_same gc)
    have hlh20 := gc _ _ hlh19
    have hla20 := gc _ _ hla
    have hlc : upd H19 lc (.lst (natV HL ++ natV AL)) lc = some (.lst (natV HL ++ natV AL)) := upd_same
    generalize upd H19 lc (.lst (natV HL ++ natV AL)) = H20 at gc S20 hw20 hh20 hlh20 hla20 hlc hD1 ⊢
    have gD1 := same_new hD1 (.lst [])
    have tput : ∀ {H4 : Hp} {D : Addr} {xs ys : List V}, Tabs (T41 PR) H4 → H4 D = some (.lst xs) → Tabs (T41 PR) (upd H4 D (.lst ys)) := fun {H4 D xs ys} t h => Tabs.but t ((But.refl _ _).put (S := [D]) (by simp)) fun x hx o q => by
      rw [List.mem_singleton.mp hx, h] at q
      cases q
      exact ⟨fun _ z => (by cases z), fun _ z => (by cases z)⟩
    refine lc_list (K := K) (a := lc) (xs := natV HL ++ natV AL) (fun i H' => ExtN H20 H' ∧ Tabs (T41 PR) H' ∧ H' D1 = some (.lst ((List.replicate i true).map V.bl))) ⟨extN_same gD1, Tabs.same S20.tab gD1, upd_same⟩ (fun i H' _ z => .of (z.1 _ _ hlc (fun _ z => (by cases z)))) ?_ ?_
    · rintro i x H' hx ⟨g, T', hD'⟩
      refine ⟨rfl, yes_in (all_in fun s0 H0 C0 cl fp => ?_)⟩
      have hi := get_lt hx
      rw [List.length_append, lHL, lAL] at hi
      rw [en] at hx
      obtain ⟨p, hp, rfl⟩ := natV_get hx
      have hpN : p < s.lev.length := by
        rw [hl]
        rcases List.mem_append.mp (List.mem_of_getElem? hp) with h | h
        · exact (hereP p h).1
        · exact (awayP p h).1
      have hw' := hw20.ext g
      have S' := S20.ext g T'
      refine refused_lam (d := wd) (i := 2) (t := fun E => tMeth C "come" (spComeV C e.v) [] E (tVar 9) (tCons (tVar 6) (tCons (tVar 13) tNil))) ?L lamB0 ?hb ?hy (by decide) hw' hsw T' (fun H1 Q1 g1 q => ⟨_, rfl, q⟩) (fun G Q' E' gk hE => come_value (p := p) rfl rfl rfl (S'.door.kp gk) hpN (hw'.kp gk) hsm hE) fun H4 g4 T4 => ?_
      case L => exact lamS_by (by first | rfl | kernel_rfl)
      case hb => exact fun A outer s H E f c' hr => pe_mdE (takes_of rfl rfl rfl rfl) (pv 9) hC.cl V_come (hr.mono (by decide)) (pa_cons (pv 6) (pa_cons (pv 13) pa_nil))
      case hy => decide
      have h4 := g4 _ _ hD' (fun _ z => (by cases z))
      exact ⟨_, h4, szt (by rw [List.length_map, List.length_replicate]; omega), ext_put hD1 (g.trans g4), tput T4 h4, by rw [upd_same, List.replicate_succ', List.map_append]; rfl⟩
    rintro H21 ⟨g21, T21, hD21⟩
    refine ⟨D1, List.replicate (natV HL ++ natV AL).length true, rfl, .of hD21, _, rfl, ite_no (by simp) ?_⟩
    have S21 := S20.ext g21 T21
    have hlh21 := g21 _ _ hlh20 (fun _ z => (by cases z))
    have hla21 := g21 _ _ hla20 (fun _ z => (by cases z))
    clear hD21 T21 g21 hlc hlh20 hla20 gD1 hD1 hw20 hh20 hw19 hh19
    refine ⟨_, rfl, _, rfl, szl (by show 1 ≤ _; decide), fun b5 m5 => ?_⟩
    refine ⟨b5, 60, [.non], rfl, rfl, .of upd_same, by simp, by decide, by decide, by decide, fun b6 m6 => ?_⟩
    refine ⟨12, rfl, by decide, fun fv fd0 Hf gf hfv hfd => ⟨szl (by show 0 ≤ _; decide), fun b7 m7 => ⟨szl (by show 5 ≤ _; decide), fun fl nfl => ?_⟩⟩⟩
    have e5 := same_new m5 (.tup [.non])
    have e6 := same_new m6 (.tup (List.replicate (60 : Int).toNat [V.non]).flatten)
    have e7 := same_new m7 (.tup [])
    have e8 := same_new nfl (.lst [.non, .int (-9999), .ref b6, fv, .ref b7])
    have k6' := (S21.same e5).ne m6
    have Sf := ((S21.same e5).same e6).same gf
    have k7' := Sf.ne m7
    have kf := (Sf.same e7).ne nfl
    have S22 := (Sf.same e7).same e8
    have v6 := (gf.trans e7).trans e8
    have w6 := v6 _ _ (upd_same : upd (upd H21 b5 (.tup [.non])) b6 (.tup (List.replicate (60 : Int).toNat [V.non]).flatten) b6 = _)
    have w7 := e8 _ _ (upd_same : upd Hf b7 (.tup []) b7 = _)
    have wn : DA _ fv fd0 := (hfv.ext (extN_same e7)).ext (extN_same e8)
    have g2122 := (e5.trans e6).trans v6
    have hlh22 := g2122 _ _ hlh21
    have hla22 := g2122 _ _ hla21
    have hf22 : upd (upd Hf b7 (.tup [])) fl (.lst [.non, .int (-9999), .ref b6, fv, .ref b7]) fl = _ := upd_same
    have nlhp : lh ≠ pt := (S17.same (Same.refl _)).ne nlh
    have nlap : la ≠ pt := S18.ne nla
    clear e5 e6 e7 e8 v6
    generalize upd (upd Hf b7 (.tup [])) fl (.lst [.non, .int (-9999), .ref b6, fv, .ref b7]) = H22 at S22 w6 w7 wn hlh22 hla22 hf22 ⊢
    refine ⟨pt, fl, _, 2002, rfl, .of hf22, kf, by simp, by show 5 < 1000000; decide, by decide, S22.pot, fun j3 fine H23 hj3 g23 hP23 => ?_⟩
    have S23 := S22.take g23 hP23
    have o23 : ∀ {a : Addr} {u : HO}, H22 a = some u → a ≠ pt → H23 a = some u := fun q n => g23 _ _ (by simpa using n) q
    obtain ⟨fd, fk, fn, hf, hfs, hfk, hfn, hfsm⟩ := fine_vals (o23 w6 k6') (by rw [hfd] at wn; exact nest_tk (S22.pot.tk g23) 12 wn) rfl (o23 w7 k7') hj3
    have hlh23 := o23 hlh22 nlhp
    have hla23 := o23 hla22 nlap
    clear w6 w7 wn hlh22 hla22 hf22 hlh21 hla21
    refine g_set ?_
    refine nx_in ?_
    refine seq_in ?_
    refine if_not ?_
    refine ⟨_, rfl, lh, rfl, ⟨_, .of hlh23⟩, fun D2 hD2 => ?_⟩
    have gD2 := same_new hD2 (.lst [])
    refine lc_list (K := K) (a := lh) (xs := natV HL) (fun i H' => ExtN H23 H' ∧ Tabs (T41 PR) H' ∧ H' D2 = some (.lst ((List.replicate i true).map V.bl))) ⟨extN_same gD2, Tabs.same S23.tab gD2, upd_same⟩ (fun i H' _ z => .of (z.1 _ _ hlh23 (fun _ z => (by cases z)))) ?_ ?_
    · rintro i x H' hx ⟨g, T', hD'⟩
      refine ⟨rfl, yes_in (all_in fun s0 H0 C0 cl fp => ?_)⟩
      have hi := get_lt hx
      rw [lHL] at hi
      obtain ⟨p, hp, rfl⟩ := natV_get hx
      obtain ⟨hpN', hpc⟩ := hereP p (List.mem_of_getElem? hp)
      have hpN : p < s.lev.length := by rw [hl]; exact hpN'
      have S' := S23.ext g T'
      have hf' := hf.ext g
      refine refused_lam (d := .int (p : Nat)) (i := 3) (t := fun E => tMeth C "come" (spComeCD C e.c) [] E (tVar 9) (tCons (tVar 6) (tCons (tVar 10) tNil))) ?L lamB0 ?hb ?hy (by decide) (.int _) (.inl ⟨1, 0, Sm.int (by omega) (by omega), by decide, by decide⟩) T' (fun H1 Q1 g1 q => ⟨_, rfl, q⟩) (fun G Q' E' gk hE => come_twice (p := p) rfl rfl rfl (S'.door.kp gk) hpN hpc (hf'.kp gk) hfsm hE) fun H4 g4 T4 => ?_
      case L => exact lamS_by (by first | rfl | kernel_rfl)
      case hb => exact fun A outer s H E f c' hr => pe_mdE (takes_of rfl rfl rfl rfl) (pv 9) hC.cl C_come (hr.mono (by decide)) (pa_cons (pv 6) (pa_cons (pv 10) pa_nil))
      case hy => decide
      have h4 := g4 _ _ hD' (fun _ z => (by cases z))
      exact ⟨_, h4, szt (by rw [List.length_map, List.length_replicate]; omega), ext_put hD2 (g.trans g4), tput T4 h4, by rw [upd_same, List.replicate_succ', List.map_append]; rfl⟩
    rintro H24 ⟨g24, T24, hD24⟩
    refine ⟨D2, List.replicate (natV HL).length true, rfl, .of hD24, _, rfl, ite_no (by simp) ?_⟩
    have S24 := S23.ext g24 T24
    have hla24 := g24 _ _ hla23 (fun _ z => (by cases z))
    have hf24 := hf.ext g24
    clear hD24 T24 g24 hlh23 hla23 gD2 hD2
    refine nx_in ?_
    refine seq_in ?_
    refine if_not ?_
    refine ⟨_, rfl, la, rfl, ⟨_, .of hla24⟩, fun D3 hD3 => ?_⟩
    have gD3 := same_new hD3 (.lst [])
    refine lc_list (K := K) (a := la) (xs := natV AL) (fun i H' => ExtN H24 H' ∧ Tabs (T41 PR) H' ∧ H' D3 = some (.lst ((List.replicate i true).map V.bl))) ⟨extN_same gD3, Tabs.same S24.tab gD3, upd_same⟩ (fun i H' _ z => .of (z.1 _ _ hla24 (fun _ z => (by cases z)))) ?_ ?_
    · rintro i x H' hx ⟨g, T', hD'⟩
      refine ⟨rfl, yes_in (all_in fun s0 H0 C0 cl fp => ?_)⟩
      have hi := get_lt hx
      rw [lAL] at hi
      obtain ⟨p, hp, rfl⟩ := natV_get hx
      obtain ⟨hpN', hpc⟩ := awayP p (List.mem_of_getElem? hp)
      have hpN : p < s.lev.length := by rw [hl]; exact hpN'
      have S' := S24.ext g T'
      refine refused_lam (d := .int (p : Nat)) (i := 4) (t := fun E => tMeth C "step" (spStepN C e.n) [] E (tVar 9) (tCons (tVar 6) tNil)) ?L lamB0 ?hb ?hy (by decide) (.int _) (.inl ⟨1, 0, Sm.int (by omega) (by omega), by decide, by decide⟩) T' (fun H1 Q1 g1 q => ⟨_, rfl, q⟩) (fun G Q' E' gk hE => step_away (p := p) rfl rfl (S'.door.kp gk) hpN hpc hE) fun H4 g4 T4 => ?_
      case L => exact lamS_by (by first | rfl | kernel_rfl)
      case hb => exact fun A outer s H E f c' hr => pe_mdE (takes_of rfl rfl rfl rfl) (pv 9) hC.cl N_step (hr.mono (by decide)) (pa_cons (pv 6) pa_nil)
      case hy => decide
      have h4 := g4 _ _ hD' (fun _ z => (by cases z))
      exact ⟨_, h4, szt (by rw [List.length_map, List.length_replicate]; omega), ext_put hD3 (g.trans g4), tput T4 h4, by rw [upd_same, List.replicate_succ', List.map_append]; rfl⟩
    rintro H25 ⟨g25, T25, hD25⟩
    refine ⟨D3, List.replicate (natV AL).length true, rfl, .of hD25, _, rfl, ite_no (by simp) ?_⟩
    have S25 := S24.ext g25 T25
    have hla25 := g25 _ _ hla24 (fun _ z => (by cases z))
    have hf25 := hf24.ext g25
    clear hD25 T25 g25 hla24 gD3 hD3 hf24
    refine ⟨_, rfl, _, rfl, d, o, L, s, rfl, S25.door, S25.own, S25.ok, by have := S25.dl; omega, fun H26 g26 => ?_⟩
    have S26 := S25.same g26
    have hla26 := g26 _ _ hla25
    have hf26 := hf25.ext (extN_same g26)
    refine ⟨true, rfl, ite_no rfl ?_⟩
    refine ⟨_, rfl, la, rfl, ⟨_, .of hla26⟩, fun D4 hD4 => ?_⟩
    have gD4 := same_new hD4 (.lst [])
    refine lc_list (K := K) (a := la) (xs := natV AL) (fun i H' => Same H26 H' ∧ H' D4 = some (.lst ((List.replicate i true).map V.bl))) ⟨gD4, upd_same⟩ (fun i H' _ z => .of (z.1 _ _ hla26)) ?_ ?_
    · rintro i x H' hx ⟨g, hD'⟩
      have hi := get_lt hx
      rw [lAL] at hi
      obtain ⟨p, hp, rfl⟩ := natV_get hx
      obtain ⟨hpN', hpc⟩ := awayP p (List.mem_of_getElem? hp)
      have hpN : p < s.lev.length := by rw [hl]; exact hpN'
      have D' := S26.door.same g
      obtain ⟨dx', fs, hobj, n1', n2', n3', n4'⟩ := D'.ob
      have en : s.next p = none := by unfold DS.next; rw [if_neg (by rw [hpc]; simp)]
      refine ⟨rfl, _, rfl, d, dx', fs, rfl, hobj, n3', _, rfl, d, p, s, rfl, D', hpN, fun H4 g4 => ?_⟩
      rw [en]
      refine ⟨rfl, _, g4 _ _ hD', szt (by rw [List.length_map, List.length_replicate]; omega), fun b o q => ?_, ?_⟩
      · rw [upd_ne (ne_of_none q hD4)]; exact g4 _ _ (g _ _ q)
      · rw [upd_same, List.replicate_succ', List.map_append]; rfl
    rintro H27 ⟨g27, hD27⟩
    refine ⟨D4, List.replicate (natV AL).length true, rfl, .of hD27, ?_⟩
    rw [show (List.replicate (natV AL).length true).all id = true by simp]
    refine ⟨_, rfl, ite_no rfl ?_⟩
    have S27 := S26.same g27
    have hla27 := g27 _ _ hla26
    have hf27 := hf26.ext (extN_same g27)
    clear hD27 g27 hla26 gD4 hD4 hf26
    refine ⟨_, rfl, szl (by show 0 ≤ _; decide), fun z0 nz0 => ?_⟩
    have S28 := S27.same (same_new nz0 (.lst []))
    have hla28 := same_new nz0 (.lst []) _ _ hla27
    have hf28 := hf27.ext (extN_same (same_new nz0 (.lst [])))
    have hz0 : upd H27 z0 (.lst []) z0 = some (.lst []) := upd_same
    generalize upd H27 z0 (.lst []) = H28 at S28 hla28 hf28 hz0 ⊢
    have smA : Sm 2 1000 (.list (AL.map fun (p : Nat) => PyData.int (p : Int))) := (Sms.all (k := 1) (n := 0) fun dd hd => by
      obtain ⟨q, hq, rfl⟩ := List.mem_map.mp hd
      have := (awayP q hq).1
      exact Sm.int (by omega) (by omega)).lst.mono (by decide) (by rw [List.length_map]; omega)
    refine ⟨.list (AL.map fun (p : Nat) => PyData.int (p : Int)), .list [], .lst (.of hla28) (natV_dp AL), .lst (.of hz0) .nil, smA.shaped (by decide), by decide +kernel, ?_⟩
    have S28f := S28.fr
    have S28t := S28.tab
    cases AL with
    | nil =>
      rw [show PyData.eqv (.list (([] : List Nat).map fun (p : Nat) => PyData.int (p : Int))) (.list []) = true by simp [PyData.eqv, PyData.eqvAll]]
      exact ⟨true, rfl, iteT (k _ S28f S28t)⟩
    | cons p r =>
      rw [show PyData.eqv (.list ((p :: r).map fun (p : Nat) => PyData.int (p : Int))) (.list []) = false by simp [PyData.eqv, PyData.eqvAll]]
      refine ⟨false, rfl, iteF ?_⟩
      obtain ⟨hpN', hpc⟩ := awayP p List.mem_cons_self
      have hpN : p < s.lev.length := by rw [hl]; exact hpN'
      obtain ⟨dx', fs, hobj, n1', n2', n3', n4'⟩ := S28.door.ob
      have hix : atI (natV (p :: r)) ((0 : Nat) : Int) = some (.int (p : Nat)) := atI_nat (j := 0) rfl
      refine ⟨_, rfl, d, dx', fs, rfl, hobj, n2', _, rfl, la, _, _, _, rfl, rfl, .of hla28, hix, _, rfl, d, p, fine, fd, s, rfl, S28.door, hpN, hpc, hf28, hfsm, by have := S28.dl; omega, fun H29 dx a b c e' f' cv0 q0 g29 hob hcv hq ht => ?_⟩
      have nlad : la ≠ d := fun z => by rw [z, hobj] at hla28; cases hla28
      have hla29 := g29 _ _ (by simpa using nlad) hla28
      have keepD : ∀ b o, H28 b = some o → (∀ C dx fs, o ≠ .ins C dx fs) → H29 b = some o := fun b o q n => g29 b o (fun m => by
        rw [List.mem_singleton.mp m, hobj] at q
        cases q
        exact n _ _ _ rfl) q
      have hf29 : DA H29 fine fd := hf28.keep keepD
      have sh1 : ShowOk (.tuple [fd]) := .inl ⟨fk + 1, fn + 1, (Sms.tup (.cons hfs (Sms.nil (k := fk) (n := 0)))).mono (Nat.le_refl _) (by omega), by omega, by omega⟩
      have fr29 : ButN [pt] H H29 := fun b o n q nt => by
        have q28 := S28f b o n q nt
        exact g29 b o (fun m => by rw [List.mem_singleton.mp m] at q; exact nd0 o q nt) q28
      have tab29 : Tabs (T41 PR) H29 := Tabs.but S28t g29 fun x hx o q => by
        rw [List.mem_singleton.mp hx, hobj] at q
        cases q
        exact ⟨fun _ z => (by cases z), fun _ z => (by cases z)⟩
      refine ⟨rfl, _, rfl, ite_yes (by rfl) ?_⟩
      refine ⟨_, rfl, d, C, dx, _, _, rfl, hob, hC.cl, hC.nC, d_came, _, rfl, la, _, _, _, rfl, rfl, .of hla29, hix, ?_⟩
      refine ⟨a, cv0, _, _, rfl, rfl, hcv.sq, atI_nat hq, ?_⟩
      refine ⟨.ref q0, .tuple [fd], rfl, .tup ht (.cons hf29 .nil), sh1, ?_⟩
      refine ⟨_, rfl, szl (by show 1 ≤ _; decide), fun t1 nt1 => ?_⟩
      have gt1 := same_new nt1 (.tup [fine])
      refine ⟨.ref t1, .tuple [fd], rfl, .tup upd_same (.cons (hf29.ext (extN_same gt1)) .nil), sh1, rfl, ?_⟩
      show Q (.bl (decide (V.str (PyData.tuple [fd]).shown = V.str (PyData.tuple [fd]).shown))) _
      rw [decide_eq_true rfl]
      exact k _ (fr29.trans (ButN.ext (extN_same gt1))) (Tabs.same tab29 gt1)
end
end Fp
namespace Fp
open PySem PySem.Spec PyProof.Rows L2 LamX
theorem ExtN.seq {K : PySem.W.Frag} {H H' : Hp} (g : ExtN H H') {a : Addr} {xs : List V} (h : SqL K H a xs) : SqL K H' a xs := by
  rcases h with (h | ⟨o, h⟩) | h
  · exact .inl (.inl (g _ _ h (fun _ z => (by cases z))))
  · exact .inl (.inr ⟨o, g _ _ h (fun _ z => (by cases z))⟩)
  · exact .inr h
def spLawT (K : PySem.W.Frag) (PR : Addr) : Sp := fun vs H Q _ => ∃ (a : Addr) (ns : List Int), vs = [.ref a] ∧ SqL K H a (ns.map V.int) ∧ ns.length ≤ 63 ∧ Tabs (T41 PR) H ∧ ∀ H', Q (.bl true) H'
section
variable {P : Program} {w : World} {K : PySem.W.Frag} {mg : Str → Option Value} {base : Heap} {f : Addr} {fd : FuncData}
abbrev s_law : Stmt := top 39
theorem sc_law : FnScope ["script", "place"] ["script"] (defScope s_law) := ⟨rfl, rfl, rfl, by decide +kernel, rfl, by decide +kernel, by decide +kernel⟩
theorem ok_law {PR : Addr} (F : Fun K "law" "law" s_law f fd) (T : LTx mg) (G_law_cells : Fd P w K mg base CX0 "_law_cells" 1 ["script", "limit"] (spCells K)) (G_law_pot : Fd P w K mg base CX0 "_law_pot" 1 ["script", "place"] (spPot K)) (G_law_right : FdG P w K mg base CX0 "_law_right" 20 ["pot"] (spRightT PR)) : FnOkG P w K mg base CX0 21 f fd ["script"] (spLawT K PR) := by
  refine fun_okG F sc_law (fun vs H Q E h => ?_) (fun cdv A outer s H vs Q E hr hgu h => ?_)
  · obtain ⟨a, ns, rfl, _⟩ := h
    rfl
  obtain ⟨a, ns, rfl, hS, hl, hT, k⟩ := h
  refine ⟨_, (pss_one (ps_ret (pe_callB (cr_all rfl) rfl T.all (by decide +kernel) (pa_cons (pe_lc (own := [("place", 1)]) (g := (gName 1)) (tt := tYes) rfl sc_law.nd (pi_list (pe_fd G_law_cells (hr.mono (by first | decide | omega)) rfl (pa_cons (pv 0) (pa_cons pe_int pa_nil)))) (blkOk_by (own := [("place", 1)]) (N := ["script", "place"]) (sc := defScope s_law) (by decide +kernel)) (fun _ _ _ _ _ => (pg_name (i := 1) sc_law.nd rfl (Or.inl rfl))) (fun _ _ _ _ _ => pts_nil) (fun _ _ _ _ _ => (pe_fdG G_law_right hr hgu rfl (pa_cons (pe_fd G_law_pot (hr.mono (by decide)) rfl (pa_cons (pv 0) (pa_cons (pv 1) pa_nil))) pa_nil)))) pa_nil)))), ?_⟩
  refine ⟨_, rfl, a, ns, 2, rfl, hS, hl, by decide, fun l H1 n hn g1 hl0 hl1 => ?_⟩
  refine ⟨l, rfl, ⟨_, .of hl1⟩, fun D hD => ?_⟩
  have hlen : ((List.range n).map fun i => V.int (i : Nat)).length = n := by simp
  have gD := same_new hD (.lst [])
  refine lc_list (K := K) (a := l) (xs := (List.range n).map fun i => V.int (i : Nat)) (fun i H' => ExtN H1 H' ∧ Tabs (T41 PR) H' ∧ H' D = some (.lst ((List.replicate i true).map V.bl))) ⟨extN_same gD, Tabs.same hT (g1.trans gD), upd_same⟩ (fun i H' _ z => .of (z.1 _ _ hl1 (fun _ z => (by cases z)))) ?_ ?_
  · rintro i x Hi hx ⟨gi, Ti, hDi⟩
    have hi : i < n := by have := get_lt hx; rw [hlen] at this; exact this
    have hx' : x = .int (i : Nat) := by
      rw [List.getElem?_map, List.getElem?_range hi] at hx
      exact (Option.some.inj hx).symm
    subst hx'
    refine ⟨rfl, _, rfl, _, rfl, a, ns, i, rfl, ExtN.seq gi (g1.seq hS), hl, by omega, fun lp H3 g3 hlp hP => ?_⟩
    have lpD : D ≠ lp := ne_of_none hDi hlp
    refine ⟨lp, rfl, hP, Tabs.same Ti g3, fun H4 g4 T4 => ?_⟩
    have h4 : H4 D = some (.lst ((List.replicate i true).map V.bl)) := g4 _ _ (by simpa using lpD) (g3 _ _ hDi) (fun _ z => (by cases z))
    refine ⟨_, h4, Nat.lt_of_le_of_lt (show _ ≤ 1000 by rw [List.length_map, List.length_replicate]; omega) (by decide), ext_put hD fun b o q nt => ?_, ?_, ?_⟩
    · have q2 := gi b o q nt
      exact g4 _ _ (by simpa using ne_of_none q2 hlp) (g3 _ _ q2) nt
    · exact Tabs.but T4 ((But.refl _ _).put (S := [D]) (by simp)) fun x hx o q => by
        rw [List.mem_singleton.mp hx, h4] at q
        cases q
        exact ⟨fun _ z => (by cases z), fun _ z => (by cases z)⟩
    · rw [upd_same, List.replicate_succ', List.map_append]
      rfl
  · rintro Hi ⟨gi, Ti, hDi⟩
    refine ⟨D, List.replicate ((List.range n).map fun i => V.int (i : Nat)).length true, rfl, .of hDi, ?_⟩
    rw [show (List.replicate ((List.range n).map fun i => V.int (i : Nat)).length true).all id = true by simp]
    exact k Hi
end
end Fp
namespace Fp
open PySem PySem.Spec PyProof.Rows L2
theorem kit5 {K : PySem.W.Frag} {e : E5} (E : ∀ i j, i < 5 → j < 5 → PySem.W.exmOne K (.ref (e.at i)) (.ref (e.at j)) = some (decide (i = j))) : ∀ i j, i < 5 → j < 5 → PySem.W.kitOne K (.ref (e.at i)) (.ref (e.at j)) = some (decide (i = j)) := fun i j hi hj => by
  by_cases h : i = j
  · subst h
    rw [decide_eq_true rfl]
    unfold PySem.W.kitOne
    rw [if_pos (by simp)]
  · have h1 := E i j hi hj
    have ne : ¬ ((Value.ref (e.at i) == Value.ref (e.at j)) = true) := fun z => by
      have z' : Value.ref (e.at i) = Value.ref (e.at j) := beq_iff_eq.mp z
      have h2 := E i i hi hi
      rw [← z', h2, decide_eq_true rfl, decide_eq_false h] at h1
      cases h1
    unfold PySem.W.exmOne at h1
    unfold PySem.W.kitOne
    rw [if_neg ne]
    split at h1
    · exact h1
    · cases h1
theorem all_mk {l : PySem.W.OpenLaw} {w : World} {K : PySem.W.Frag} {h : Heap} {mg : Str → Option Value} {fa : Addr} (X : K.In h) (G : h.Ns mainGlobals mg) (hfa : mg "law" = some (.ref fa))
    {C : Addr}
    (aCP : PySem.W.nsIn K mainGlobals "Door" = some (some (.ref C)))
    {od_is_whole an_is_whole : Option Addr} {sl_is_whole : Array (Option Value)} {oc_is_whole kV_is_whole dc_is_whole pm_is_whole cd_is_whole ct_is_whole : Value} {f_is_whole : Addr}
    (a_is_whole : PySem.W.nsIn K mainGlobals "is_whole" = some (some (.ref f_is_whole)))
    (l_is_whole : K.lookup f_is_whole = some ⟨oc_is_whole, od_is_whole, .func (PySem.W.fnOf "is_whole" "is_whole" (defArgs s_is_whole) (defBody s_is_whole) (defScope s_is_whole) .none kV_is_whole dc_is_whole pm_is_whole an_is_whole cd_is_whole ct_is_whole), sl_is_whole⟩)
    (c_is_whole : PySem.W.codeIn K cd_is_whole "is_whole" = true)
    (k_is_whole : PySem.W.keepIn K (.ref f_is_whole) = true)
    {od_is_below an_is_below : Option Addr} {sl_is_below : Array (Option Value)} {oc_is_below kV_is_below dc_is_below pm_is_below cd_is_below ct_is_below : Value} {f_is_below : Addr}
    (a_is_below : PySem.W.nsIn K mainGlobals "is_below" = some (some (.ref f_is_below)))
    (l_is_below : K.lookup f_is_below = some ⟨oc_is_below, od_is_below, .func (PySem.W.fnOf "is_below" "is_below" (defArgs s_is_below) (defBody s_is_below) (defScope s_is_below) .none kV_is_below dc_is_below pm_is_below an_is_below cd_is_below ct_is_below), sl_is_below⟩)
    (c_is_below : PySem.W.codeIn K cd_is_below "is_below" = true)
    (k_is_below : PySem.W.keepIn K (.ref f_is_below) = true)
    {od_exchanged an_exchanged : Option Addr} {sl_exchanged : Array (Option Value)} {oc_exchanged kV_exchanged dc_exchanged pm_exchanged cd_exchanged ct_exchanged : Value} {f_exchanged : Addr}
    (a_exchanged : PySem.W.nsIn K mainGlobals "exchanged" = some (some (.ref f_exchanged)))
    (l_exchanged : K.lookup f_exchanged = some ⟨oc_exchanged, od_exchanged, .func (PySem.W.fnOf "exchanged" "exchanged" (defArgs s_exchanged) (defBody s_exchanged) (defScope s_exchanged) .none kV_exchanged dc_exchanged pm_exchanged an_exchanged cd_exchanged ct_exchanged), sl_exchanged⟩)
    (c_exchanged : PySem.W.codeIn K cd_exchanged "exchanged" = true)
    (k_exchanged : PySem.W.keepIn K (.ref f_exchanged) = true)
    {od_is_small_value an_is_small_value : Option Addr} {sl_is_small_value : Array (Option Value)} {oc_is_small_value kV_is_small_value dc_is_small_value pm_is_small_value cd_is_small_value ct_is_small_value : Value} {f_is_small_value : Addr}
    (a_is_small_value : PySem.W.nsIn K mainGlobals "is_small_value" = some (some (.ref f_is_small_value)))
    (l_is_small_value : K.lookup f_is_small_value = some ⟨oc_is_small_value, od_is_small_value, .func (PySem.W.fnOf "is_small_value" "is_small_value" (defArgs s_is_small_value) (defBody s_is_small_value) (defScope s_is_small_value) .none kV_is_small_value dc_is_small_value pm_is_small_value an_is_small_value cd_is_small_value ct_is_small_value), sl_is_small_value⟩)
    (c_is_small_value : PySem.W.codeIn K cd_is_small_value "is_small_value" = true)
    (k_is_small_value : PySem.W.keepIn K (.ref f_is_small_value) = true)
    {od_is_small_within an_is_small_within : Option Addr} {sl_is_small_within : Array (Option Value)} {oc_is_small_within kV_is_small_within dc_is_small_within pm_is_small_within cd_is_small_within ct_is_small_within : Value} {f_is_small_within : Addr}
    (a_is_small_within : PySem.W.nsIn K mainGlobals "is_small_within" = some (some (.ref f_is_small_within)))
    (l_is_small_within : K.lookup f_is_small_within = some ⟨oc_is_small_within, od_is_small_within, .func (PySem.W.fnOf "is_small_within" "is_small_within" (defArgs s_is_small_within) (defBody s_is_small_within) (defScope s_is_small_within) .none kV_is_small_within dc_is_small_within pm_is_small_within an_is_small_within cd_is_small_within ct_is_small_within), sl_is_small_within⟩)
    (c_is_small_within : PySem.W.codeIn K cd_is_small_within "is_small_within" = true)
    (k_is_small_within : PySem.W.keepIn K (.ref f_is_small_within) = true)
    {od_law_pot an_law_pot : Option Addr} {sl_law_pot : Array (Option Value)} {oc_law_pot kV_law_pot dc_law_pot pm_law_pot cd_law_pot ct_law_pot : Value} {f_law_pot : Addr}
    (a_law_pot : PySem.W.nsIn K mainGlobals "_law_pot" = some (some (.ref f_law_pot)))
    (l_law_pot : K.lookup f_law_pot = some ⟨oc_law_pot, od_law_pot, .func (PySem.W.fnOf "_law_pot" "_law_pot" (defArgs s_law_pot) (defBody s_law_pot) (defScope s_law_pot) .none kV_law_pot dc_law_pot pm_law_pot an_law_pot cd_law_pot ct_law_pot), sl_law_pot⟩)
    (c_law_pot : PySem.W.codeIn K cd_law_pot "_law_pot" = true)
    (k_law_pot : PySem.W.keepIn K (.ref f_law_pot) = true)
    {od_law_take an_law_take : Option Addr} {sl_law_take : Array (Option Value)} {oc_law_take kV_law_take dc_law_take pm_law_take cd_law_take ct_law_take : Value} {f_law_take : Addr}
    (a_law_take : PySem.W.nsIn K mainGlobals "_law_take" = some (some (.ref f_law_take)))
    (l_law_take : K.lookup f_law_take = some ⟨oc_law_take, od_law_take, .func (PySem.W.fnOf "_law_take" "_law_take" (defArgs s_law_take) (defBody s_law_take) (defScope s_law_take) .none kV_law_take dc_law_take pm_law_take an_law_take cd_law_take ct_law_take), sl_law_take⟩)
    (c_law_take : PySem.W.codeIn K cd_law_take "_law_take" = true)
    (k_law_take : PySem.W.keepIn K (.ref f_law_take) = true)
    {od_law_of an_law_of : Option Addr} {sl_law_of : Array (Option Value)} {oc_law_of kV_law_of dc_law_of pm_law_of cd_law_of ct_law_of : Value} {f_law_of : Addr}
    (a_law_of : PySem.W.nsIn K mainGlobals "_law_of" = some (some (.ref f_law_of)))
    (l_law_of : K.lookup f_law_of = some ⟨oc_law_of, od_law_of, .func (PySem.W.fnOf "_law_of" "_law_of" (defArgs s_law_of) (defBody s_law_of) (defScope s_law_of) .none kV_law_of dc_law_of pm_law_of an_law_of cd_law_of ct_law_of), sl_law_of⟩)
    (c_law_of : PySem.W.codeIn K cd_law_of "_law_of" = true)
    (k_law_of : PySem.W.keepIn K (.ref f_law_of) = true)
    {od_law_cells an_law_cells : Option Addr} {sl_law_cells : Array (Option Value)} {oc_law_cells kV_law_cells dc_law_cells pm_law_cells cd_law_cells ct_law_cells : Value} {f_law_cells : Addr}
    (a_law_cells : PySem.W.nsIn K mainGlobals "_law_cells" = some (some (.ref f_law_cells)))
    (l_law_cells : K.lookup f_law_cells = some ⟨oc_law_cells, od_law_cells, .func (PySem.W.fnOf "_law_cells" "_law_cells" (defArgs s_law_cells) (defBody s_law_cells) (defScope s_law_cells) .none kV_law_cells dc_law_cells pm_law_cells an_law_cells cd_law_cells ct_law_cells), sl_law_cells⟩)
    (c_law_cells : PySem.W.codeIn K cd_law_cells "_law_cells" = true)
    (k_law_cells : PySem.W.keepIn K (.ref f_law_cells) = true)
    {od_law_caught an_law_caught : Option Addr} {sl_law_caught : Array (Option Value)} {oc_law_caught kV_law_caught dc_law_caught pm_law_caught cd_law_caught ct_law_caught : Value} {f_law_caught : Addr}
    (a_law_caught : PySem.W.nsIn K mainGlobals "_law_caught" = some (some (.ref f_law_caught)))
    (l_law_caught : K.lookup f_law_caught = some ⟨oc_law_caught, od_law_caught, .func (PySem.W.fnOf "_law_caught" "_law_caught" (defArgs s_law_caught) (defBody s_law_caught) (defScope s_law_caught) .none kV_law_caught dc_law_caught pm_law_caught an_law_caught cd_law_caught ct_law_caught), sl_law_caught⟩)
    (c_law_caught : PySem.W.codeIn K cd_law_caught "_law_caught" = true)
    (k_law_caught : PySem.W.keepIn K (.ref f_law_caught) = true)
    {od_law_is_refused an_law_is_refused : Option Addr} {sl_law_is_refused : Array (Option Value)} {oc_law_is_refused kV_law_is_refused dc_law_is_refused pm_law_is_refused cd_law_is_refused ct_law_is_refused : Value} {f_law_is_refused : Addr}
    (a_law_is_refused : PySem.W.nsIn K mainGlobals "_law_is_refused" = some (some (.ref f_law_is_refused)))
    (l_law_is_refused : K.lookup f_law_is_refused = some ⟨oc_law_is_refused, od_law_is_refused, .func (PySem.W.fnOf "_law_is_refused" "_law_is_refused" (defArgs s_law_is_refused) (defBody s_law_is_refused) (defScope s_law_is_refused) .none kV_law_is_refused dc_law_is_refused pm_law_is_refused an_law_is_refused cd_law_is_refused ct_law_is_refused), sl_law_is_refused⟩)
    (c_law_is_refused : PySem.W.codeIn K cd_law_is_refused "_law_is_refused" = true)
    (k_law_is_refused : PySem.W.keepIn K (.ref f_law_is_refused) = true)
    {od_law_door an_law_door : Option Addr} {sl_law_door : Array (Option Value)} {oc_law_door kV_law_door dc_law_door pm_law_door cd_law_door ct_law_door : Value} {f_law_door : Addr}
    (a_law_door : PySem.W.nsIn K mainGlobals "_law_door" = some (some (.ref f_law_door)))
    (l_law_door : K.lookup f_law_door = some ⟨oc_law_door, od_law_door, .func (PySem.W.fnOf "_law_door" "_law_door" (defArgs s_law_door) (defBody s_law_door) (defScope s_law_door) .none kV_law_door dc_law_door pm_law_door an_law_door cd_law_door ct_law_door), sl_law_door⟩)
    (c_law_door : PySem.W.codeIn K cd_law_door "_law_door" = true)
    (k_law_door : PySem.W.keepIn K (.ref f_law_door) = true)
    {od_law_door_next an_law_door_next : Option Addr} {sl_law_door_next : Array (Option Value)} {oc_law_door_next kV_law_door_next dc_law_door_next pm_law_door_next cd_law_door_next ct_law_door_next : Value} {f_law_door_next : Addr}
    (a_law_door_next : PySem.W.nsIn K mainGlobals "_law_door_next" = some (some (.ref f_law_door_next)))
    (l_law_door_next : K.lookup f_law_door_next = some ⟨oc_law_door_next, od_law_door_next, .func (PySem.W.fnOf "_law_door_next" "_law_door_next" (defArgs s_law_door_next) (defBody s_law_door_next) (defScope s_law_door_next) .none kV_law_door_next dc_law_door_next pm_law_door_next an_law_door_next cd_law_door_next ct_law_door_next), sl_law_door_next⟩)
    (c_law_door_next : PySem.W.codeIn K cd_law_door_next "_law_door_next" = true)
    (k_law_door_next : PySem.W.keepIn K (.ref f_law_door_next) = true)
    {od_law_door_come an_law_door_come : Option Addr} {sl_law_door_come : Array (Option Value)} {oc_law_door_come kV_law_door_come dc_law_door_come pm_law_door_come cd_law_door_come ct_law_door_come : Value} {f_law_door_come : Addr}
    (a_law_door_come : PySem.W.nsIn K mainGlobals "_law_door_come" = some (some (.ref f_law_door_come)))
    (l_law_door_come : K.lookup f_law_door_come = some ⟨oc_law_door_come, od_law_door_come, .func (PySem.W.fnOf "_law_door_come" "_law_door_come" (defArgs s_law_door_come) (defBody s_law_door_come) (defScope s_law_door_come) .none kV_law_door_come dc_law_door_come pm_law_door_come an_law_door_come cd_law_door_come ct_law_door_come), sl_law_door_come⟩)
    (c_law_door_come : PySem.W.codeIn K cd_law_door_come "_law_door_come" = true)
    (k_law_door_come : PySem.W.keepIn K (.ref f_law_door_come) = true)
    {od_law_door_step an_law_door_step : Option Addr} {sl_law_door_step : Array (Option Value)} {oc_law_door_step kV_law_door_step dc_law_door_step pm_law_door_step cd_law_door_step ct_law_door_step : Value} {f_law_door_step : Addr}
    (a_law_door_step : PySem.W.nsIn K mainGlobals "_law_door_step" = some (some (.ref f_law_door_step)))
    (l_law_door_step : K.lookup f_law_door_step = some ⟨oc_law_door_step, od_law_door_step, .func (PySem.W.fnOf "_law_door_step" "_law_door_step" (defArgs s_law_door_step) (defBody s_law_door_step) (defScope s_law_door_step) .none kV_law_door_step dc_law_door_step pm_law_door_step an_law_door_step cd_law_door_step ct_law_door_step), sl_law_door_step⟩)
    (c_law_door_step : PySem.W.codeIn K cd_law_door_step "_law_door_step" = true)
    (k_law_door_step : PySem.W.keepIn K (.ref f_law_door_step) = true)
    {od_law_drawn_value an_law_drawn_value : Option Addr} {sl_law_drawn_value : Array (Option Value)} {oc_law_drawn_value kV_law_drawn_value dc_law_drawn_value pm_law_drawn_value cd_law_drawn_value ct_law_drawn_value : Value} {f_law_drawn_value : Addr}
    (a_law_drawn_value : PySem.W.nsIn K mainGlobals "_law_drawn_value" = some (some (.ref f_law_drawn_value)))
    (l_law_drawn_value : K.lookup f_law_drawn_value = some ⟨oc_law_drawn_value, od_law_drawn_value, .func (PySem.W.fnOf "_law_drawn_value" "_law_drawn_value" (defArgs s_law_drawn_value) (defBody s_law_drawn_value) (defScope s_law_drawn_value) .none kV_law_drawn_value dc_law_drawn_value pm_law_drawn_value an_law_drawn_value cd_law_drawn_value ct_law_drawn_value), sl_law_drawn_value⟩)
    (c_law_drawn_value : PySem.W.codeIn K cd_law_drawn_value "_law_drawn_value" = true)
    (k_law_drawn_value : PySem.W.keepIn K (.ref f_law_drawn_value) = true)
    {od_law_is_door an_law_is_door : Option Addr} {sl_law_is_door : Array (Option Value)} {oc_law_is_door kV_law_is_door dc_law_is_door pm_law_is_door cd_law_is_door ct_law_is_door : Value} {f_law_is_door : Addr}
    (a_law_is_door : PySem.W.nsIn K mainGlobals "_law_is_door" = some (some (.ref f_law_is_door)))
    (l_law_is_door : K.lookup f_law_is_door = some ⟨oc_law_is_door, od_law_is_door, .func (PySem.W.fnOf "_law_is_door" "_law_is_door" (defArgs s_law_is_door) (defBody s_law_is_door) (defScope s_law_is_door) .none kV_law_is_door dc_law_is_door pm_law_is_door an_law_is_door cd_law_is_door ct_law_is_door), sl_law_is_door⟩)
    (c_law_is_door : PySem.W.codeIn K cd_law_is_door "_law_is_door" = true)
    (k_law_is_door : PySem.W.keepIn K (.ref f_law_is_door) = true)
    {od_law_drawn_deed an_law_drawn_deed : Option Addr} {sl_law_drawn_deed : Array (Option Value)} {oc_law_drawn_deed kV_law_drawn_deed dc_law_drawn_deed pm_law_drawn_deed cd_law_drawn_deed ct_law_drawn_deed : Value} {f_law_drawn_deed : Addr}
    (a_law_drawn_deed : PySem.W.nsIn K mainGlobals "_law_drawn_deed" = some (some (.ref f_law_drawn_deed)))
    (l_law_drawn_deed : K.lookup f_law_drawn_deed = some ⟨oc_law_drawn_deed, od_law_drawn_deed, .func (PySem.W.fnOf "_law_drawn_deed" "_law_drawn_deed" (defArgs s_law_drawn_deed) (defBody s_law_drawn_deed) (defScope s_law_drawn_deed) .none kV_law_drawn_deed dc_law_drawn_deed pm_law_drawn_deed an_law_drawn_deed cd_law_drawn_deed ct_law_drawn_deed), sl_law_drawn_deed⟩)
    (c_law_drawn_deed : PySem.W.codeIn K cd_law_drawn_deed "_law_drawn_deed" = true)
    (k_law_drawn_deed : PySem.W.keepIn K (.ref f_law_drawn_deed) = true)
    {od_law_word an_law_word : Option Addr} {sl_law_word : Array (Option Value)} {oc_law_word kV_law_word dc_law_word pm_law_word cd_law_word ct_law_word : Value} {f_law_word : Addr}
    (a_law_word : PySem.W.nsIn K mainGlobals "_law_word" = some (some (.ref f_law_word)))
    (l_law_word : K.lookup f_law_word = some ⟨oc_law_word, od_law_word, .func (PySem.W.fnOf "_law_word" "_law_word" (defArgs s_law_word) (defBody s_law_word) (defScope s_law_word) .none kV_law_word dc_law_word pm_law_word an_law_word cd_law_word ct_law_word), sl_law_word⟩)
    (c_law_word : PySem.W.codeIn K cd_law_word "_law_word" = true)
    (k_law_word : PySem.W.keepIn K (.ref f_law_word) = true)
    {od_law_nested an_law_nested : Option Addr} {sl_law_nested : Array (Option Value)} {oc_law_nested kV_law_nested dc_law_nested pm_law_nested cd_law_nested ct_law_nested : Value} {f_law_nested : Addr}
    (a_law_nested : PySem.W.nsIn K mainGlobals "_law_nested" = some (some (.ref f_law_nested)))
    (l_law_nested : K.lookup f_law_nested = some ⟨oc_law_nested, od_law_nested, .func (PySem.W.fnOf "_law_nested" "_law_nested" (defArgs s_law_nested) (defBody s_law_nested) (defScope s_law_nested) .none kV_law_nested dc_law_nested pm_law_nested an_law_nested cd_law_nested ct_law_nested), sl_law_nested⟩)
    (c_law_nested : PySem.W.codeIn K cd_law_nested "_law_nested" = true)
    (k_law_nested : PySem.W.keepIn K (.ref f_law_nested) = true)
    {od_law_right an_law_right : Option Addr} {sl_law_right : Array (Option Value)} {oc_law_right kV_law_right dc_law_right pm_law_right cd_law_right ct_law_right : Value} {f_law_right : Addr}
    (a_law_right : PySem.W.nsIn K mainGlobals "_law_right" = some (some (.ref f_law_right)))
    (l_law_right : K.lookup f_law_right = some ⟨oc_law_right, od_law_right, .func (PySem.W.fnOf "_law_right" "_law_right" (defArgs s_law_right) (defBody s_law_right) (defScope s_law_right) .none kV_law_right dc_law_right pm_law_right an_law_right cd_law_right ct_law_right), sl_law_right⟩)
    (c_law_right : PySem.W.codeIn K cd_law_right "_law_right" = true)
    (k_law_right : PySem.W.keepIn K (.ref f_law_right) = true)
    {od_law an_law : Option Addr} {sl_law : Array (Option Value)} {oc_law kV_law dc_law pm_law cd_law ct_law : Value} {f_law : Addr}
    (a_law : PySem.W.nsIn K mainGlobals "law" = some (some (.ref f_law)))
    (l_law : K.lookup f_law = some ⟨oc_law, od_law, .func (PySem.W.fnOf "law" "law" (defArgs s_law) (defBody s_law) (defScope s_law) .none kV_law dc_law pm_law an_law cd_law ct_law), sl_law⟩)
    (c_law : PySem.W.codeIn K cd_law "law" = true)
    (k_law : PySem.W.keepIn K (.ref f_law) = true)
    {od_Door_init an_Door_init : Option Addr} {sl_Door_init : Array (Option Value)} {oc_Door_init kV_Door_init dc_Door_init pm_Door_init cd_Door_init ct_Door_init : Value} {f_Door_init : Addr}
    (a_Door_init : PySem.W.findIn K (.ref C) "__init__" = some (some (.ref f_Door_init)))
    (l_Door_init : K.lookup f_Door_init = some ⟨oc_Door_init, od_Door_init, .func (PySem.W.fnOf "__init__" "Door.__init__" (defArgs s_Door_init) (defBody s_Door_init) (defScope s_Door_init) .none kV_Door_init dc_Door_init pm_Door_init an_Door_init cd_Door_init ct_Door_init), sl_Door_init⟩)
    (c_Door_init : PySem.W.codeIn K cd_Door_init "Door.__init__" = true)
    (k_Door_init : PySem.W.keepIn K (.ref f_Door_init) = true)
    (i_Door_init : PySem.W.isFn K (.ref f_Door_init) = true)
    {od_Door_len an_Door_len : Option Addr} {sl_Door_len : Array (Option Value)} {oc_Door_len kV_Door_len dc_Door_len pm_Door_len cd_Door_len ct_Door_len : Value} {f_Door_len : Addr}
    (a_Door_len : PySem.W.findIn K (.ref C) "__len__" = some (some (.ref f_Door_len)))
    (l_Door_len : K.lookup f_Door_len = some ⟨oc_Door_len, od_Door_len, .func (PySem.W.fnOf "__len__" "Door.__len__" (defArgs s_Door_len) (defBody s_Door_len) (defScope s_Door_len) .none kV_Door_len dc_Door_len pm_Door_len an_Door_len cd_Door_len ct_Door_len), sl_Door_len⟩)
    (c_Door_len : PySem.W.codeIn K cd_Door_len "Door.__len__" = true)
    (k_Door_len : PySem.W.keepIn K (.ref f_Door_len) = true)
    (i_Door_len : PySem.W.isFn K (.ref f_Door_len) = true)
    {od_Door_come an_Door_come : Option Addr} {sl_Door_come : Array (Option Value)} {oc_Door_come kV_Door_come dc_Door_come pm_Door_come cd_Door_come ct_Door_come : Value} {f_Door_come : Addr}
    (a_Door_come : PySem.W.findIn K (.ref C) "come" = some (some (.ref f_Door_come)))
    (l_Door_come : K.lookup f_Door_come = some ⟨oc_Door_come, od_Door_come, .func (PySem.W.fnOf "come" "Door.come" (defArgs s_Door_come) (defBody s_Door_come) (defScope s_Door_come) .none kV_Door_come dc_Door_come pm_Door_come an_Door_come cd_Door_come ct_Door_come), sl_Door_come⟩)
    (c_Door_come : PySem.W.codeIn K cd_Door_come "Door.come" = true)
    (k_Door_come : PySem.W.keepIn K (.ref f_Door_come) = true)
    (i_Door_come : PySem.W.isFn K (.ref f_Door_come) = true)
    {od_Door_step an_Door_step : Option Addr} {sl_Door_step : Array (Option Value)} {oc_Door_step kV_Door_step dc_Door_step pm_Door_step cd_Door_step ct_Door_step : Value} {f_Door_step : Addr}
    (a_Door_step : PySem.W.findIn K (.ref C) "step" = some (some (.ref f_Door_step)))
    (l_Door_step : K.lookup f_Door_step = some ⟨oc_Door_step, od_Door_step, .func (PySem.W.fnOf "step" "Door.step" (defArgs s_Door_step) (defBody s_Door_step) (defScope s_Door_step) .none kV_Door_step dc_Door_step pm_Door_step an_Door_step cd_Door_step ct_Door_step), sl_Door_step⟩)
    (c_Door_step : PySem.W.codeIn K cd_Door_step "Door.step" = true)
    (k_Door_step : PySem.W.keepIn K (.ref f_Door_step) = true)
    (i_Door_step : PySem.W.isFn K (.ref f_Door_step) = true)
    {od_Door_next an_Door_next : Option Addr} {sl_Door_next : Array (Option Value)} {oc_Door_next kV_Door_next dc_Door_next pm_Door_next cd_Door_next ct_Door_next : Value} {f_Door_next : Addr}
    (a_Door_next : PySem.W.findIn K (.ref C) "next" = some (some (.ref f_Door_next)))
    (l_Door_next : K.lookup f_Door_next = some ⟨oc_Door_next, od_Door_next, .func (PySem.W.fnOf "next" "Door.next" (defArgs s_Door_next) (defBody s_Door_next) (defScope s_Door_next) .none kV_Door_next dc_Door_next pm_Door_next an_Door_next cd_Door_next ct_Door_next), sl_Door_next⟩)
    (c_Door_next : PySem.W.codeIn K cd_Door_next "Door.next" = true)
    (k_Door_next : PySem.W.keepIn K (.ref f_Door_next) = true)
    (i_Door_next : PySem.W.isFn K (.ref f_Door_next) = true)
    {od_Door_check_player an_Door_check_player : Option Addr} {sl_Door_check_player : Array (Option Value)} {oc_Door_check_player kV_Door_check_player dc_Door_check_player pm_Door_check_player cd_Door_check_player ct_Door_check_player : Value} {f_Door_check_player : Addr}
    (a_Door_check_player : PySem.W.findIn K (.ref C) "check_player" = some (some (.ref f_Door_check_player)))
    (l_Door_check_player : K.lookup f_Door_check_player = some ⟨oc_Door_check_player, od_Door_check_player, .func (PySem.W.fnOf "check_player" "Door.check_player" (defArgs s_Door_check_player) (defBody s_Door_check_player) (defScope s_Door_check_player) .none kV_Door_check_player dc_Door_check_player pm_Door_check_player an_Door_check_player cd_Door_check_player ct_Door_check_player), sl_Door_check_player⟩)
    (c_Door_check_player : PySem.W.codeIn K cd_Door_check_player "Door.check_player" = true)
    (k_Door_check_player : PySem.W.keepIn K (.ref f_Door_check_player) = true)
    (i_Door_check_player : PySem.W.isFn K (.ref f_Door_check_player) = true)
    {od_Door_shows_level an_Door_shows_level : Option Addr} {sl_Door_shows_level : Array (Option Value)} {oc_Door_shows_level kV_Door_shows_level dc_Door_shows_level pm_Door_shows_level cd_Door_shows_level ct_Door_shows_level : Value} {f_Door_shows_level : Addr}
    (a_Door_shows_level : PySem.W.findIn K (.ref C) "shows_level" = some (some (.ref f_Door_shows_level)))
    (l_Door_shows_level : K.lookup f_Door_shows_level = some ⟨oc_Door_shows_level, od_Door_shows_level, .func (PySem.W.fnOf "shows_level" "Door.shows_level" (defArgs s_Door_shows_level) (defBody s_Door_shows_level) (defScope s_Door_shows_level) .none kV_Door_shows_level dc_Door_shows_level pm_Door_shows_level an_Door_shows_level cd_Door_shows_level ct_Door_shows_level), sl_Door_shows_level⟩)
    (c_Door_shows_level : PySem.W.codeIn K cd_Door_shows_level "Door.shows_level" = true)
    (k_Door_shows_level : PySem.W.keepIn K (.ref f_Door_shows_level) = true)
    (i_Door_shows_level : PySem.W.isFn K (.ref f_Door_shows_level) = true)
    {od_Door_asks an_Door_asks : Option Addr} {sl_Door_asks : Array (Option Value)} {oc_Door_asks kV_Door_asks dc_Door_asks pm_Door_asks cd_Door_asks ct_Door_asks : Value} {f_Door_asks : Addr}
    (a_Door_asks : PySem.W.findIn K (.ref C) "asks" = some (some (.ref f_Door_asks)))
    (l_Door_asks : K.lookup f_Door_asks = some ⟨oc_Door_asks, od_Door_asks, .func (PySem.W.fnOf "asks" "Door.asks" (defArgs s_Door_asks) (defBody s_Door_asks) (defScope s_Door_asks) .none kV_Door_asks dc_Door_asks pm_Door_asks an_Door_asks cd_Door_asks ct_Door_asks), sl_Door_asks⟩)
    (c_Door_asks : PySem.W.codeIn K cd_Door_asks "Door.asks" = true)
    (k_Door_asks : PySem.W.keepIn K (.ref f_Door_asks) = true)
    (i_Door_asks : PySem.W.isFn K (.ref f_Door_asks) = true)
    (pgC : PySem.W.plainGet K C Str.empty = true)
    (hdC : PySem.W.hasDictIn K C = true)
    (poC : PySem.W.plainOver K C = true)
    (saC : PySem.W.findIn K (.ref C) "__setattr__" = some (some (.builtin "object.__setattr__")))
    (mkC : PySem.W.makesIn K C = true)
    (kpC : PySem.W.keepIn K (.ref C) = true)
    (np_many : PySem.W.findIn K (.ref C) "many" = some none)
    (np_came : PySem.W.findIn K (.ref C) "came" = some none)
    (np_levels : PySem.W.findIn K (.ref C) "levels" = some none)
    (np_heard : PySem.W.findIn K (.ref C) "heard" = some none)
    (np_seen : PySem.W.findIn K (.ref C) "seen" = some none)
    (np_deeds : PySem.W.findIn K (.ref C) "deeds" = some none)
    (z_isinstance : PySem.W.nsIn K mainGlobals "isinstance" = some none)
    (z_int : PySem.W.nsIn K mainGlobals "int" = some none)
    (z_bool : PySem.W.nsIn K mainGlobals "bool" = some none)
    (z_tuple : PySem.W.nsIn K mainGlobals "tuple" = some none)
    (z_all : PySem.W.nsIn K mainGlobals "all" = some none)
    (z_len : PySem.W.nsIn K mainGlobals "len" = some none)
    (z_enumerate : PySem.W.nsIn K mainGlobals "enumerate" = some none)
    (z_sum : PySem.W.nsIn K mainGlobals "sum" = some none)
    (z_abs : PySem.W.nsIn K mainGlobals "abs" = some none)
    (z_list : PySem.W.nsIn K mainGlobals "list" = some none)
    (z_range : PySem.W.nsIn K mainGlobals "range" = some none)
    (z_max : PySem.W.nsIn K mainGlobals "max" = some none)
    (z_min : PySem.W.nsIn K mainGlobals "min" = some none)
    (z_repr : PySem.W.nsIn K mainGlobals "repr" = some none)
    {t_MOST_PLAYERS : Tok}
    (v_MOST_PLAYERS : PySem.W.nsIn K mainGlobals "MOST_PLAYERS" = some (some (.int 5 t_MOST_PLAYERS)))
    {t_MOST_DEEP : Tok}
    (v_MOST_DEEP : PySem.W.nsIn K mainGlobals "MOST_DEEP" = some (some (.int 12 t_MOST_DEEP)))
    {t_MOST_ENTRIES : Tok}
    (v_MOST_ENTRIES : PySem.W.nsIn K mainGlobals "MOST_ENTRIES" = some (some (.int 60 t_MOST_ENTRIES)))
    {t_MOST_INTEGER : Tok}
    (v_MOST_INTEGER : PySem.W.nsIn K mainGlobals "MOST_INTEGER" = some (some (.int 9999 t_MOST_INTEGER)))
    {C_HandError : Addr}
    (a_HandError : PySem.W.nsIn K mainGlobals "HandError" = some (some (.ref C_HandError)))
    (eC_HandError : PySem.W.subIn K (.ref C_HandError) (.type "BaseException") = some true)
    (tC_HandError : PySem.W.typeIn K (.ref C_HandError) = some (.type "type"))
    {od_HandError_init an_HandError_init : Option Addr} {sl_HandError_init : Array (Option Value)} {oc_HandError_init kV_HandError_init dc_HandError_init pm_HandError_init cd_HandError_init ct_HandError_init : Value} {f_HandError_init : Addr}
    {C_BadMany N_BadMany : Addr} {nm_BadMany q_BadMany : Str} {bs_BadMany bm_BadMany sub_BadMany : List Value} {sn_BadMany : List Str} {ab_BadMany : Bool} {col_BadMany : Option Bool} {dd_BadMany : Option Addr} {m0_BadMany m1_BadMany m2_BadMany m3_BadMany m5_BadMany : Option Value}
    (a_BadMany : PySem.W.nsIn K mainGlobals "BadMany" = some (some (.ref C_BadMany)))
    (x_BadMany : K.lookup C_BadMany = some (PySem.excClassObj nm_BadMany q_BadMany C_BadMany N_BadMany bs_BadMany bm_BadMany true sn_BadMany sub_BadMany ab_BadMany col_BadMany dd_BadMany m0_BadMany m1_BadMany m2_BadMany m3_BadMany m5_BadMany "ValueError.__new__"))
    (rv_BadMany : PySem.HandSPX.refsVE bm_BadMany = true)
    (sa_BadMany : PySem.W.findIn K (.ref C_BadMany) "__setattr__" = some (some (.builtin "object.__setattr__")))
    (ga_BadMany : PySem.W.findIn K (.ref C_BadMany) "__getattribute__" = some (some (.builtin "BaseException.__getattribute__")))
    (gg_BadMany : PySem.W.findIn K (.ref C_BadMany) "__getattr__" = some none)
    (nv_BadMany : PySem.W.findIn K (.ref C_BadMany) "value" = some none)
    (in_BadMany : PySem.W.findIn K (.ref C_BadMany) "__init__" = some (some (.ref f_HandError_init)))
    (cc_BadMany : PySem.W.findIn K (.ref C_BadMany) "__class__" = some (some (.builtin "object.__class__")))
    (kC_BadMany : PySem.W.keepIn K (.ref C_BadMany) = true)
    (eC_BadMany : PySem.W.subIn K (.ref C_BadMany) (.type "BaseException") = some true)
    (tC_BadMany : PySem.W.typeIn K (.ref C_BadMany) = some (.type "type"))
    (hC_BadMany : PySem.W.hasDictIn K C_BadMany = true)
    (mr_BadMany : PySem.W.mroIn K C_BadMany (.type "object") = some true)
    {C_BadHand N_BadHand : Addr} {nm_BadHand q_BadHand : Str} {bs_BadHand bm_BadHand sub_BadHand : List Value} {sn_BadHand : List Str} {ab_BadHand : Bool} {col_BadHand : Option Bool} {dd_BadHand : Option Addr} {m0_BadHand m1_BadHand m2_BadHand m3_BadHand m5_BadHand : Option Value}
    (a_BadHand : PySem.W.nsIn K mainGlobals "BadHand" = some (some (.ref C_BadHand)))
    (x_BadHand : K.lookup C_BadHand = some (PySem.excClassObj nm_BadHand q_BadHand C_BadHand N_BadHand bs_BadHand bm_BadHand true sn_BadHand sub_BadHand ab_BadHand col_BadHand dd_BadHand m0_BadHand m1_BadHand m2_BadHand m3_BadHand m5_BadHand "ValueError.__new__"))
    (rv_BadHand : PySem.HandSPX.refsVE bm_BadHand = true)
    (sa_BadHand : PySem.W.findIn K (.ref C_BadHand) "__setattr__" = some (some (.builtin "object.__setattr__")))
    (ga_BadHand : PySem.W.findIn K (.ref C_BadHand) "__getattribute__" = some (some (.builtin "BaseException.__getattribute__")))
    (gg_BadHand : PySem.W.findIn K (.ref C_BadHand) "__getattr__" = some none)
    (nv_BadHand : PySem.W.findIn K (.ref C_BadHand) "value" = some none)
    (in_BadHand : PySem.W.findIn K (.ref C_BadHand) "__init__" = some (some (.ref f_HandError_init)))
    (cc_BadHand : PySem.W.findIn K (.ref C_BadHand) "__class__" = some (some (.builtin "object.__class__")))
    (kC_BadHand : PySem.W.keepIn K (.ref C_BadHand) = true)
    (eC_BadHand : PySem.W.subIn K (.ref C_BadHand) (.type "BaseException") = some true)
    (tC_BadHand : PySem.W.typeIn K (.ref C_BadHand) = some (.type "type"))
    (hC_BadHand : PySem.W.hasDictIn K C_BadHand = true)
    (mr_BadHand : PySem.W.mroIn K C_BadHand (.type "object") = some true)
    {C_BadValue N_BadValue : Addr} {nm_BadValue q_BadValue : Str} {bs_BadValue bm_BadValue sub_BadValue : List Value} {sn_BadValue : List Str} {ab_BadValue : Bool} {col_BadValue : Option Bool} {dd_BadValue : Option Addr} {m0_BadValue m1_BadValue m2_BadValue m3_BadValue m5_BadValue : Option Value}
    (a_BadValue : PySem.W.nsIn K mainGlobals "BadValue" = some (some (.ref C_BadValue)))
    (x_BadValue : K.lookup C_BadValue = some (PySem.excClassObj nm_BadValue q_BadValue C_BadValue N_BadValue bs_BadValue bm_BadValue true sn_BadValue sub_BadValue ab_BadValue col_BadValue dd_BadValue m0_BadValue m1_BadValue m2_BadValue m3_BadValue m5_BadValue "ValueError.__new__"))
    (rv_BadValue : PySem.HandSPX.refsVE bm_BadValue = true)
    (sa_BadValue : PySem.W.findIn K (.ref C_BadValue) "__setattr__" = some (some (.builtin "object.__setattr__")))
    (ga_BadValue : PySem.W.findIn K (.ref C_BadValue) "__getattribute__" = some (some (.builtin "BaseException.__getattribute__")))
    (gg_BadValue : PySem.W.findIn K (.ref C_BadValue) "__getattr__" = some none)
    (nv_BadValue : PySem.W.findIn K (.ref C_BadValue) "value" = some none)
    (in_BadValue : PySem.W.findIn K (.ref C_BadValue) "__init__" = some (some (.ref f_HandError_init)))
    (cc_BadValue : PySem.W.findIn K (.ref C_BadValue) "__class__" = some (some (.builtin "object.__class__")))
    (kC_BadValue : PySem.W.keepIn K (.ref C_BadValue) = true)
    (eC_BadValue : PySem.W.subIn K (.ref C_BadValue) (.type "BaseException") = some true)
    (tC_BadValue : PySem.W.typeIn K (.ref C_BadValue) = some (.type "type"))
    (hC_BadValue : PySem.W.hasDictIn K C_BadValue = true)
    (mr_BadValue : PySem.W.mroIn K C_BadValue (.type "object") = some true)
    {C_CameIn N_CameIn : Addr} {nm_CameIn q_CameIn : Str} {bs_CameIn bm_CameIn sub_CameIn : List Value} {sn_CameIn : List Str} {ab_CameIn : Bool} {col_CameIn : Option Bool} {dd_CameIn : Option Addr} {m0_CameIn m1_CameIn m2_CameIn m3_CameIn m5_CameIn : Option Value}
    (a_CameIn : PySem.W.nsIn K mainGlobals "CameIn" = some (some (.ref C_CameIn)))
    (x_CameIn : K.lookup C_CameIn = some (PySem.excClassObj nm_CameIn q_CameIn C_CameIn N_CameIn bs_CameIn bm_CameIn true sn_CameIn sub_CameIn ab_CameIn col_CameIn dd_CameIn m0_CameIn m1_CameIn m2_CameIn m3_CameIn m5_CameIn "ValueError.__new__"))
    (rv_CameIn : PySem.HandSPX.refsVE bm_CameIn = true)
    (sa_CameIn : PySem.W.findIn K (.ref C_CameIn) "__setattr__" = some (some (.builtin "object.__setattr__")))
    (ga_CameIn : PySem.W.findIn K (.ref C_CameIn) "__getattribute__" = some (some (.builtin "BaseException.__getattribute__")))
    (gg_CameIn : PySem.W.findIn K (.ref C_CameIn) "__getattr__" = some none)
    (nv_CameIn : PySem.W.findIn K (.ref C_CameIn) "value" = some none)
    (in_CameIn : PySem.W.findIn K (.ref C_CameIn) "__init__" = some (some (.ref f_HandError_init)))
    (cc_CameIn : PySem.W.findIn K (.ref C_CameIn) "__class__" = some (some (.builtin "object.__class__")))
    (kC_CameIn : PySem.W.keepIn K (.ref C_CameIn) = true)
    (eC_CameIn : PySem.W.subIn K (.ref C_CameIn) (.type "BaseException") = some true)
    (tC_CameIn : PySem.W.typeIn K (.ref C_CameIn) = some (.type "type"))
    (hC_CameIn : PySem.W.hasDictIn K C_CameIn = true)
    (mr_CameIn : PySem.W.mroIn K C_CameIn (.type "object") = some true)
    {C_NotCome N_NotCome : Addr} {nm_NotCome q_NotCome : Str} {bs_NotCome bm_NotCome sub_NotCome : List Value} {sn_NotCome : List Str} {ab_NotCome : Bool} {col_NotCome : Option Bool} {dd_NotCome : Option Addr} {m0_NotCome m1_NotCome m2_NotCome m3_NotCome m5_NotCome : Option Value}
    (a_NotCome : PySem.W.nsIn K mainGlobals "NotCome" = some (some (.ref C_NotCome)))
    (x_NotCome : K.lookup C_NotCome = some (PySem.excClassObj nm_NotCome q_NotCome C_NotCome N_NotCome bs_NotCome bm_NotCome true sn_NotCome sub_NotCome ab_NotCome col_NotCome dd_NotCome m0_NotCome m1_NotCome m2_NotCome m3_NotCome m5_NotCome "ValueError.__new__"))
    (rv_NotCome : PySem.HandSPX.refsVE bm_NotCome = true)
    (sa_NotCome : PySem.W.findIn K (.ref C_NotCome) "__setattr__" = some (some (.builtin "object.__setattr__")))
    (ga_NotCome : PySem.W.findIn K (.ref C_NotCome) "__getattribute__" = some (some (.builtin "BaseException.__getattribute__")))
    (gg_NotCome : PySem.W.findIn K (.ref C_NotCome) "__getattr__" = some none)
    (nv_NotCome : PySem.W.findIn K (.ref C_NotCome) "value" = some none)
    (in_NotCome : PySem.W.findIn K (.ref C_NotCome) "__init__" = some (some (.ref f_HandError_init)))
    (cc_NotCome : PySem.W.findIn K (.ref C_NotCome) "__class__" = some (some (.builtin "object.__class__")))
    (kC_NotCome : PySem.W.keepIn K (.ref C_NotCome) = true)
    (eC_NotCome : PySem.W.subIn K (.ref C_NotCome) (.type "BaseException") = some true)
    (tC_NotCome : PySem.W.typeIn K (.ref C_NotCome) = some (.type "type"))
    (hC_NotCome : PySem.W.hasDictIn K C_NotCome = true)
    (mr_NotCome : PySem.W.mroIn K C_NotCome (.type "object") = some true)
    (l_HandError_init : K.lookup f_HandError_init = some ⟨oc_HandError_init, od_HandError_init, .func (PySem.W.fnOf "__init__" "HandError.__init__" (defArgs s_HandError_init) (defBody s_HandError_init) (defScope s_HandError_init) .none kV_HandError_init dc_HandError_init pm_HandError_init an_HandError_init cd_HandError_init ct_HandError_init), sl_HandError_init⟩)
    (c_HandError_init : PySem.W.codeIn K cd_HandError_init "HandError.__init__" = true)
    (k_HandError_init : PySem.W.keepIn K (.ref f_HandError_init) = true)
    (ti_HandError_init : PySem.W.typeIn K (.ref f_HandError_init) = some (.type "function"))
    (hn : PySem.W.specialIn K (.builtin "object.__class__") "__get__" = some (some (.builtin "getset_descriptor.__get__")))
    (htk : PySem.W.takesIn K (.builtin "object.__class__") = some true)
    (eh_0 : PySem.W.exmOne K (.ref C_BadMany) (.ref C_HandError) = some true)
    (e_0_0 : PySem.W.exmOne K (.ref C_BadMany) (.ref C_BadMany) = some true)
    (e_0_1 : PySem.W.exmOne K (.ref C_BadMany) (.ref C_BadHand) = some false)
    (e_0_2 : PySem.W.exmOne K (.ref C_BadMany) (.ref C_BadValue) = some false)
    (e_0_3 : PySem.W.exmOne K (.ref C_BadMany) (.ref C_CameIn) = some false)
    (e_0_4 : PySem.W.exmOne K (.ref C_BadMany) (.ref C_NotCome) = some false)
    (eh_1 : PySem.W.exmOne K (.ref C_BadHand) (.ref C_HandError) = some true)
    (e_1_0 : PySem.W.exmOne K (.ref C_BadHand) (.ref C_BadMany) = some false)
    (e_1_1 : PySem.W.exmOne K (.ref C_BadHand) (.ref C_BadHand) = some true)
    (e_1_2 : PySem.W.exmOne K (.ref C_BadHand) (.ref C_BadValue) = some false)
    (e_1_3 : PySem.W.exmOne K (.ref C_BadHand) (.ref C_CameIn) = some false)
    (e_1_4 : PySem.W.exmOne K (.ref C_BadHand) (.ref C_NotCome) = some false)
    (eh_2 : PySem.W.exmOne K (.ref C_BadValue) (.ref C_HandError) = some true)
    (e_2_0 : PySem.W.exmOne K (.ref C_BadValue) (.ref C_BadMany) = some false)
    (e_2_1 : PySem.W.exmOne K (.ref C_BadValue) (.ref C_BadHand) = some false)
    (e_2_2 : PySem.W.exmOne K (.ref C_BadValue) (.ref C_BadValue) = some true)
    (e_2_3 : PySem.W.exmOne K (.ref C_BadValue) (.ref C_CameIn) = some false)
    (e_2_4 : PySem.W.exmOne K (.ref C_BadValue) (.ref C_NotCome) = some false)
    (eh_3 : PySem.W.exmOne K (.ref C_CameIn) (.ref C_HandError) = some true)
    (e_3_0 : PySem.W.exmOne K (.ref C_CameIn) (.ref C_BadMany) = some false)
    (e_3_1 : PySem.W.exmOne K (.ref C_CameIn) (.ref C_BadHand) = some false)
    (e_3_2 : PySem.W.exmOne K (.ref C_CameIn) (.ref C_BadValue) = some false)
    (e_3_3 : PySem.W.exmOne K (.ref C_CameIn) (.ref C_CameIn) = some true)
    (e_3_4 : PySem.W.exmOne K (.ref C_CameIn) (.ref C_NotCome) = some false)
    (eh_4 : PySem.W.exmOne K (.ref C_NotCome) (.ref C_HandError) = some true)
    (e_4_0 : PySem.W.exmOne K (.ref C_NotCome) (.ref C_BadMany) = some false)
    (e_4_1 : PySem.W.exmOne K (.ref C_NotCome) (.ref C_BadHand) = some false)
    (e_4_2 : PySem.W.exmOne K (.ref C_NotCome) (.ref C_BadValue) = some false)
    (e_4_3 : PySem.W.exmOne K (.ref C_NotCome) (.ref C_CameIn) = some false)
    (e_4_4 : PySem.W.exmOne K (.ref C_NotCome) (.ref C_NotCome) = some true)
    {cR PR : Addr} {occ : Value} {odc : Option Addr} {vsc : Array Value} {slc : Array (Option Value)}
    (hcd : cd_law_right = .ref cR)
    (hco : K.lookup cR = some ⟨occ, odc, .fields vsc, slc⟩)
    (h11 : (vsc[11]? : Option Value) = some (.ref PR))
    (nT : K.lookup PR = none) :
    LawAtT l w K CX0 21 63 "script" ["_law_right"] mg fa := by
  have hTab : PySem.W.tabIn K "_law_right" = some (cR, PR) := by
    unfold PySem.W.tabIn
    rw [a_law_right]
    dsimp only
    rw [l_law_right]
    dsimp only [PySem.W.fnOf]
    rw [hcd]
    dsimp only
    rw [hco]
    dsimp only
    rw [h11]
  have e := hfa.symm.trans (PySem.W.mg_of X G a_law)
  cases e
  have F_is_whole := fun_mk (st := s_is_whole) l_is_whole c_is_whole k_is_whole
  have b_is_whole := F_is_whole.binds (ps := ["value"]) fun _ _ _ _ _ _ us hl => match us, hl with | [_], _ => rfl
  have F_is_below := fun_mk (st := s_is_below) l_is_below c_is_below k_is_below
  have b_is_below := F_is_below.binds (ps := ["value", "many"]) fun _ _ _ _ _ _ us hl => match us, hl with | [_, _], _ => rfl
  have F_exchanged := fun_mk (st := s_exchanged) l_exchanged c_exchanged k_exchanged
  have b_exchanged := F_exchanged.binds (ps := ["row", "at", "thing"]) fun _ _ _ _ _ _ us hl => match us, hl with | [_, _, _], _ => rfl
  have F_is_small_value := fun_mk (st := s_is_small_value) l_is_small_value c_is_small_value k_is_small_value
  have b_is_small_value := F_is_small_value.binds (ps := ["value"]) fun _ _ _ _ _ _ us hl => match us, hl with | [_], _ => rfl
  have F_is_small_within := fun_mk (st := s_is_small_within) l_is_small_within c_is_small_within k_is_small_within
  have b_is_small_within := F_is_small_within.binds (ps := ["value", "deep"]) fun _ _ _ _ _ _ us hl => match us, hl with | [_, _], _ => rfl
  have F_law_pot := fun_mk (st := s_law_pot) l_law_pot c_law_pot k_law_pot
  have b_law_pot := F_law_pot.binds (ps := ["script", "place"]) fun _ _ _ _ _ _ us hl => match us, hl with | [_, _], _ => rfl
  have F_law_take := fun_mk (st := s_law_take) l_law_take c_law_take k_law_take
  have b_law_take := F_law_take.binds (ps := ["pot", "upto"]) fun _ _ _ _ _ _ us hl => match us, hl with | [_, _], _ => rfl
  have F_law_of := fun_mk (st := s_law_of) l_law_of c_law_of k_law_of
  have b_law_of := F_law_of.binds (ps := ["pot", "some"]) fun _ _ _ _ _ _ us hl => match us, hl with | [_, _], _ => rfl
  have F_law_cells := fun_mk (st := s_law_cells) l_law_cells c_law_cells k_law_cells
  have b_law_cells := F_law_cells.binds (ps := ["script", "limit"]) fun _ _ _ _ _ _ us hl => match us, hl with | [_, _], _ => rfl
  have F_law_caught := fun_mk (st := s_law_caught) l_law_caught c_law_caught k_law_caught
  have b_law_caught := F_law_caught.binds (ps := ["call"]) fun _ _ _ _ _ _ us hl => match us, hl with | [_], _ => rfl
  have F_law_is_refused := fun_mk (st := s_law_is_refused) l_law_is_refused c_law_is_refused k_law_is_refused
  have b_law_is_refused := F_law_is_refused.binds (ps := ["call", "word", "value"]) fun _ _ _ _ _ _ us hl => match us, hl with | [_, _, _], _ => rfl
  have F_law_door := fun_mk (st := s_law_door) l_law_door c_law_door k_law_door
  have b_law_door := F_law_door.binds (ps := ["many"]) fun _ _ _ _ _ _ us hl => match us, hl with | [_], _ => rfl
  have F_law_door_next := fun_mk (st := s_law_door_next) l_law_door_next c_law_door_next k_law_door_next
  have b_law_door_next := F_law_door_next.binds (ps := ["door", "player"]) fun _ _ _ _ _ _ us hl => match us, hl with | [_, _], _ => rfl
  have F_law_door_come := fun_mk (st := s_law_door_come) l_law_door_come c_law_door_come k_law_door_come
  have b_law_door_come := F_law_door_come.binds (ps := ["door", "player", "value"]) fun _ _ _ _ _ _ us hl => match us, hl with | [_, _, _], _ => rfl
  have F_law_door_step := fun_mk (st := s_law_door_step) l_law_door_step c_law_door_step k_law_door_step
  have b_law_door_step := F_law_door_step.binds (ps := ["door", "player"]) fun _ _ _ _ _ _ us hl => match us, hl with | [_, _], _ => rfl
  have F_law_drawn_value := fun_mk (st := s_law_drawn_value) l_law_drawn_value c_law_drawn_value k_law_drawn_value
  have b_law_drawn_value := F_law_drawn_value.binds (ps := ["pot", "deep"]) fun _ _ _ _ _ _ us hl => match us, hl with | [_, _], _ => rfl
  have F_law_is_door := fun_mk (st := s_law_is_door) l_law_is_door c_law_is_door k_law_is_door
  have b_law_is_door := F_law_is_door.binds (ps := ["door", "own"]) fun _ _ _ _ _ _ us hl => match us, hl with | [_, _], _ => rfl
  have F_law_drawn_deed := fun_mk (st := s_law_drawn_deed) l_law_drawn_deed c_law_drawn_deed k_law_drawn_deed
  have b_law_drawn_deed := F_law_drawn_deed.binds (ps := ["pot", "own"]) fun _ _ _ _ _ _ us hl => match us, hl with | [_, _], _ => rfl
  have F_law_word := fun_mk (st := s_law_word) l_law_word c_law_word k_law_word
  have b_law_word := F_law_word.binds (ps := ["error"]) fun _ _ _ _ _ _ us hl => match us, hl with | [_], _ => rfl
  have F_law_nested := fun_mk (st := s_law_nested) l_law_nested c_law_nested k_law_nested
  have b_law_nested := F_law_nested.binds (ps := ["value", "deep"]) fun _ _ _ _ _ _ us hl => match us, hl with | [_, _], _ => rfl
  have F_law_right := fun_mk (st := s_law_right) l_law_right c_law_right k_law_right
  have b_law_right := F_law_right.binds (ps := ["pot"]) fun _ _ _ _ _ _ us hl => match us, hl with | [_], _ => rfl
  have F_law := fun_mk (st := s_law) l_law c_law k_law
  have b_law := F_law.binds (ps := ["script"]) fun _ _ _ _ _ _ us hl => match us, hl with | [_], _ => rfl
  have F_Door_init := fun_mk (st := s_Door_init) l_Door_init c_Door_init k_Door_init
  have b_Door_init := F_Door_init.binds (ps := ["self", "many"]) fun _ _ _ _ _ _ us hl => match us, hl with | [_, _], _ => rfl
  have F_Door_len := fun_mk (st := s_Door_len) l_Door_len c_Door_len k_Door_len
  have b_Door_len := F_Door_len.binds (ps := ["self"]) fun _ _ _ _ _ _ us hl => match us, hl with | [_], _ => rfl
  have F_Door_come := fun_mk (st := s_Door_come) l_Door_come c_Door_come k_Door_come
  have b_Door_come := F_Door_come.binds (ps := ["self", "player", "value"]) fun _ _ _ _ _ _ us hl => match us, hl with | [_, _, _], _ => rfl
  have F_Door_step := fun_mk (st := s_Door_step) l_Door_step c_Door_step k_Door_step
  have b_Door_step := F_Door_step.binds (ps := ["self", "player"]) fun _ _ _ _ _ _ us hl => match us, hl with | [_, _], _ => rfl
  have F_Door_next := fun_mk (st := s_Door_next) l_Door_next c_Door_next k_Door_next
  have b_Door_next := F_Door_next.binds (ps := ["self", "player"]) fun _ _ _ _ _ _ us hl => match us, hl with | [_, _], _ => rfl
  have F_Door_check_player := fun_mk (st := s_Door_check_player) l_Door_check_player c_Door_check_player k_Door_check_player
  have b_Door_check_player := F_Door_check_player.binds (ps := ["self", "player"]) fun _ _ _ _ _ _ us hl => match us, hl with | [_, _], _ => rfl
  have F_Door_shows_level := fun_mk (st := s_Door_shows_level) l_Door_shows_level c_Door_shows_level k_Door_shows_level
  have b_Door_shows_level := F_Door_shows_level.binds (ps := ["self", "player"]) fun _ _ _ _ _ _ us hl => match us, hl with | [_, _], _ => rfl
  have F_Door_asks := fun_mk (st := s_Door_asks) l_Door_asks c_Door_asks k_Door_asks
  have b_Door_asks := F_Door_asks.binds (ps := ["self", "player"]) fun _ _ _ _ _ _ us hl => match us, hl with | [_, _], _ => rfl
  refine ⟨PySem.W.fnOf "law" "law" (defArgs s_law) (defBody s_law) (defScope s_law) .none kV_law dc_law pm_law an_law cd_law ct_law, [(cR, PR)], spLawT K PR, fun p hp => ⟨"_law_right", List.mem_singleton.mpr rfl, by rw [List.mem_singleton.mp hp]; exact hTab⟩, fun p hp => by rw [List.mem_singleton.mp hp]; exact nT, fun s v => .of_eq rfl,
    fun H a ns hl hH _ hS => ⟨a, ns, rfl, hS, hl, fun p hp => by rw [List.mem_singleton.mp hp]; exact LamX.TabS.nil (hH (cR, PR) (List.mem_singleton.mpr rfl)), fun _ => rfl⟩, fun base _ _ hTB => ?_⟩
  have hC : DC K C := ⟨⟨pgC, hdC, poC, saC⟩, np_many, np_came, np_levels, np_heard, np_seen, np_deeds⟩
  have T : PTx mg := ⟨(PySem.W.mg_none_of X G z_isinstance), (PySem.W.mg_none_of X G z_int), (PySem.W.mg_none_of X G z_bool), (PySem.W.mg_none_of X G z_tuple), (PySem.W.mg_none_of X G z_all), (PySem.W.mg_none_of X G z_len), (PySem.W.mg_none_of X G z_enumerate), ⟨_, (PySem.W.mg_of X G v_MOST_PLAYERS)⟩, ⟨_, (PySem.W.mg_of X G v_MOST_DEEP)⟩, ⟨_, (PySem.W.mg_of X G v_MOST_ENTRIES)⟩, ⟨_, (PySem.W.mg_of X G v_MOST_INTEGER)⟩⟩
  have LT : LTx mg := ⟨(PySem.W.mg_none_of X G z_len), (PySem.W.mg_none_of X G z_int), (PySem.W.mg_none_of X G z_sum), (PySem.W.mg_none_of X G z_abs), (PySem.W.mg_none_of X G z_list), (PySem.W.mg_none_of X G z_tuple), (PySem.W.mg_none_of X G z_range), (PySem.W.mg_none_of X G z_max), (PySem.W.mg_none_of X G z_min), (PySem.W.mg_none_of X G z_repr), (PySem.W.mg_none_of X G z_all), (PySem.W.mg_none_of X G z_enumerate)⟩
  have G_is_whole : Fd l.prog w K mg base CX0 "is_whole" 1 ["value"] spIsWhole := ⟨_, _, (PySem.W.mg_of X G a_is_whole), k_is_whole, b_is_whole, ok_is_whole F_is_whole T⟩
  have G_is_below : Fd l.prog w K mg base CX0 "is_below" 2 ["value", "many"] spBelow := ⟨_, _, (PySem.W.mg_of X G a_is_below), k_is_below, b_is_below, ok_is_below F_is_below T G_is_whole⟩
  have G_exchanged : Fd l.prog w K mg base CX0 "exchanged" 1 ["row", "at", "thing"] (spExch K) := ⟨_, _, (PySem.W.mg_of X G a_exchanged), k_exchanged, b_exchanged, ok_exchanged F_exchanged⟩
  have G_small := all_small F_is_small_within b_is_small_within (PySem.W.mg_of X G a_is_small_within) T G_is_whole (P := l.prog) (w := w) (base := base) 5
  have G_is_small_value : Fd l.prog w K mg base CX0 "is_small_value" 7 ["value"] spSmall := ⟨_, _, (PySem.W.mg_of X G a_is_small_value), k_is_small_value, b_is_small_value, ok_small_value F_is_small_value T G_small⟩
  have M_check_player : Md l.prog w K mg base CX0 C "check_player" 3 ["self", "player"] (spCheck C) := ⟨_, _, ⟨a_Door_check_player, i_Door_check_player, k_Door_check_player⟩, b_Door_check_player, ok_Door_check_player F_Door_check_player T hC G_is_below⟩
  have M_next : Md l.prog w K mg base CX0 C "next" 4 ["self", "player"] (spNext C) := ⟨_, _, ⟨a_Door_next, i_Door_next, k_Door_next⟩, b_Door_next, ok_Door_next F_Door_next T hC M_check_player⟩
  have M_shows_level : Md l.prog w K mg base CX0 C "shows_level" 2 ["self", "player"] (spShows C) := ⟨_, _, ⟨a_Door_shows_level, i_Door_shows_level, k_Door_shows_level⟩, b_Door_shows_level, ok_Door_shows_level F_Door_shows_level hC G_exchanged⟩
  have M_asks : Md l.prog w K mg base CX0 C "asks" 2 ["self", "player"] (spAsks C) := ⟨_, _, ⟨a_Door_asks, i_Door_asks, k_Door_asks⟩, b_Door_asks, ok_Door_asks F_Door_asks hC G_exchanged⟩
  have M_step : Md l.prog w K mg base CX0 C "step" 5 ["self", "player"] (spStep C) := ⟨_, _, ⟨a_Door_step, i_Door_step, k_Door_step⟩, b_Door_step, ok_Door_step F_Door_step hC G_exchanged M_next M_shows_level M_asks⟩
  have M_come : Md l.prog w K mg base CX0 C "come" 8 ["self", "player", "value"] (spCome C) := ⟨_, _, ⟨a_Door_come, i_Door_come, k_Door_come⟩, b_Door_come, ok_Door_come F_Door_come hC G_exchanged G_is_small_value M_check_player⟩
  have M_Door : MkC l.prog w K mg base "Door" C 2 ["self", "many"] (spDInit C) := ⟨(PySem.W.mg_of X G aCP), _, _, ⟨mkC, a_Door_init, i_Door_init, kpC⟩, b_Door_init, ok_Door_init F_Door_init T hC G_is_whole⟩
  have G_law_take : Fd l.prog w K mg base CX0 "_law_take" 1 ["pot", "upto"] spTake := ⟨_, _, (PySem.W.mg_of X G a_law_take), k_law_take, b_law_take, ok_law_take F_law_take LT⟩
  have G_law_of : Fd l.prog w K mg base CX0 "_law_of" 2 ["pot", "some"] (spOf K) := ⟨_, _, (PySem.W.mg_of X G a_law_of), k_law_of, b_law_of, ok_law_of F_law_of LT G_law_take⟩
  have G_law_cells : Fd l.prog w K mg base CX0 "_law_cells" 1 ["script", "limit"] (spCells K) := ⟨_, _, (PySem.W.mg_of X G a_law_cells), k_law_cells, b_law_cells, ok_law_cells F_law_cells LT⟩
  have G_law_pot : Fd l.prog w K mg base CX0 "_law_pot" 1 ["script", "place"] (spPot K) := ⟨_, _, (PySem.W.mg_of X G a_law_pot), k_law_pot, b_law_pot, ok_law_pot F_law_pot LT⟩
  have G_law_drawn_value := all_value F_law_drawn_value b_law_drawn_value (PySem.W.mg_of X G a_law_drawn_value) LT G_law_take G_law_of (P := l.prog) (w := w) (base := base) 3
  have G_law_door : Fd l.prog w K mg base CX0 "_law_door" 1 ["many"] spODoor := ⟨_, _, (PySem.W.mg_of X G a_law_door), k_law_door, b_law_door, ok_law_door F_law_door⟩
  have G_law_door_come : Fd l.prog w K mg base CX0 "_law_door_come" 1 ["door", "player", "value"] spOCome := ⟨_, _, (PySem.W.mg_of X G a_law_door_come), k_law_door_come, b_law_door_come, ok_law_door_come F_law_door_come⟩
  have G_law_door_step : Fd l.prog w K mg base CX0 "_law_door_step" 1 ["door", "player"] spOStep := ⟨_, _, (PySem.W.mg_of X G a_law_door_step), k_law_door_step, b_law_door_step, ok_law_door_step F_law_door_step LT⟩
  have G_law_drawn_deed : Fd l.prog w K mg base CX0 "_law_drawn_deed" 6 ["pot", "own"] spDeed := ⟨_, _, (PySem.W.mg_of X G a_law_drawn_deed), k_law_drawn_deed, b_law_drawn_deed, ok_law_drawn_deed F_law_drawn_deed LT G_law_take G_law_drawn_value⟩
  have F_HandError_init := fun_mk (st := s_HandError_init) l_HandError_init c_HandError_init k_HandError_init
  have b_HandError_init := F_HandError_init.binds (ps := ["self", "value"]) fun _ _ _ _ _ _ us hl => match us, hl with | [_, _], _ => rfl
  have E_BadMany : ErrC l.prog w K mg base "BadMany" C_BadMany := ⟨⟨⟨_, _, _, _, _, _, _, _, _, _, _, _, _, _, _, x_BadMany, rv_BadMany⟩, sa_BadMany, eC_BadMany, tC_BadMany, kC_BadMany⟩, (PySem.W.mg_of X G a_BadMany), nv_BadMany, f_HandError_init, _, in_BadMany, ti_HandError_init, b_HandError_init, ok_HandError_init F_HandError_init⟩
  have E_BadHand : ErrC l.prog w K mg base "BadHand" C_BadHand := ⟨⟨⟨_, _, _, _, _, _, _, _, _, _, _, _, _, _, _, x_BadHand, rv_BadHand⟩, sa_BadHand, eC_BadHand, tC_BadHand, kC_BadHand⟩, (PySem.W.mg_of X G a_BadHand), nv_BadHand, f_HandError_init, _, in_BadHand, ti_HandError_init, b_HandError_init, ok_HandError_init F_HandError_init⟩
  have E_BadValue : ErrC l.prog w K mg base "BadValue" C_BadValue := ⟨⟨⟨_, _, _, _, _, _, _, _, _, _, _, _, _, _, _, x_BadValue, rv_BadValue⟩, sa_BadValue, eC_BadValue, tC_BadValue, kC_BadValue⟩, (PySem.W.mg_of X G a_BadValue), nv_BadValue, f_HandError_init, _, in_BadValue, ti_HandError_init, b_HandError_init, ok_HandError_init F_HandError_init⟩
  have E_CameIn : ErrC l.prog w K mg base "CameIn" C_CameIn := ⟨⟨⟨_, _, _, _, _, _, _, _, _, _, _, _, _, _, _, x_CameIn, rv_CameIn⟩, sa_CameIn, eC_CameIn, tC_CameIn, kC_CameIn⟩, (PySem.W.mg_of X G a_CameIn), nv_CameIn, f_HandError_init, _, in_CameIn, ti_HandError_init, b_HandError_init, ok_HandError_init F_HandError_init⟩
  have E_NotCome : ErrC l.prog w K mg base "NotCome" C_NotCome := ⟨⟨⟨_, _, _, _, _, _, _, _, _, _, _, _, _, _, _, x_NotCome, rv_NotCome⟩, sa_NotCome, eC_NotCome, tC_NotCome, kC_NotCome⟩, (PySem.W.mg_of X G a_NotCome), nv_NotCome, f_HandError_init, _, in_NotCome, ti_HandError_init, b_HandError_init, ok_HandError_init F_HandError_init⟩
  have G_is_wholeA : Fd l.prog w K mg base CX0 "is_whole" 1 ["value"] (spWholeA K) := ⟨_, _, (PySem.W.mg_of X G a_is_whole), k_is_whole, b_is_whole, ok_is_wholeA F_is_whole T⟩
  have G_is_belowA : Fd l.prog w K mg base CX0 "is_below" 2 ["value", "many"] (spBelowA K) := ⟨_, _, (PySem.W.mg_of X G a_is_below), k_is_below, b_is_below, ok_is_belowA F_is_below G_is_wholeA⟩
  have X_check : Md l.prog w K mg base (L2.CX l.prog w) C "check_player" 3 ["self", "player"] (spCheckX K C C_BadHand) := ⟨_, _, ⟨a_Door_check_player, i_Door_check_player, k_Door_check_player⟩, b_Door_check_player, ok_Door_check_playerX F_Door_check_player hC E_BadHand G_is_belowA⟩
  have X_next : Md l.prog w K mg base (L2.CX l.prog w) C "next" 4 ["self", "player"] (spCheckX K C C_BadHand) := ⟨_, _, ⟨a_Door_next, i_Door_next, k_Door_next⟩, b_Door_next, ok_Door_nextX F_Door_next T hC X_check⟩
  have X_Door : MkX l.prog w K mg base "Door" C 3 ["self", "many"] (spDInitX K C_BadMany) := ⟨(PySem.W.mg_of X G aCP), _, _, ⟨mkC, a_Door_init, i_Door_init, kpC⟩, b_Door_init, ok_Door_initX F_Door_init T hC E_BadMany G_is_wholeA⟩
  have X_step : Md l.prog w K mg base (L2.CX l.prog w) C "step" 5 ["self", "player"] (spCheckX K C C_BadHand) := ⟨_, _, ⟨a_Door_step, i_Door_step, k_Door_step⟩, b_Door_step, ok_Door_stepX F_Door_step hC G_exchanged X_next M_shows_level M_asks⟩
  have N_step : Md l.prog w K mg base (L2.CX l.prog w) C "step" 5 ["self", "player"] (spStepN C C_NotCome) := ⟨_, _, ⟨a_Door_step, i_Door_step, k_Door_step⟩, b_Door_step, ok_Door_stepN F_Door_step hC E_NotCome G_exchanged M_next M_shows_level M_asks⟩
  have X_come : Md l.prog w K mg base (L2.CX l.prog w) C "come" 8 ["self", "player", "value"] (spComeX K C C_BadHand) := ⟨_, _, ⟨a_Door_come, i_Door_come, k_Door_come⟩, b_Door_come, ok_Door_comeX F_Door_come hC G_exchanged G_is_small_value X_check⟩
  have G_smallD := all_smallD F_is_small_within b_is_small_within (PySem.W.mg_of X G a_is_small_within) T G_is_wholeA (P := l.prog) (w := w) (base := base) 13
  have G_is_small_valueD : Fd l.prog w K mg base CX0 "is_small_value" 15 ["value"] spSmallD := ⟨_, _, (PySem.W.mg_of X G a_is_small_value), k_is_small_value, b_is_small_value, ok_small_valueD F_is_small_value T G_smallD⟩
  have V_come : Md l.prog w K mg base (L2.CX l.prog w) C "come" 16 ["self", "player", "value"] (spComeV C C_BadValue) := ⟨_, _, ⟨a_Door_come, i_Door_come, k_Door_come⟩, b_Door_come, ok_Door_comeV F_Door_come hC E_BadValue G_exchanged G_is_small_valueD M_check_player⟩
  have C_come : Md l.prog w K mg base (L2.CX l.prog w) C "come" 16 ["self", "player", "value"] (spComeCD C C_CameIn) := ⟨_, _, ⟨a_Door_come, i_Door_come, k_Door_come⟩, b_Door_come, ok_Door_comeCD F_Door_come hC E_CameIn G_exchanged G_is_small_valueD M_check_player⟩
  have F_come : Md l.prog w K mg base CX0 C "come" 16 ["self", "player", "value"] (spComeF C) := ⟨_, _, ⟨a_Door_come, i_Door_come, k_Door_come⟩, b_Door_come, ok_Door_comeF F_Door_come hC G_exchanged G_is_small_valueD M_check_player⟩
  have M_len : LenC l.prog w K mg base C 1 ["self"] (spDLen C) := ⟨_, _, a_Door_len, i_Door_len, b_Door_len, ok_Door_len F_Door_len T hC⟩
  have G_law_caught : Fd l.prog w K mg base CX0 "_law_caught" 18 ["call"] (spCaught l.prog w K mg base 17 C_HandError) := ⟨_, _, (PySem.W.mg_of X G a_law_caught), k_law_caught, b_law_caught, ok_law_caught F_law_caught (PySem.W.mg_of X G a_HandError)⟩
  have EX : ∀ i j, i < 5 → j < 5 → PySem.W.exmOne K (.ref ((⟨C_BadMany, C_BadHand, C_BadValue, C_CameIn, C_NotCome⟩ : E5).at i)) (.ref ((⟨C_BadMany, C_BadHand, C_BadValue, C_CameIn, C_NotCome⟩ : E5).at j)) = some (decide (i = j)) := fun i j hi hj => by
    rcases (show i = 0 ∨ i = 1 ∨ i = 2 ∨ i = 3 ∨ i = 4 by omega) with rfl | rfl | rfl | rfl | rfl <;> rcases (show j = 0 ∨ j = 1 ∨ j = 2 ∨ j = 3 ∨ j = 4 by omega) with rfl | rfl | rfl | rfl | rfl
    · exact e_0_0
    · exact e_0_1
    · exact e_0_2
    · exact e_0_3
    · exact e_0_4
    · exact e_1_0
    · exact e_1_1
    · exact e_1_2
    · exact e_1_3
    · exact e_1_4
    · exact e_2_0
    · exact e_2_1
    · exact e_2_2
    · exact e_2_3
    · exact e_2_4
    · exact e_3_0
    · exact e_3_1
    · exact e_3_2
    · exact e_3_3
    · exact e_3_4
    · exact e_4_0
    · exact e_4_1
    · exact e_4_2
    · exact e_4_3
    · exact e_4_4
  have EC : ∀ i, i < 5 → ExcC K ((⟨C_BadMany, C_BadHand, C_BadValue, C_CameIn, C_NotCome⟩ : E5).at i) := fun i hi => by
    rcases (show i = 0 ∨ i = 1 ∨ i = 2 ∨ i = 3 ∨ i = 4 by omega) with rfl | rfl | rfl | rfl | rfl
    · exact ⟨ga_BadMany, gg_BadMany, eC_BadMany, hC_BadMany, cc_BadMany, hn, htk, mr_BadMany⟩
    · exact ⟨ga_BadHand, gg_BadHand, eC_BadHand, hC_BadHand, cc_BadHand, hn, htk, mr_BadHand⟩
    · exact ⟨ga_BadValue, gg_BadValue, eC_BadValue, hC_BadValue, cc_BadValue, hn, htk, mr_BadValue⟩
    · exact ⟨ga_CameIn, gg_CameIn, eC_CameIn, hC_CameIn, cc_CameIn, hn, htk, mr_CameIn⟩
    · exact ⟨ga_NotCome, gg_NotCome, eC_NotCome, hC_NotCome, cc_NotCome, hn, htk, mr_NotCome⟩
  have EF : ∀ i, i < 5 → XfC K ((⟨C_BadMany, C_BadHand, C_BadValue, C_CameIn, C_NotCome⟩ : E5).at i) := fun i hi => by
    rcases (show i = 0 ∨ i = 1 ∨ i = 2 ∨ i = 3 ∨ i = 4 by omega) with rfl | rfl | rfl | rfl | rfl
    · exact ⟨ga_BadMany, gg_BadMany, eC_BadMany, hC_BadMany⟩
    · exact ⟨ga_BadHand, gg_BadHand, eC_BadHand, hC_BadHand⟩
    · exact ⟨ga_BadValue, gg_BadValue, eC_BadValue, hC_BadValue⟩
    · exact ⟨ga_CameIn, gg_CameIn, eC_CameIn, hC_CameIn⟩
    · exact ⟨ga_NotCome, gg_NotCome, eC_NotCome, hC_NotCome⟩
  have EV : ∀ i, i < 5 → PySem.W.findIn K (.ref ((⟨C_BadMany, C_BadHand, C_BadValue, C_CameIn, C_NotCome⟩ : E5).at i)) "value" = some none := fun i hi => by
    rcases (show i = 0 ∨ i = 1 ∨ i = 2 ∨ i = 3 ∨ i = 4 by omega) with rfl | rfl | rfl | rfl | rfl
    · exact nv_BadMany
    · exact nv_BadHand
    · exact nv_BadValue
    · exact nv_CameIn
    · exact nv_NotCome
  have EH : ∀ i, i < 5 → PySem.W.exmOne K (.ref ((⟨C_BadMany, C_BadHand, C_BadValue, C_CameIn, C_NotCome⟩ : E5).at i)) (.ref C_HandError) = some true := fun i hi => by
    rcases (show i = 0 ∨ i = 1 ∨ i = 2 ∨ i = 3 ∨ i = 4 by omega) with rfl | rfl | rfl | rfl | rfl
    · exact eh_0
    · exact eh_1
    · exact eh_2
    · exact eh_3
    · exact eh_4
  have hErrs : ErrsC K mg ⟨C_BadMany, C_BadHand, C_BadValue, C_CameIn, C_NotCome⟩ C_HandError := ⟨(PySem.W.mg_of X G a_BadMany), (PySem.W.mg_of X G a_BadHand), (PySem.W.mg_of X G a_BadValue), (PySem.W.mg_of X G a_CameIn), (PySem.W.mg_of X G a_NotCome), kit5 EX, EC, EF, EV, EH⟩
  have G_law_word : Fd l.prog w K mg base CX0 "_law_word" 1 ["error"] (spWord ⟨C_BadMany, C_BadHand, C_BadValue, C_CameIn, C_NotCome⟩) := ⟨_, _, (PySem.W.mg_of X G a_law_word), k_law_word, b_law_word, ok_law_word F_law_word LT (PySem.W.mg_none_of X G z_isinstance) hErrs⟩
  have G_law_is_refused : FdG l.prog w K mg base CX0 "_law_is_refused" 19 ["call", "word", "value"] (spRefused l.prog w K mg base ⟨C_BadMany, C_BadHand, C_BadValue, C_CameIn, C_NotCome⟩) := ⟨_, _, (PySem.W.mg_of X G a_law_is_refused), k_law_is_refused, b_law_is_refused, ok_law_is_refused F_law_is_refused LT hErrs G_law_caught G_law_word⟩
  have G_law_nested := all_nested F_law_nested b_law_nested (PySem.W.mg_of X G a_law_nested) (P := l.prog) (w := w) (base := base)
  have G_law_door_next : Fd l.prog w K mg base CX0 "_law_door_next" 1 ["door", "player"] spONext := ⟨_, _, (PySem.W.mg_of X G a_law_door_next), k_law_door_next, b_law_door_next, ok_law_door_next F_law_door_next⟩
  have G_law_is_door : FdG l.prog w K mg base CX0 "_law_is_door" 6 ["door", "own"] (spIsDoor C) := ⟨_, _, (PySem.W.mg_of X G a_law_is_door), k_law_is_door, b_law_is_door, ok_law_is_door F_law_is_door LT hC G_law_door_next M_next M_len⟩
  have G_law_right : FdG l.prog w K mg base CX0 "_law_right" 20 ["pot"] (spRightT PR) := ⟨_, _, (PySem.W.mg_of X G a_law_right), k_law_right, b_law_right, ok_law_right (e := ⟨C_BadMany, C_BadHand, C_BadValue, C_CameIn, C_NotCome⟩) F_law_right a_law_right hTab (hTB (cR, PR) (List.mem_singleton.mpr rfl)) LT hC G_law_take G_law_of G_law_drawn_deed G_law_door G_law_door_come G_law_door_step G_law_nested G_law_is_refused G_law_is_door M_Door X_Door M_step M_come M_next X_come V_come C_come F_come X_step N_step X_next⟩
  exact ok_law F_law LT G_law_cells G_law_pot G_law_right
theorem walk {l : PySem.W.OpenLaw} {q : Program} {loose : List Str} {XP : (Str → Option Value) → Heap → Prop} {YP : World → Heap → Prop} {d : DefRec} {K : Params → PySem.W.Frag} (hn : l.most = some 63) (hdf : d.params.defaults = []) (hrec : ((["_law_right"] : List Str).all fun y => (recsOf q).any fun e => e.name == y) = true)
    (hY : ∀ (w : World) (h : Heap), YP w h → (K w.params).In h)
    (F : ∀ (w : World) (mg : Str → Option Value) (fa : Addr) (h : Heap), (K w.params).In h → h.Ns mainGlobals mg → mg d.name = some (.ref fa) → LawAtT l w (K w.params) CX0 21 63 "script" ["_law_right"] mg fa) :
    PySem.W.WalkO q loose XP YP l.row.toRowW d [] (fun f vs => PySem.call f vs) :=
  L2.walk_ofTG (n := 63) (k := 21) (x := "script") (xs := ["_law_right"]) (CX := fun _ => CX0) hn (by decide) hdf ⟨rfl, by decide, by decide⟩ hrec hY F fun _ _ _ _ _ z => z
end Fp
open PySem PySem.W PyProof.Rows
set_option maxRecDepth 100000 in
set_option maxHeartbeats 0 in
theorem PySem.Challenge.cw_fewplaymany_k41_what_is_refused_at_doors_holds : PySem.Challenge.rw_fewplaymany_k41_what_is_refused_at_doors.Holds := by
  w_on; o_law; k_head; (case hw => w_witness2)
  k_fill
  refine Fp.walk (l := PySem.Challenge.rw_fewplaymany_k41_what_is_refused_at_doors) rfl rfl ?R (fun w h Y => PySem.W.km_in_of Y) ?F
  case R => first | rfl | decide +kernel | kernel_rfl
  case F =>
    intro w mg fa h KX G hmg
    refine' Fp.all_mk KX G hmg ?aCP ?a_is_whole ?l_is_whole ?c_is_whole ?k_is_whole ?a_is_below ?l_is_below ?c_is_below ?k_is_below ?a_exchanged ?l_exchanged ?c_exchanged ?k_exchanged ?a_is_small_value ?l_is_small_value ?c_is_small_value ?k_is_small_value ?a_is_small_within ?l_is_small_within ?c_is_small_within ?k_is_small_within ?a_law_pot ?l_law_pot ?c_law_pot ?k_law_pot ?a_law_take ?l_law_take ?c_law_take ?k_law_take ?a_law_of ?l_law_of ?c_law_of ?k_law_of ?a_law_cells ?l_law_cells ?c_law_cells ?k_law_cells ?a_law_caught ?l_law_caught ?c_law_caught ?k_law_caught ?a_law_is_refused ?l_law_is_refused ?c_law_is_refused ?k_law_is_refused ?a_law_door ?l_law_door ?c_law_door ?k_law_door ?a_law_door_next ?l_law_door_next ?c_law_door_next ?k_law_door_next ?a_law_door_come ?l_law_door_come ?c_law_door_come ?k_law_door_come ?a_law_door_step ?l_law_door_step ?c_law_door_step ?k_law_door_step ?a_law_drawn_value ?l_law_drawn_value ?c_law_drawn_value ?k_law_drawn_value ?a_law_is_door ?l_law_is_door ?c_law_is_door ?k_law_is_door ?a_law_drawn_deed ?l_law_drawn_deed ?c_law_drawn_deed ?k_law_drawn_deed ?a_law_word ?l_law_word ?c_law_word ?k_law_word ?a_law_nested ?l_law_nested ?c_law_nested ?k_law_nested ?a_law_right ?l_law_right ?c_law_right ?k_law_right ?a_law ?l_law ?c_law ?k_law ?a_Door_init ?l_Door_init ?c_Door_init ?k_Door_init ?i_Door_init ?a_Door_len ?l_Door_len ?c_Door_len ?k_Door_len ?i_Door_len ?a_Door_come ?l_Door_come ?c_Door_come ?k_Door_come ?i_Door_come ?a_Door_step ?l_Door_step ?c_Door_step ?k_Door_step ?i_Door_step ?a_Door_next ?l_Door_next ?c_Door_next ?k_Door_next ?i_Door_next ?a_Door_check_player ?l_Door_check_player ?c_Door_check_player ?k_Door_check_player ?i_Door_check_player ?a_Door_shows_level ?l_Door_shows_level ?c_Door_shows_level ?k_Door_shows_level ?i_Door_shows_level ?a_Door_asks ?l_Door_asks ?c_Door_asks ?k_Door_asks ?i_Door_asks ?pgC ?hdC ?poC ?saC ?mkC ?kpC ?np_many ?np_came ?np_levels ?np_heard ?np_seen ?np_deeds ?z_isinstance ?z_int ?z_bool ?z_tuple ?z_all ?z_len ?z_enumerate ?z_sum ?z_abs ?z_list ?z_range ?z_max ?z_min ?z_repr ?v_MOST_PLAYERS ?v_MOST_DEEP ?v_MOST_ENTRIES ?v_MOST_INTEGER ?a_HandError ?eC_HandError ?tC_HandError ?a_BadMany ?x_BadMany ?rv_BadMany ?sa_BadMany ?ga_BadMany ?gg_BadMany ?nv_BadMany ?in_BadMany ?cc_BadMany ?kC_BadMany ?eC_BadMany ?tC_BadMany ?hC_BadMany ?mr_BadMany ?a_BadHand ?x_BadHand ?rv_BadHand ?sa_BadHand ?ga_BadHand ?gg_BadHand ?nv_BadHand ?in_BadHand ?cc_BadHand ?kC_BadHand ?eC_BadHand ?tC_BadHand ?hC_BadHand ?mr_BadHand ?a_BadValue ?x_BadValue ?rv_BadValue ?sa_BadValue ?ga_BadValue ?gg_BadValue ?nv_BadValue ?in_BadValue ?cc_BadValue ?kC_BadValue ?eC_BadValue ?tC_BadValue ?hC_BadValue ?mr_BadValue ?a_CameIn ?x_CameIn ?rv_CameIn ?sa_CameIn ?ga_CameIn ?gg_CameIn ?nv_CameIn ?in_CameIn ?cc_CameIn ?kC_CameIn ?eC_CameIn ?tC_CameIn ?hC_CameIn ?mr_CameIn ?a_NotCome ?x_NotCome ?rv_NotCome ?sa_NotCome ?ga_NotCome ?gg_NotCome ?nv_NotCome ?in_NotCome ?cc_NotCome ?kC_NotCome ?eC_NotCome ?tC_NotCome ?hC_NotCome ?mr_NotCome ?l_HandError_init ?c_HandError_init ?k_HandError_init ?ti_HandError_init ?hn ?htk ?eh_0 ?e_0_0 ?e_0_1 ?e_0_2 ?e_0_3 ?e_0_4 ?eh_1 ?e_1_0 ?e_1_1 ?e_1_2 ?e_1_3 ?e_1_4 ?eh_2 ?e_2_0 ?e_2_1 ?e_2_2 ?e_2_3 ?e_2_4 ?eh_3 ?e_3_0 ?e_3_1 ?e_3_2 ?e_3_3 ?e_3_4 ?eh_4 ?e_4_0 ?e_4_1 ?e_4_2 ?e_4_3 ?e_4_4 ?hcd ?hco ?h11 ?nT
    (case aCP => k_is)
    (case a_is_whole => k_is)
    (case l_is_whole => k_is)
    (case c_is_whole => k_is)
    (case k_is_whole => k_is)
    (case a_is_below => k_is)
    (case l_is_below => k_is)
    (case c_is_below => k_is)
    (case k_is_below => k_is)
    (case a_exchanged => k_is)
    (case l_exchanged => k_is)
    (case c_exchanged => k_is)
    (case k_exchanged => k_is)
    (case a_is_small_value => k_is)
    (case l_is_small_value => k_is)
    (case c_is_small_value => k_is)
    (case k_is_small_value => k_is)
    (case a_is_small_within => k_is)
    (case l_is_small_within => k_is)
    (case c_is_small_within => k_is)
    (case k_is_small_within => k_is)
    (case a_law_pot => k_is)
    (case l_law_pot => k_is)
    (case c_law_pot => k_is)
    (case k_law_pot => k_is)
    (case a_law_take => k_is)
    (case l_law_take => k_is)
    (case c_law_take => k_is)
    (case k_law_take => k_is)
    (case a_law_of => k_is)
    (case l_law_of => k_is)
    (case c_law_of => k_is)
    (case k_law_of => k_is)
    (case a_law_cells => k_is)
    (case l_law_cells => k_is)
    (case c_law_cells => k_is)
    (case k_law_cells => k_is)
    (case a_law_caught => k_is)
    (case l_law_caught => k_is)
    (case c_law_caught => k_is)
    (case k_law_caught => k_is)
    (case a_law_is_refused => k_is)
    (case l_law_is_refused => k_is)
    (case c_law_is_refused => k_is)
    (case k_law_is_refused => k_is)
    (case a_law_door => k_is)
    (case l_law_door => k_is)
    (case c_law_door => k_is)
    (case k_law_door => k_is)
    (case a_law_door_next => k_is)
    (case l_law_door_next => k_is)
    (case c_law_door_next => k_is)
    (case k_law_door_next => k_is)
    (case a_law_door_come => k_is)
    (case l_law_door_come => k_is)
    (case c_law_door_come => k_is)
    (case k_law_door_come => k_is)
    (case a_law_door_step => k_is)
    (case l_law_door_step => k_is)
    (case c_law_door_step => k_is)
    (case k_law_door_step => k_is)
    (case a_law_drawn_value => k_is)
    (case l_law_drawn_value => k_is)
    (case c_law_drawn_value => k_is)
    (case k_law_drawn_value => k_is)
    (case a_law_is_door => k_is)
    (case l_law_is_door => k_is)
    (case c_law_is_door => k_is)
    (case k_law_is_door => k_is)
    (case a_law_drawn_deed => k_is)
    (case l_law_drawn_deed => k_is)
    (case c_law_drawn_deed => k_is)
    (case k_law_drawn_deed => k_is)
    (case a_law_word => k_is)
    (case l_law_word => k_is)
    (case c_law_word => k_is)
    (case k_law_word => k_is)
    (case a_law_nested => k_is)
    (case l_law_nested => k_is)
    (case c_law_nested => k_is)
    (case k_law_nested => k_is)
    (case a_law_right => k_is)
    (case l_law_right => k_is)
    (case c_law_right => k_is)
    (case k_law_right => k_is)
    (case a_law => k_is)
    (case l_law => k_is)
    (case c_law => k_is)
    (case k_law => k_is)
    (case a_Door_init => k_is)
    (case l_Door_init => k_is)
    (case c_Door_init => k_is)
    (case k_Door_init => k_is)
    (case i_Door_init => k_is)
    (case a_Door_len => k_is)
    (case l_Door_len => k_is)
    (case c_Door_len => k_is)
    (case k_Door_len => k_is)
    (case i_Door_len => k_is)
    (case a_Door_come => k_is)
    (case l_Door_come => k_is)
    (case c_Door_come => k_is)
    (case k_Door_come => k_is)
    (case i_Door_come => k_is)
    (case a_Door_step => k_is)
    (case l_Door_step => k_is)
    (case c_Door_step => k_is)
    (case k_Door_step => k_is)
    (case i_Door_step => k_is)
    (case a_Door_next => k_is)
    (case l_Door_next => k_is)
    (case c_Door_next => k_is)
    (case k_Door_next => k_is)
    (case i_Door_next => k_is)
    (case a_Door_check_player => k_is)
    (case l_Door_check_player => k_is)
    (case c_Door_check_player => k_is)
    (case k_Door_check_player => k_is)
    (case i_Door_check_player => k_is)
    (case a_Door_shows_level => k_is)
    (case l_Door_shows_level => k_is)
    (case c_Door_shows_level => k_is)
    (case k_Door_shows_level => k_is)
    (case i_Door_shows_level => k_is)
    (case a_Door_asks => k_is)
    (case l_Door_asks => k_is)
    (case c_Door_asks => k_is)
    (case k_Door_asks => k_is)
    (case i_Door_asks => k_is)
    (case pgC => k_is)
    (case hdC => k_is)
    (case poC => k_is)
    (case saC => k_is)
    (case mkC => k_is)
    (case kpC => k_is)
    (case np_many => k_is)
    (case np_came => k_is)
    (case np_levels => k_is)
    (case np_heard => k_is)
    (case np_seen => k_is)
    (case np_deeds => k_is)
    (case z_isinstance => k_is)
    (case z_int => k_is)
    (case z_bool => k_is)
    (case z_tuple => k_is)
    (case z_all => k_is)
    (case z_len => k_is)
    (case z_enumerate => k_is)
    (case z_sum => k_is)
    (case z_abs => k_is)
    (case z_list => k_is)
    (case z_range => k_is)
    (case z_max => k_is)
    (case z_min => k_is)
    (case z_repr => k_is)
    (case v_MOST_PLAYERS => k_is)
    (case v_MOST_DEEP => k_is)
    (case v_MOST_ENTRIES => k_is)
    (case v_MOST_INTEGER => k_is)
    (case a_HandError => k_is)
    (case eC_HandError => k_is)
    (case tC_HandError => k_is)
    (case a_BadMany => k_is)
    (case x_BadMany => k_is)
    (case rv_BadMany => first | rfl | decide +kernel | kernel_rfl)
    (case sa_BadMany => k_is)
    (case ga_BadMany => k_is)
    (case gg_BadMany => k_is)
    (case nv_BadMany => k_is)
    (case in_BadMany => k_is)
    (case cc_BadMany => k_is)
    (case kC_BadMany => k_is)
    (case eC_BadMany => k_is)
    (case tC_BadMany => k_is)
    (case hC_BadMany => k_is)
    (case mr_BadMany => k_is)
    (case a_BadHand => k_is)
    (case x_BadHand => k_is)
    (case rv_BadHand => first | rfl | decide +kernel | kernel_rfl)
    (case sa_BadHand => k_is)
    (case ga_BadHand => k_is)
    (case gg_BadHand => k_is)
    (case nv_BadHand => k_is)
    (case in_BadHand => k_is)
    (case cc_BadHand => k_is)
    (case kC_BadHand => k_is)
    (case eC_BadHand => k_is)
    (case tC_BadHand => k_is)
    (case hC_BadHand => k_is)
    (case mr_BadHand => k_is)
    (case a_BadValue => k_is)
    (case x_BadValue => k_is)
    (case rv_BadValue => first | rfl | decide +kernel | kernel_rfl)
    (case sa_BadValue => k_is)
    (case ga_BadValue => k_is)
    (case gg_BadValue => k_is)
    (case nv_BadValue => k_is)
    (case in_BadValue => k_is)
    (case cc_BadValue => k_is)
    (case kC_BadValue => k_is)
    (case eC_BadValue => k_is)
    (case tC_BadValue => k_is)
    (case hC_BadValue => k_is)
    (case mr_BadValue => k_is)
    (case a_CameIn => k_is)
    (case x_CameIn => k_is)
    (case rv_CameIn => first | rfl | decide +kernel | kernel_rfl)
    (case sa_CameIn => k_is)
    (case ga_CameIn => k_is)
    (case gg_CameIn => k_is)
    (case nv_CameIn => k_is)
    (case in_CameIn => k_is)
    (case cc_CameIn => k_is)
    (case kC_CameIn => k_is)
    (case eC_CameIn => k_is)
    (case tC_CameIn => k_is)
    (case hC_CameIn => k_is)
    (case mr_CameIn => k_is)
    (case a_NotCome => k_is)
    (case x_NotCome => k_is)
    (case rv_NotCome => first | rfl | decide +kernel | kernel_rfl)
    (case sa_NotCome => k_is)
    (case ga_NotCome => k_is)
    (case gg_NotCome => k_is)
    (case nv_NotCome => k_is)
    (case in_NotCome => k_is)
    (case cc_NotCome => k_is)
    (case kC_NotCome => k_is)
    (case eC_NotCome => k_is)
    (case tC_NotCome => k_is)
    (case hC_NotCome => k_is)
    (case mr_NotCome => k_is)
    (case l_HandError_init => k_is)
    (case c_HandError_init => k_is)
    (case k_HandError_init => k_is)
    (case ti_HandError_init => k_is)
    (case hn => k_is)
    (case htk => k_is)
    (case eh_0 => kts_exm)
    (case e_0_0 => kts_exm)
    (case e_0_1 => kts_exm)
    (case e_0_2 => kts_exm)
    (case e_0_3 => kts_exm)
    (case e_0_4 => kts_exm)
    (case eh_1 => kts_exm)
    (case e_1_0 => kts_exm)
    (case e_1_1 => kts_exm)
    (case e_1_2 => kts_exm)
    (case e_1_3 => kts_exm)
    (case e_1_4 => kts_exm)
    (case eh_2 => kts_exm)
    (case e_2_0 => kts_exm)
    (case e_2_1 => kts_exm)
    (case e_2_2 => kts_exm)
    (case e_2_3 => kts_exm)
    (case e_2_4 => kts_exm)
    (case eh_3 => kts_exm)
    (case e_3_0 => kts_exm)
    (case e_3_1 => kts_exm)
    (case e_3_2 => kts_exm)
    (case e_3_3 => kts_exm)
    (case e_3_4 => kts_exm)
    (case eh_4 => kts_exm)
    (case e_4_0 => kts_exm)
    (case e_4_1 => kts_exm)
    (case e_4_2 => kts_exm)
    (case e_4_3 => kts_exm)
    (case e_4_4 => kts_exm)
    (case hcd => exact rfl)
    (case hco => k_is)
    (case h11 => exact rfl)
    (case nT => kernel_rfl)
