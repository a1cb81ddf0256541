import PyProof.Rows.All
import Wide.All
import OpenK.AllK
import Wide.FinOn
import HandS.ForMost
import HandS.Wide
import HandS.IsInst
import HandS.Style
import HandS.SortInts
import HandS.NoneIn
import HandS.TupAny
import HandS.Conv
import HandS.Strs
import KE.GoesEnum
import KE.GoesMore
import PySem.Challenge.RW_flagfloors_k04_numbered_anew
set_option Elab.async false
set_option linter.all false
set_option maxRecDepth 100000
set_option maxHeartbeats 4000000
set_option exponentiation.threshold 3000
namespace Toy
open PySem PySem.Spec PyProof.Rows L2
/-- a tuple whose very object is known: it has no dict of its own -/
def Bare (H : Hp) (p : Addr) (ys : List V) : Prop := ∃ o : Obj, H p = some (.frz o (.tup ys)) ∧ o.cls = .type "tuple" ∧ o.dict = none
theorem Bare.sq {K : PySem.W.Frag} {H : Hp} {p : Addr} {ys : List V} (h : Bare H p ys) : SqT K H p ys := by
  obtain ⟨o, e, _⟩ := h
  exact .inl (.inr ⟨o, e⟩)
theorem Bare.same {H H' : Hp} {p : Addr} {ys : List V} (s : Same H H') (h : Bare H p ys) : Bare H' p ys := by
  obtain ⟨o, e, r⟩ := h
  exact ⟨o, s _ _ e, r⟩
def rTupBare (K : PySem.W.Frag) : List V → Hp → VK → Prop := fun xs H Q =>
  ∃ p ys, xs = [V.ref p] ∧ SqL K H p ys ∧ ∀ l H1, H l = none → Same H H1 → Bare H1 l ys → Q (.ref l) H1
/-- tuple(a list): the new object is known -/
theorem call_tuple_bare {X : Cx} : CallR X (.type "tuple") (rTupBare X.K) := by
  intro pins s σ H xs us Q I r ⟨p, ys, e, hq, q⟩
  subst e
  obtain ⟨u, e, rx⟩ := vals1 r
  subst e
  cases rx
  obtain ⟨its, rv, pl, hz⟩ := I.list hq
  have hn : its.length = ys.length := (rv.length).symm
  refine call_tuple_list pl.isList (fun g kp => ?_) (by rw [List.size_toArray, hn]; exact hz)
  have I1 : Inv X pins σ H { s with heap := g } := I.kept kp (t' := s.toks)
  have nw : H g.objs.size = none := I1.hok.fresh (Nat.le_refl _)
  let o : Obj := { cls := .type "tuple", data := .seq its.toArray }
  have I2 := I1.laid (o := .frz o (.tup ys)) (h' := g.push o) (t' := s.toks) (fun _ _ e => Heap.get?_push_of_some _ e)
    (Nat.le_refl _) ⟨Heap.get?_push_size _ rfl, hz, its, rv, IsTup.new _ _⟩
  refine ⟨.ref g.objs.size, _, I2, rfl, q _ _ nw ?_ ⟨o, upd_same, rfl, rfl⟩⟩
  intro b v e
  rw [upd_ne (ne_of_none e nw)]
  exact e
def tBMf (r : V → List V → Hp → VK → Prop) (to : TE) (t : TA) : TE := fun σ H Q =>
  to σ H fun x H1 => (∃ p ys, x = .ref p ∧ Bare H1 p ys) ∧ t σ H1 fun xs H2 => r x xs H2 Q
/-- t.m(e), t such a tuple -/
theorem pe_bmf {X : Cx} {ob e : Expr} {to : TE} {t : TA} {name : Str} {ap cp : Pos} {id : String} {r : V → List V → Hp → VK → Prop}
    (sl : Slot "tuple" name id) (hty : typeOf (.builtin id) = pure (.type "method_descriptor")) (hm : MtR X id r) (ho : PE X ob to) (ha : PA X [e] t)
    (h1 : attributeBase ob name X.env (eval ob X.env) = eval ob X.env := by rfl)
    (h2 : ((backTo cp (starEach [e] X.env)).all (fun x => !x.1) && (backToKw cp (keywordEach [] X.env)).all (fun x => x.1.isSome) && decide ([e].length + ([] : List Keyword).length + (if ([] : List Keyword).isEmpty then 0 else 1) < 30)) = true := by rfl)
    (h3 : (ap.endLine == cp.line) = true := by rfl) (h4 : starEach [e] X.env = [(false, eval e X.env)] := by rfl) :
    PE X (.Call (.Attribute ob name ap) [e] [] cp) (tBMf r to t) := by
  constructor
  intro pins s σ H Q I h
  refine wpAny_Call_method_late h1 h2 h3 rfl (thn (ho.run pins s σ H _ I h) ?_)
  rintro v s1 ⟨x, H1, I1, rx, ⟨p, ys, ex, o, eo, ec, ed⟩, q⟩
  subst ex
  cases rx
  have go : s1.heap.get? p = some o := (I1.hok p _ eo).1
  refine ⟨"tuple", id, PySem.F.plainAttrs_tuple, sl, hty, ⟨o, go, ec⟩, fun a ea => ?_, ?_⟩
  · cases ea
    exact ⟨o, go, ed⟩
  have hA := ha.run cp pins s1 σ H1 _ I1 q
  rw [h4] at hA ⊢
  refine Calls.callWith_builtin rfl (Calls.evalArgs_plain (thn hA ?_))
  rintro us s2 ⟨vs, H2, I2, r2, q2⟩
  exact hm pins s2 σ H2 (.ref p) vs (.ref p) us Q I2 rfl r2 q2
end Toy

namespace Toy
open PySem PySem.Spec PyProof.Rows L2
theorem meets_enum1 {v : Value} {o : Obj} {H : Heap → Prop} (B : Begins v o H) :
    Meets (Builtin.«enumerate.__new__» ⟨[.type "enumerate", v], []⟩) (fun _ R s => H s.heap ∧
      R (.ok (.ret (.ref (s.heap.push o).objs.size))) { s with heap := (s.heap.push o).push { cls := .type "enumerate", data := .fields #[.none, .bool false, .ref s.heap.objs.size, rawInt 0, .none, .none] } }) :=
  .of_wp fun prog w A R s h => by
    obtain ⟨hp, g, d, tk, os⟩ := s
    obtain ⟨h1, h⟩ := h
    have hsub := sub_enumerate
    have q1 : ∀ {A' : Around} {E : Value → Shared → Prop} {Q : Value → Shared → Prop}, Q (.ref hp.objs.size) ⟨hp.push o, g, d, tk, os⟩ → wpAny (model prog w) A' (pyIter v) Q E ⟨hp, g, d, tk, os⟩ :=
      fun q => B.iter prog w _ _ ⟨hp, g, d, tk, os⟩ _ h1 q
    wp_walk using q1
    refine wpAny_stack_any fun st => wpAny_pure ?_
    split
    · rename_i c _ _ _ _ _
      cases (c == Value.type "enumerate")
      · wp_walk using q1
        exact ⟨_, rfl, h⟩
      · wp_walk using q1
        exact ⟨_, rfl, h⟩
    · wp_walk using q1
      exact ⟨_, rfl, h⟩
theorem call_enum1 {prog : Program} {w : World} {A : Around} {E : Value → Shared → Prop} {s : Shared} {v : Value} {o : Obj} {H : Heap → Prop} {Q : Value → Shared → Prop} (B : Begins v o H) (h1 : H s.heap)
    (h : ∀ h', IsEnum h' (s.heap.objs.size + 1) s.heap.objs.size 0 .none → h'.get? s.heap.objs.size = some o → h'.objs.size = s.heap.objs.size + 2 →
      (∀ b o, s.heap.get? b = some o → h'.get? b = some o) → Q (.ref (s.heap.objs.size + 1)) { s with heap := h' }) :
    wpAny (model prog w) A (call (.type "enumerate") [v]) Q E s := by
  refine callType_new F.called_enumerate (by decide) (F.typeCall_enumerate_1 _) (F.newCall_enumerate_1 _) (fun obj => F.args_object_init_2 obj _) F.entry_enumerate_new (meets_enum1 B) ⟨h1, ?_⟩
  have hz : (s.heap.push o).objs.size = s.heap.objs.size + 1 := Heap.size_push ..
  show _ ∧ _
  rw [hz]
  have he : IsEnum ((s.heap.push o).push { cls := .type "enumerate", data := .fields #[.none, .bool false, .ref s.heap.objs.size, rawInt 0, .none, .none] }) (s.heap.objs.size + 1) s.heap.objs.size 0 .none := by
    have := Heap.get?_push_size (s.heap.push o) (o := { cls := .type "enumerate", data := .fields #[.none, .bool false, .ref s.heap.objs.size, rawInt 0, .none, .none] }) rfl
    rw [hz] at this
    exact this
  refine ⟨⟨_, he, rfl⟩, h _ he (Heap.get?_push_of_some _ (Heap.get?_push_size _ B.free)) (by rw [Heap.size_push, hz]) fun b o x => Heap.get?_push_of_some _ (Heap.get?_push_of_some _ x)⟩
/-- the tuple at a, each item in a new pair -/
def IteT (K : PySem.W.Frag) (a : Addr) : It :=
  ⟨fun i H => ∃ (xs : List V) (x : V), SqT K H a xs ∧ xs[i]? = some x, fun i H v H' => ∃ T x, v = .ref T ∧ H T = none ∧ H' = upd H T (.tup [.int (i : Nat), x]) ∧ ∀ xs, SqT K H a xs → xs[i]? = some x, fun i H => ∃ xs : List V, SqT K H a xs ∧ xs.length ≤ i⟩
theorem tup_end {prog : Program} {w : World} {A : Around} (hh : A.handled = none) (it a : Addr) (items : Array Value) (i : Nat) (hi : items[i]? = none) (hne : a ≠ it) :
    Draws prog w A it [it, a] i (fun _ _ => True) (fun j h => j = i ∧ h.IsTupleIter it a i ∧ h.IsTuple a items) where
  live := fun _ _ st => let ⟨o, ho, _⟩ := st.2.1; ⟨o, ho⟩
  frame := fun _ _ _ st hk => ⟨st.1, st.2.1.at fun o e => hk it (by simp) o e, st.2.2.at fun o e => hk a (by simp) o e⟩
  item := fun j s Q E hj st hQ => absurd hj (by rw [st.1]; exact Nat.lt_irrefl _)
  done := fun s Q E st hE => wpAny_nextOf_tuple_end hh st.2.1 st.2.2 hi hE
theorem turn_enumT {P : Program} {w : World} {K : PySem.W.Frag} {elts : List Expr} {kk : Nat} {tpos : Pos} (a e it : Addr) :
    Turn P w K (.Tuple elts kk tpos) (IteT K a) [e, it] e (fun i h => (∃ old, IsEnum h e it ((i : Nat) : Int) old) ∧ h.IsTupleIter it a i ∧ e ≠ it) where
  mem := by simp
  obj := fun i h st b hb => by
    obtain ⟨⟨old, he⟩, ⟨o, ho, hc, hd⟩, _⟩ := st
    have e' : b = e ∨ b = it := by simpa using hb
    rcases e' with z | z
    · rw [z]; exact ⟨_, he, fun v q => nomatch q⟩
    · rw [z]; exact ⟨o, ho, fun v q => by rw [hd] at q; cases q⟩
  keep := fun i h h' st k => let ⟨⟨old, he⟩, hi, hne⟩ := st; ⟨⟨old, k e (by simp) _ he⟩, hi.at fun o q => k it (by simp) o q, hne⟩
  item := by
    intro X hP hw hK hc i pins s σ H E I hf st hg
    subst hP hw hK
    obtain ⟨⟨old, he⟩, hit, hne⟩ := st
    obtain ⟨xs, x, hq, hx⟩ := hg
    obtain ⟨its, rv, p, hz⟩ := I.tuple hq
    obtain ⟨u, hu, ru⟩ := rv.get hx
    have pt : s.heap.IsTuple a its.toArray := p
    have hel : e < s.heap.objs.size := Heap.lt_size he
    have hil : it < s.heap.objs.size := by obtain ⟨_, q, _⟩ := hit; exact Heap.lt_size q
    have ai : a ≠ it := by
      intro q
      obtain ⟨o, q1, q2, q3⟩ := hit
      obtain ⟨o', p1, p2, p3⟩ := pt
      rw [q, q1] at p1
      cases p1
      rw [q2] at p2
      exact absurd p2 (by decide)
    have ea : e ≠ a := by
      intro q
      obtain ⟨o', p1, p2, p3⟩ := pt
      rw [← q] at p1
      have := he.symm.trans p1
      cases this
      exact absurd (show Value.type "enumerate" = Value.type "tuple" from p2) (by decide)
    have hil2 : i < its.toArray.size := by
      have := (List.getElem?_eq_some_iff.mp hu).1
      simpa using this
    refine wpAny_pyNext_enum_itemD (Draws.tuple (A := X.A.in1) (I.ok.hd hc) it a ai its.toArray) he ⟨hit, pt⟩ hil2 hne (by simp [hne, ea]) fun x' h' tk hP ho st' hT hsz hk => ?_
    have ex : x' = u := by
      have h1 : its.toArray[i]? = some x' := hP
      have h2 : its.toArray[i]? = some u := by simpa using hu
      rw [h1] at h2
      exact Option.some.inj h2
    subst ex
    refine ⟨_, rfl, wpAny_letOwnedTupleGo_enum (s := { s with heap := h', toks := tk + 1 }) ho fun h'' he' sb => ?_⟩
    have hT2 : h''.get? s.heap.objs.size = some { cls := .type "tuple", data := .seq #[.int i tk, x'] } := (sb.2 _ (Nat.ne_of_gt hel)).trans hT
    have new : ObjOk X.prog X.w (upd H s.heap.objs.size (.tup [.int (i : Nat), x])) h'' s.heap.objs.size (.tup [.int (i : Nat), x]) :=
      ⟨by show 2 ≤ sizeLine; decide, [.int i tk, x'], .cons ⟨_, rfl⟩ (.cons ru .nil), ⟨_, hT2, rfl, _, rfl⟩⟩
    have I1 : Inv X pins σ (upd H s.heap.objs.size (.tup [.int (i : Nat), x])) { s with heap := h'', toks := tk + 1 } :=
      I.turnedNew (t' := tk + 1) (ch := [e, it]) (fun b ob hb q => (sb.2 b (fun z => hb (by simp [z]))).trans (hk b ob (fun z => hb (by simp [z])) (fun z => hb (by simp [z])) q)) hf (Nat.le_refl _) new
    refine ⟨.ref s.heap.objs.size, _, I1, rfl, ⟨_, x, rfl, I.hok.fresh (Nat.le_refl _), rfl, fun ys hy => by rw [I.tuple_inj hy hq]; exact hx⟩, ⟨⟨x', ?_⟩, st'.1.at fun o q => (sb.2 it (Ne.symm hne)).trans q, hne⟩, fun b hb => ?_⟩
    · have e1 : ((i + 1 : Nat) : Int) = (i : Int) + 1 := by omega
      rw [e1]; exact he'
    · have hb' : b < s.heap.objs.size := by
        have e' : b = e ∨ b = it := by simpa using hb
        rcases e' with z | z
        · rw [z]; exact hel
        · rw [z]; exact hil
      rw [upd_ne (Nat.ne_of_lt hb')]
      exact (hf b hb).1
  done := by
    intro X hP hw hK hc i pins s σ H E I hf st hg
    subst hP hw hK
    obtain ⟨⟨old, he⟩, hit, hne⟩ := st
    obtain ⟨xs, hq, hx⟩ := hg
    obtain ⟨its, rv, p, hz⟩ := I.tuple hq
    obtain ⟨f0, f1, f2, f3, f4, f5⟩ := hf it (by simp)
    have hl := rv.length
    have pt : s.heap.IsTuple a its.toArray := p
    have ai : a ≠ it := by
      intro q
      obtain ⟨o, q1, q2, q3⟩ := hit
      obtain ⟨o', p1, p2, p3⟩ := pt
      rw [q, q1] at p1
      cases p1
      rw [q2] at p2
      exact absurd p2 (by decide)
    exact wpAny_pyNext_enum_endD (tup_end (A := X.A.in1) (I.ok.hd hc) it a its.toArray i (by simp; omega) ai) he ⟨rfl, hit, pt⟩ fun h' eb => ⟨rfl, I.turned (t' := s.toks) (fun b o hb q => eb b o hb q) f0 f1 f3 f4 f5⟩
  self := fun A i s Q E st h => let ⟨⟨_, he⟩, _⟩ := st; wpAny_pyIter_enum he h
def iEnumT (K : PySem.W.Frag) (ta : TA) : TI := fun σ H R => ta σ H fun vs H1 => ∃ a xs, vs = [.ref a] ∧ SqT K H1 a xs ∧ R (IteT K a) H1
theorem pi_enumT {X : Cx} {e : Expr} {ta : TA} {p pos tpos : Pos} {elts : List Expr} {kk : Nat} (hg : Gl X "enumerate") (hm : X.mg "enumerate" = none) (ha : PA X [e] ta) (hs : starEach [e] X.env = [(false, eval e X.env)] := by rfl) :
    PI X (.Tuple elts kk tpos) (.Call (.Name "enumerate" p) [e] [] pos) (iEnumT X.K ta) := by
  refine ⟨fun pins s σ H R I h => ?_⟩
  refine Call_ (ld_blt I hg hm boot_enumerate (PyProof.Rows.callWith_type1 (thn (ha.run pos pins s σ H _ I h) fun us s1 ⟨vs, H1, I1, r1, q1⟩ => ?_) hs rfl))
  obtain ⟨a, xs, ex, hq, q⟩ := q1
  subst ex
  cases r1 with
  | cons r rr =>
    cases rr
    cases r
    obtain ⟨its, rv, p', hz⟩ := I1.tuple hq
    have pt : s1.heap.IsTuple a its.toArray := p'
    refine call_enum1 (begins_tuple a its.toArray) pt fun h' he hit hsz hk => wpAny_pyIter_enum he ?_
    have I2 : Inv X pins σ H1 { s1 with heap := h' } := I1.kept (t' := s1.toks) hk
    refine ⟨s1.heap.objs.size + 1, [s1.heap.objs.size + 1, s1.heap.objs.size], _, _, H1, rfl, I2, turn_enumT a (s1.heap.objs.size + 1) s1.heap.objs.size, ⟨⟨.none, he⟩, ⟨_, hit, rfl, rfl⟩, Nat.succ_ne_self _⟩, fun b hb => ?_, q⟩
    have e' : b = s1.heap.objs.size + 1 ∨ b = s1.heap.objs.size := by simpa using hb
    have hle : s1.heap.objs.size ≤ b := by
      rcases e' with z | z
      · rw [z]; exact Nat.le_add_right _ _
      · rw [z]; exact Nat.le_refl _
    exact I1.fpOk hle (I1.hok.fresh hle)
/-- the loop over it -/
theorem for_enumT {K : PySem.W.Frag} {a : Addr} {xs : List V} {g : TG} {tb : TS} {D : Ends} {σ : L2.St} {H : Hp} (Pv : Nat → L2.St → Hp → Prop) (h0 : Pv 0 σ H) (hl : ∀ i σ H, i ≤ xs.length → Pv i σ H → SqT K H a xs)
    (hs : ∀ i x σ H T, xs[i]? = some x → Pv i σ H → H T = none → g (.ref T) σ (upd H T (.tup [.int (i : Nat), x])) fun σ2 H2 => tb { D with nx := Pv (i + 1), ct := Pv (i + 1), bk := D.nx } σ2 H2) (hd : ∀ σ H, Pv xs.length σ H → D.nx σ H) :
    ∃ W : Nat → Nat → L2.St → Hp → Prop, (∃ m, W 0 m σ H) ∧ ∀ i m σ H, W i m σ H →
      ((IteT K a).stop i H ∧ D.nx σ H) ∨ ((IteT K a).go i H ∧ ∃ N : L2.St → Hp → Prop, (∀ σ' H', N σ' H' → ∃ m', m' < m ∧ W (i + 1) m' σ' H') ∧ ∀ x H', (IteT K a).yld i H x H' → g x σ H' fun σ2 H2 => tb { D with nx := N, ct := N, bk := D.nx } σ2 H2) := by
  refine ⟨fun i m σ H => m = xs.length - i ∧ i ≤ xs.length ∧ Pv i σ H, ⟨xs.length, by simp, Nat.zero_le _, h0⟩, ?_⟩
  rintro i m σ H ⟨rfl, hi, p⟩
  have q := hl i σ H hi p
  by_cases hlt : i < xs.length
  · refine .inr ⟨⟨xs, xs[i], q, by simp [hlt]⟩, Pv (i + 1), fun σ' H' p' => ⟨xs.length - (i + 1), by omega, rfl, hlt, p'⟩, fun x H' y => ?_⟩
    obtain ⟨T, x', rfl, nT, rfl, y⟩ := y
    exact hs i x' σ H T (y xs q) p nT
  · have e : i = xs.length := by omega
    subst e
    exact .inl ⟨⟨xs, q, Nat.le_refl _⟩, hd σ H p⟩
theorem flat_ints (ys : List Int) : (ys.map V.int).all flatV = true := by
  rw [List.all_map]
  exact List.all_eq_true.mpr fun _ _ => rfl
def rTI (K : PySem.W.Frag) : V → List V → Hp → VK → Prop := fun x xs H Q => ∃ p, ∃ ys : List Int, ∃ z j, x = .ref p ∧ xs = [.int z] ∧ SqT K H p (ys.map V.int) ∧ ys[j]? = some z ∧ (∀ m, m < j → ys[m]? ≠ some z) ∧ Q (.int (j : Nat)) H
/-- t.index(k) of a tuple of ints: the first place -/
theorem mt_tup_indexI {X : Cx} : MtR X "tuple.index" (rTI X.K) := by
  intro pins s σ H x xs v us Q I rx rs h
  obtain ⟨p, ys, z, j, rfl, rfl, hq, hy, hno, q⟩ := h
  cases rx
  obtain ⟨u, rfl, t, rfl⟩ := vals1 rs
  obtain ⟨its, r, pl, hz⟩ := I.tuple hq
  obtain ⟨⟨cls, dd, dt, sl⟩, ho, hc, n, hd⟩ := pl
  simp only at hc hd
  subst hc
  subst hd
  have hl : its.toArray.size = ys.length := by rw [List.size_toArray, ← r.length, List.length_map]
  have hj : j < its.toArray.size := by rw [hl]; exact (List.getElem?_eq_some_iff.mp hy).1
  have at' : ∀ (m : Nat) (hm : m < its.toArray.size), ∃ y t', ys[m]? = some y ∧ its.toArray[m] = Value.int y t' := fun m hm => by
    have hm' : m < ys.length := by rw [← hl]; exact hm
    obtain ⟨w, hw, t', hw'⟩ := r.get (i := m) (x := .int ys[m]) (by simp [hm'])
    refine ⟨ys[m], t', List.getElem?_eq_getElem hm', ?_⟩
    have e := (List.getElem?_eq_some_iff.mp hw).2
    rw [← hw', ← e]
    simp
  refine call_meets PySem.F.slot_tuple_index ⟨_, ho, rfl⟩ PySem.F.entry_tuple_index (PySem.F.args_tuple_index_2 _ _) (TI.tuple_indexAt p its.toArray n dd sl (.int z t) (eqU (.int z)) j hj ?_ ?_)
    ⟨ho, fun w hw => mem_eqAt (x := .int z) ⟨t, rfl⟩ rfl r (flat_ints ys) w (by simpa using hw), ⟨.int (j : Nat), H, I.tok _, ⟨_, rfl⟩, q⟩⟩
  · obtain ⟨y, t', h1, h2⟩ := at' j hj
    rw [hy] at h1
    cases h1
    rw [h2]
    show (z == z) = true
    exact beq_self_eq_true z
  · intro m hm hmj
    obtain ⟨y, t', h1, h2⟩ := at' m hm
    rw [h2]
    show (y == z) = false
    exact beq_eq_false_iff_ne.mpr fun e => hno m hmj (e ▸ h1)
end Toy

namespace Toy
/-! ### lists of flags -/
def gt (xs : List Nat) (f : Nat) : Nat := xs.getD f 0
theorem gt_some {xs : List Nat} {f : Nat} (h : f < xs.length) : xs[f]? = some (gt xs f) := by
  unfold gt
  rw [List.getD_eq_getElem?_getD, List.getElem?_eq_getElem h]
  rfl
theorem gt_of {xs : List Nat} {f v : Nat} (h : xs[f]? = some v) : gt xs f = v := by
  unfold gt
  rw [List.getD_eq_getElem?_getD, h]
  rfl
theorem gt_app1 {xs ys : List Nat} {f : Nat} (h : f < xs.length) : gt (xs ++ ys) f = gt xs f := by
  apply gt_of
  rw [List.getElem?_append_left h]
  exact gt_some h
theorem gt_app2 {xs ys : List Nat} {f : Nat} (h : f < ys.length) : gt (xs ++ ys) (xs.length + f) = gt ys f := by
  apply gt_of
  rw [List.getElem?_append_right (by omega)]
  rw [show xs.length + f - xs.length = f by omega]
  exact gt_some h
theorem gt_map {xs : List Nat} {g : Nat → Nat} {f : Nat} (h : f < xs.length) : gt (xs.map g) f = g (gt xs f) := by
  apply gt_of
  rw [List.getElem?_map, gt_some h]
  rfl
theorem gt_set {xs : List Nat} {i v f : Nat} (h : f < xs.length) : gt (xs.set i v) f = if i = f then v else gt xs f := by
  apply gt_of
  rw [List.getElem?_set]
  by_cases e : i = f
  · rw [if_pos e, if_pos e, if_pos (by omega)]
  · rw [if_neg e, if_neg e]
    exact gt_some h
theorem gt_ext {xs ys : List Nat} (h : xs.length = ys.length) (e : ∀ f, f < xs.length → gt xs f = gt ys f) : xs = ys := by
  apply List.ext_getElem? 
  intro i
  by_cases hi : i < xs.length
  · rw [gt_some hi, gt_some (by omega), e i hi]
  · rw [List.getElem?_eq_none (by omega), List.getElem?_eq_none (by omega)]
/-- an exchange of the flags below n -/
structure Inv (xs : List Nat) (n : Nat) : Prop where
  len : xs.length = n
  lt : ∀ f, f < n → gt xs f < n
  inv : ∀ f, f < n → gt xs (gt xs f) = f
theorem Inv.put {xs b : List Nat} {n k : Nat} (h : Inv xs n) (hb : Inv b k) : Inv (xs ++ b.map (n + ·)) (n + k) := by
  have l1 := h.len
  have l2 := hb.len
  refine ⟨by rw [List.length_append, List.length_map, l1, l2], fun f hf => ?_, fun f hf => ?_⟩
  · by_cases q : f < n
    · rw [gt_app1 (by omega)]
      have := h.lt f q
      omega
    · have e : f = xs.length + (f - n) := by omega
      rw [e, gt_app2 (by rw [List.length_map]; omega), gt_map (by omega)]
      have := hb.lt (f - n) (by omega)
      show n + gt b (f - n) < n + k
      omega
  · by_cases q : f < n
    · have := h.lt f q
      rw [gt_app1 (f := f) (by omega), gt_app1 (by omega)]
      exact h.inv f q
    · have e : gt (xs ++ b.map (n + ·)) f = n + gt b (f - n) := by
        have e : f = xs.length + (f - n) := by omega
        rw [e, gt_app2 (by rw [List.length_map]; omega), gt_map (by omega)]
        rw [show xs.length + (f - n) - n = f - n by omega]
      have := hb.lt (f - n) (by omega)
      rw [e]
      have e2 : n + gt b (f - n) = xs.length + gt b (f - n) := by omega
      rw [e2, gt_app2 (by rw [List.length_map]; omega), gt_map (by omega), hb.inv (f - n) (by omega)]
      show n + (f - n) = f
      omega
theorem Inv.swap {xs : List Nat} {n a b : Nat} (h : Inv xs n) (ha : a < n) (hb : b < n) (ab : a ≠ b) (ea : gt xs a = a) (eb : gt xs b = b) : Inv ((xs.set a b).set b a) n := by
  have l1 := h.len
  have g : ∀ f, f < n → gt ((xs.set a b).set b a) f = if b = f then a else if a = f then b else gt xs f := fun f hf => by
    rw [gt_set (by rw [List.length_set]; omega), gt_set (by omega)]
  have key : ∀ f, f < n → f ≠ a → f ≠ b → gt xs f ≠ a ∧ gt xs f ≠ b := fun f hf na nb => by
    refine ⟨fun q => na ?_, fun q => nb ?_⟩
    · have := h.inv f hf
      rw [q, ea] at this
      exact this.symm
    · have := h.inv f hf
      rw [q, eb] at this
      exact this.symm
  refine ⟨by rw [List.length_set, List.length_set, l1], fun f hf => ?_, fun f hf => ?_⟩
  · rw [g f hf]
    split
    · exact ha
    · split
      · exact hb
      · exact h.lt f hf
  · rw [g f hf]
    by_cases q1 : b = f
    · rw [if_pos q1, g a ha, if_neg (by omega), if_pos rfl]
      exact q1
    · rw [if_neg q1]
      by_cases q2 : a = f
      · rw [if_pos q2, g b hb, if_pos rfl]
        exact q2
      · rw [if_neg q2]
        obtain ⟨k1, k2⟩ := key f hf (fun q => q2 q.symm) (fun q => q1 q.symm)
        rw [g _ (h.lt f hf), if_neg (fun q => k2 q.symm), if_neg (fun q => k1 q.symm)]
        exact h.inv f hf
theorem Inv.empty : Inv [] 0 := ⟨rfl, fun _ h => absurd h (by omega), fun _ h => absurd h (by omega)⟩
/-! ### flags that are reached -/
inductive Rch (a0 a1 a2 : List Nat) : Nat → Nat → Prop where
  | here (f : Nat) : Rch a0 a1 a2 f f
  | s0 {f g : Nat} : Rch a0 a1 a2 f g → Rch a0 a1 a2 f (gt a0 g)
  | s1 {f g : Nat} : Rch a0 a1 a2 f g → Rch a0 a1 a2 f (gt a1 g)
  | s2 {f g : Nat} : Rch a0 a1 a2 f g → Rch a0 a1 a2 f (gt a2 g)
theorem Rch.trans {a0 a1 a2 : List Nat} {f g h : Nat} (x : Rch a0 a1 a2 f g) (y : Rch a0 a1 a2 g h) : Rch a0 a1 a2 f h := by
  induction y with
  | here => exact x
  | s0 _ ih => exact .s0 ih
  | s1 _ ih => exact .s1 ih
  | s2 _ ih => exact .s2 ih
/-- the three changes while they are drawn -/
structure Fr (a0 a1 a2 : List Nat) (n : Nat) : Prop where
  i0 : Inv a0 n
  i1 : Inv a1 n
  i2 : Inv a2 n
  sq : ∀ f, f < n → gt a0 (gt a2 f) = gt a2 (gt a0 f)
  re : ∀ f, f < n → Rch a0 a1 a2 0 f
theorem Rch.swap {a0 a1 a2 : List Nat} {n a b f g : Nat} (h : Fr a0 a1 a2 n) (hf : f < n) (ha : a < n) (hb : b < n) (ea : gt a1 a = a) (eb : gt a1 b = b) (x : Rch a0 a1 a2 f g) : g < n ∧ Rch a0 ((a1.set a b).set b a) a2 f g := by
  induction x with
  | here => exact ⟨hf, .here _⟩
  | s0 _ ih => exact ⟨h.i0.lt _ ih.1, .s0 ih.2⟩
  | s2 _ ih => exact ⟨h.i2.lt _ ih.1, .s2 ih.2⟩
  | @s1 g _ ih =>
    have l1 := h.i1.len
    refine ⟨h.i1.lt _ ih.1, ?_⟩
    by_cases q1 : a = g
    · have e : gt a1 g = g := by rw [← q1]; exact ea
      rw [e]
      exact ih.2
    · by_cases q2 : b = g
      · have e : gt a1 g = g := by rw [← q2]; exact eb
        rw [e]
        exact ih.2
      · have e : gt ((a1.set a b).set b a) g = gt a1 g := by
          rw [gt_set (by rw [List.length_set]; omega), if_neg q2, gt_set (by omega), if_neg q1]
        rw [← e]
        exact .s1 ih.2
theorem Fr.swap {a0 a1 a2 : List Nat} {n a b : Nat} (h : Fr a0 a1 a2 n) (ha : a < n) (hb : b < n) (ab : a ≠ b) (ea : gt a1 a = a) (eb : gt a1 b = b) : Fr a0 ((a1.set a b).set b a) a2 n :=
  ⟨h.i0, h.i1.swap ha hb ab ea eb, h.i2, h.sq, fun f hf => (Rch.swap h (by omega) ha hb ea eb (h.re f hf)).2⟩
/-- a block of flags that an edge is made of -/
structure Blk (b0 b2 : List Nat) (k : Nat) : Prop where
  pos : 0 < k
  i0 : Inv b0 k
  i2 : Inv b2 k
  sq : ∀ f, f < k → gt b0 (gt b2 f) = gt b2 (gt b0 f)
  re : ∀ f, f < k → f = 0 ∨ f = gt b0 0 ∨ f = gt b2 0 ∨ f = gt b2 (gt b0 0)
theorem inv_dec {b : List Nat} {k : Nat} (l : b.length = k) (h : ∀ f, f < k → gt b f < k ∧ gt b (gt b f) = f) : Inv b k := ⟨l, fun f hf => (h f hf).1, fun f hf => (h f hf).2⟩
theorem blk_four : Blk [1, 0, 3, 2] [2, 3, 0, 1] 4 := ⟨by decide, inv_dec rfl (by decide), inv_dec rfl (by decide), by decide, by decide⟩
theorem blk_zero : Blk [1, 0] [0, 1] 2 := ⟨by decide, inv_dec rfl (by decide), inv_dec rfl (by decide), by decide, by decide⟩
theorem blk_two : Blk [0, 1] [1, 0] 2 := ⟨by decide, inv_dec rfl (by decide), inv_dec rfl (by decide), by decide, by decide⟩
theorem blk_both : Blk [1, 0] [1, 0] 2 := ⟨by decide, inv_dec rfl (by decide), inv_dec rfl (by decide), by decide, by decide⟩
theorem blk_one : Blk [0] [0] 1 := ⟨by decide, inv_dec rfl (by decide), inv_dec rfl (by decide), by decide, by decide⟩
theorem gt_range {k f : Nat} (h : f < k) : gt (List.range k) f = f := gt_of (by rw [List.getElem?_range h])
theorem inv_id (k : Nat) : Inv (List.range k) k := ⟨List.length_range, fun f h => by rw [gt_range h]; exact h, fun f h => by rw [gt_range h, gt_range h]⟩
/-- the lists behind a block -/
def ap (a b : List Nat) (n : Nat) : List Nat := a ++ b.map (n + ·)
theorem ap1 {a b : List Nat} {n f : Nat} (l : a.length = n) (h : f < n) : gt (ap a b n) f = gt a f := gt_app1 (by omega)
theorem ap2 {a b : List Nat} {n f : Nat} (l : a.length = n) (h : f < b.length) : gt (ap a b n) (n + f) = n + gt b f := by
  unfold ap
  have : n + f = a.length + f := by omega
  rw [this, gt_app2 (by rw [List.length_map]; omega), gt_map h]
theorem ap_sq {a0 a2 b0 b2 : List Nat} {n k : Nat} (h0 : Inv a0 n) (h2 : Inv a2 n) (sq : ∀ f, f < n → gt a0 (gt a2 f) = gt a2 (gt a0 f)) (B : Blk b0 b2 k) : ∀ f, f < n + k → gt (ap a0 b0 n) (gt (ap a2 b2 n) f) = gt (ap a2 b2 n) (gt (ap a0 b0 n) f) := by
  intro f hf
  by_cases q : f < n
  · have x0 := h0.lt f q
    have x2 := h2.lt f q
    rw [ap1 h2.len q, ap1 h0.len q, ap1 h0.len x2, ap1 h2.len x0]
    exact sq f q
  · obtain ⟨g, rfl⟩ : ∃ g, f = n + g := ⟨f - n, by omega⟩
    have hg : g < k := by omega
    have l0 := B.i0.len
    have l2 := B.i2.len
    have x0 := B.i0.lt g hg
    have x2 := B.i2.lt g hg
    rw [ap2 h2.len (by omega), ap2 h0.len (by omega), ap2 h0.len (by omega), ap2 h2.len (by omega), B.sq g hg]
theorem Fr.first {b0 b2 : List Nat} {k : Nat} (B : Blk b0 b2 k) : Fr (ap [] b0 0) (ap [] (List.range k) 0) (ap [] b2 0) k := by
  have e : ∀ b : List Nat, ap [] b 0 = b := fun b => by
    unfold ap
    rw [List.nil_append]
    have : (fun x => 0 + x) = (id : Nat → Nat) := by funext x; exact Nat.zero_add x
    rw [this, List.map_id]
  rw [e, e, e]
  refine ⟨B.i0, inv_id k, B.i2, B.sq, fun f hf => ?_⟩
  rcases B.re f hf with h | h | h | h
  · rw [h]; exact .here 0
  · rw [h]; exact .s0 (.here 0)
  · rw [h]; exact .s2 (.here 0)
  · rw [h]; exact .s2 (.s0 (.here 0))
theorem Fr.link {a0 a1 a2 b0 b2 : List Nat} {n k l : Nat} (h : Fr a0 a1 a2 n) (B : Blk b0 b2 k) (hl : l < n) (el : gt a1 l = l) :
    Fr (ap a0 b0 n) (((ap a1 (List.range k) n).set l n).set n l) (ap a2 b2 n) (n + k) := by
  have kp := B.pos
  have I1 : Inv (ap a1 (List.range k) n) (n + k) := h.i1.put (inv_id k)
  have en : gt (ap a1 (List.range k) n) n = n := by
    have := ap2 (a := a1) (b := List.range k) (f := 0) h.i1.len (by rw [List.length_range]; exact kp)
    rw [Nat.add_zero, gt_range kp, Nat.add_zero] at this
    exact this
  have el' : gt (ap a1 (List.range k) n) l = l := by rw [ap1 h.i1.len hl]; exact el
  have l1 := I1.len
  refine ⟨h.i0.put B.i0, I1.swap (by omega) (by omega) (by omega) el' en, h.i2.put B.i2, ap_sq h.i0 h.i2 h.sq B, ?_⟩
  have g1 : ∀ g, g < n → g ≠ l → gt (((ap a1 (List.range k) n).set l n).set n l) g = gt a1 g := fun g hg nl => by
    rw [gt_set (by rw [List.length_set]; omega), if_neg (by omega), gt_set (by omega), if_neg (fun q => nl q.symm), ap1 h.i1.len hg]
  have old : ∀ f g, f < n → Rch a0 a1 a2 f g → g < n ∧ Rch (ap a0 b0 n) (((ap a1 (List.range k) n).set l n).set n l) (ap a2 b2 n) f g := by
    intro f g hf x
    induction x with
    | here => exact ⟨hf, .here _⟩
    | s0 _ ih => exact ⟨h.i0.lt _ ih.1, by rw [← ap1 (b := b0) h.i0.len ih.1]; exact .s0 ih.2⟩
    | s2 _ ih => exact ⟨h.i2.lt _ ih.1, by rw [← ap1 (b := b2) h.i2.len ih.1]; exact .s2 ih.2⟩
    | @s1 g _ ih =>
      refine ⟨h.i1.lt _ ih.1, ?_⟩
      by_cases q : g = l
      · have e : gt a1 g = g := by rw [q]; exact el
        rw [e]
        exact ih.2
      · rw [← g1 g ih.1 q]
        exact .s1 ih.2
  have toN : Rch (ap a0 b0 n) (((ap a1 (List.range k) n).set l n).set n l) (ap a2 b2 n) 0 n := by
    have x := (old 0 l (by omega) (h.re l hl)).2
    have e : gt (((ap a1 (List.range k) n).set l n).set n l) l = n := by
      rw [gt_set (by rw [List.length_set]; omega), if_neg (by omega), gt_set (by omega), if_pos rfl]
    have y := Rch.s1 x
    rw [e] at y
    exact y
  intro f hf
  by_cases q : f < n
  · exact (old 0 f (by omega) (h.re f q)).2
  · obtain ⟨g, rfl⟩ : ∃ g, f = n + g := ⟨f - n, by omega⟩
    have hg : g < k := by omega
    have l0 := B.i0.len
    have l2 := B.i2.len
    have z0 : gt (ap a0 b0 n) n = n + gt b0 0 := by
      have := ap2 (a := a0) (b := b0) (f := 0) h.i0.len (by omega)
      rw [Nat.add_zero] at this
      exact this
    have z2 : gt (ap a2 b2 n) n = n + gt b2 0 := by
      have := ap2 (a := a2) (b := b2) (f := 0) h.i2.len (by omega)
      rw [Nat.add_zero] at this
      exact this
    rcases B.re g hg with e | e | e | e
    · rw [e, Nat.add_zero]
      exact toN
    · rw [e, ← z0]
      exact .s0 toN
    · rw [e, ← z2]
      exact .s2 toN
    · have x0 := B.i0.lt 0 kp
      rw [e, ← ap2 (a := a2) h.i2.len (by omega), ← z0]
      exact .s2 (.s0 toN)
/-- the flags that change 1 leads to themselves and that wait to be joined -/
structure Free (fr a1 : List Nat) (n : Nat) : Prop where
  nd : fr.Nodup
  ok : ∀ f, f ∈ fr → f < n ∧ gt a1 f = f
theorem Free.first (k : Nat) : Free (List.range k) (ap [] (List.range k) 0) k := by
  refine ⟨List.nodup_range, fun f hf => ?_⟩
  have h := List.mem_range.mp hf
  refine ⟨h, ?_⟩
  have := ap2 (a := []) (b := List.range k) (n := 0) (f := f) rfl (by rw [List.length_range]; exact h)
  rw [Nat.zero_add, gt_range h, Nat.zero_add] at this
  exact this
theorem nodup_map_add (n : Nat) : ∀ {l : List Nat}, l.Nodup → (l.map (n + ·)).Nodup
  | [], _ => List.nodup_nil
  | a :: r, h => by
    obtain ⟨h1, h2⟩ := List.nodup_cons.mp h
    rw [List.map_cons]
    refine List.nodup_cons.mpr ⟨fun m => h1 ?_, nodup_map_add n h2⟩
    obtain ⟨x, hx, e⟩ := List.mem_map.mp m
    have : x = a := by omega
    rw [← this]
    exact hx
theorem Free.link {fr a1 : List Nat} {n k l : Nat} (F : Free fr a1 n) (l1 : a1.length = n) (hl : l < n) (kp : 0 < k) :
    Free (fr.filter (fun f => decide (f ≠ l)) ++ (List.range (k - 1)).map (fun j => n + (1 + j))) (((ap a1 (List.range k) n).set l n).set n l) (n + k) := by
  have ll : (ap a1 (List.range k) n).length = n + k := by
    unfold ap
    rw [List.length_append, List.length_map, List.length_range, l1]
  refine ⟨?_, fun f hf => ?_⟩
  · refine List.nodup_append.mpr ⟨F.nd.filter _, ?_, fun x hx y hy => ?_⟩
    · have := nodup_map_add n (nodup_map_add 1 (List.nodup_range (n := k - 1)))
      rw [List.map_map] at this
      exact this
    · have h1 := (F.ok x (List.mem_filter.mp hx).1).1
      obtain ⟨j, hj, e⟩ := List.mem_map.mp hy
      omega
  · rcases List.mem_append.mp hf with h | h
    · obtain ⟨h1, h2⟩ := List.mem_filter.mp h
      have h3 := of_decide_eq_true h2
      obtain ⟨h4, h5⟩ := F.ok f h1
      refine ⟨by omega, ?_⟩
      rw [gt_set (by rw [List.length_set]; omega), if_neg (by omega), gt_set (by omega), if_neg (fun q => h3 q.symm), ap1 l1 h4]
      exact h5
    · obtain ⟨j, hj, e⟩ := List.mem_map.mp h
      have hj2 := List.mem_range.mp hj
      refine ⟨by omega, ?_⟩
      rw [← e, gt_set (by rw [List.length_set]; omega), if_neg (by omega), gt_set (by omega), if_neg (by omega), ap2 l1 (by rw [List.length_range]; omega), gt_range (by omega)]
theorem Free.tail {x : Nat} {r a1 : List Nat} {n : Nat} (F : Free (x :: r) a1 n) : Free r a1 n :=
  ⟨(List.nodup_cons.mp F.nd).2, fun f hf => F.ok f (List.mem_cons_of_mem _ hf)⟩
theorem Free.pair {x y : Nat} {r a1 : List Nat} {n : Nat} (F : Free (x :: r) a1 n) (l1 : a1.length = n) (hy : y ∈ r) : Free (r.filter (fun f => decide (f ≠ y))) ((a1.set x y).set y x) n := by
  obtain ⟨n1, n2⟩ := List.nodup_cons.mp F.nd
  refine ⟨n2.filter _, fun f hf => ?_⟩
  obtain ⟨h1, h2⟩ := List.mem_filter.mp hf
  have h3 := of_decide_eq_true h2
  obtain ⟨h4, h5⟩ := F.ok f (List.mem_cons_of_mem _ h1)
  refine ⟨h4, ?_⟩
  have nx : f ≠ x := fun q => n1 (by rw [← q]; exact h1)
  rw [gt_set (by rw [List.length_set]; omega), if_neg (fun q => h3 q.symm), gt_set (by omega), if_neg (fun q => nx q.symm)]
  exact h5
/-! ### rounds -/
def itr (g : Nat → Nat) : Nat → Nat → Nat
  | 0, f => f
  | k + 1, f => itr g k (g f)
theorem itr_succ (g : Nat → Nat) : ∀ k f, itr g (k + 1) f = g (itr g k f)
  | 0, f => rfl
  | k + 1, f => itr_succ g k (g f)
theorem itr_add (g : Nat → Nat) : ∀ j k f, itr g (j + k) f = itr g j (itr g k f)
  | j, 0, f => rfl
  | j, k + 1, f => itr_add g j k (g f)
theorem nodup_bound : ∀ {n : Nat} {l : List Nat}, l.Nodup → (∀ x, x ∈ l → x < n) → l.length ≤ n
  | 0, [], _, _ => Nat.le_refl _
  | 0, x :: r, _, h => absurd (h x (List.mem_cons_self ..)) (by omega)
  | n + 1, l, nd, h => by
    have h1 : (l.filter (fun x => decide (x ≠ n))).length ≤ n := nodup_bound (nd.filter _) (fun x hx => by
      obtain ⟨a, b⟩ := List.mem_filter.mp hx
      have c := of_decide_eq_true b
      have := h x a
      omega)
    have h2 : l.length ≤ (l.filter (fun x => decide (x ≠ n))).length + 1 := by
      clear h1 h
      induction l with
      | nil => exact Nat.zero_le _
      | cons a r ih =>
        obtain ⟨q1, q2⟩ := List.nodup_cons.mp nd
        by_cases e : a = n
        · have : r.filter (fun x => decide (x ≠ n)) = r := List.filter_eq_self.mpr fun x hx => decide_eq_true (fun q => q1 (by rw [e, ← q]; exact hx))
          rw [List.filter_cons, if_neg (by simp [e]), this, List.length_cons]
          exact Nat.le_refl _
        · rw [List.filter_cons, if_pos (decide_eq_true e), List.length_cons, List.length_cons]
          have := ih q2
          omega
    omega
/-- an exchange done behind another one comes back within n turns -/
theorem comes_back {g : Nat → Nat} {n f : Nat} (hf : f < n) (lt : ∀ x, x < n → g x < n) (inj : ∀ x y, x < n → y < n → g x = g y → x = y) : ∃ r, 1 ≤ r ∧ r ≤ n ∧ itr g r f = f := by
  have ltk : ∀ k x, x < n → itr g k x < n := fun k => by
    induction k with
    | zero => exact fun x h => h
    | succ k ih => exact fun x h => ih _ (lt x h)
  have injk : ∀ k x y, x < n → y < n → itr g k x = itr g k y → x = y := fun k => by
    induction k with
    | zero => exact fun x y _ _ h => h
    | succ k ih => exact fun x y hx hy h => inj x y hx hy (ih _ _ (lt x hx) (lt y hy) h)
  apply Classical.byContradiction
  intro no
  have nd : ((List.range (n + 1)).map (fun k => itr g k f)).Nodup := by
    have : ∀ l : List Nat, l.Nodup → (∀ x, x ∈ l → x ≤ n) → (l.map (fun k => itr g k f)).Nodup := by
      intro l
      induction l with
      | nil => exact fun _ _ => List.nodup_nil
      | cons a r ih =>
        intro h hb
        obtain ⟨h1, h2⟩ := List.nodup_cons.mp h
        rw [List.map_cons]
        refine List.nodup_cons.mpr ⟨fun m => ?_, ih h2 fun x hx => hb x (List.mem_cons_of_mem _ hx)⟩
        obtain ⟨b, hb2, e⟩ := List.mem_map.mp m
        have ab : a ≠ b := fun q => h1 (by rw [q]; exact hb2)
        have ba := hb a (List.mem_cons_self ..)
        have bb := hb b (List.mem_cons_of_mem _ hb2)
        rcases Nat.lt_or_gt_of_ne ab with q | q
        · apply no
          refine ⟨b - a, by omega, by omega, ?_⟩
          have e2 : itr g (a + (b - a)) f = itr g a (itr g (b - a) f) := itr_add g a (b - a) f
          rw [show a + (b - a) = b by omega, e] at e2
          exact (injk a _ _ hf (ltk _ _ hf) e2).symm
        · apply no
          refine ⟨a - b, by omega, by omega, ?_⟩
          have e2 : itr g (b + (a - b)) f = itr g b (itr g (a - b) f) := itr_add g b (a - b) f
          rw [show b + (a - b) = a by omega, ← e] at e2
          exact (injk b _ _ hf (ltk _ _ hf) e2).symm
    exact this _ List.nodup_range fun x hx => by
      have := List.mem_range.mp hx
      omega
  have := nodup_bound nd (n := n) fun x hx => by
    obtain ⟨k, _, e⟩ := List.mem_map.mp hx
    rw [← e]
    exact ltk k f hf
  rw [List.length_map, List.length_range] at this
  omega
/-- along one change and then another one -/
def two (a b : List Nat) (f : Nat) : Nat := gt b (gt a f)
theorem two_lt {a b : List Nat} {n : Nat} (ha : Inv a n) (hb : Inv b n) : ∀ x, x < n → two a b x < n := fun x h => hb.lt _ (ha.lt x h)
theorem two_inj {a b : List Nat} {n : Nat} (ha : Inv a n) (hb : Inv b n) : ∀ x y, x < n → y < n → two a b x = two a b y → x = y := fun x y hx hy e => by
  have h1 := congrArg (gt b) e
  unfold two at h1
  rw [hb.inv _ (ha.lt x hx), hb.inv _ (ha.lt y hy)] at h1
  have h2 := congrArg (gt a) h1
  rw [ha.inv x hx, ha.inv y hy] at h2
  exact h2
/-- r is the round at f -/
structure Rnd (a b : List Nat) (n f r : Nat) : Prop where
  pos : 1 ≤ r
  le : r ≤ n
  back : itr (two a b) r f = f
  least : ∀ t, 1 ≤ t → t < r → itr (two a b) t f ≠ f
theorem rnd_ex {a b : List Nat} {n f : Nat} (ha : Inv a n) (hb : Inv b n) (hf : f < n) : ∃ r, Rnd a b n f r := by
  obtain ⟨r, h1, h2, h3⟩ := comes_back hf (two_lt ha hb) (two_inj ha hb)
  have key : ∀ m r, r ≤ m → 1 ≤ r → r ≤ n → itr (two a b) r f = f → ∃ r, Rnd a b n f r := by
    intro m
    induction m with
    | zero => intro r a b; omega
    | succ m ih =>
      intro r hm h1 h2 h3
      by_cases q : ∃ t, 1 ≤ t ∧ t < r ∧ itr (two a b) t f = f
      · obtain ⟨t, t1, t2, t3⟩ := q
        exact ih t (by omega) t1 (by omega) t3
      · exact ⟨r, h1, h2, h3, fun t t1 t2 t3 => q ⟨t, t1, t2, t3⟩⟩
  exact key r r (Nat.le_refl _) h1 h2 h3
theorem Rnd.one {a b : List Nat} {n f r r' : Nat} (h : Rnd a b n f r) (h' : Rnd a b n f r') : r = r' := by
  rcases Nat.lt_trichotomy r r' with q | q | q
  · exact absurd h.back (h'.least r h.pos q)
  · exact q
  · exact absurd h'.back (h.least r' h'.pos q)
/-! ### classes of two changes -/
inductive Rc (a b : List Nat) (f : Nat) : Nat → Prop where
  | here : Rc a b f f
  | a {g : Nat} : Rc a b f g → Rc a b f (gt a g)
  | b {g : Nat} : Rc a b f g → Rc a b f (gt b g)
theorem Rc.lt {a b : List Nat} {n f g : Nat} (ha : Inv a n) (hb : Inv b n) (hf : f < n) (h : Rc a b f g) : g < n := by
  induction h with
  | here => exact hf
  | a _ ih => exact ha.lt _ ih
  | b _ ih => exact hb.lt _ ih
/-- the flags that were found, the first k of them looked at -/
structure Cl (a b : List Nat) (n f k : Nat) (fs : List Nat) : Prop where
  nd : fs.Nodup
  hd : f ∈ fs
  rc : ∀ g, g ∈ fs → Rc a b f g
  cl : ∀ i, i < k → ∀ g, fs[i]? = some g → gt a g ∈ fs ∧ gt b g ∈ fs
theorem Cl.first (a b : List Nat) (n f : Nat) : Cl a b n f 0 [f] :=
  ⟨by simp, by simp, fun g hg => by rw [List.mem_singleton.mp hg]; exact .here, fun i h => absurd h (by omega)⟩
theorem Cl.len {a b fs : List Nat} {n f k : Nat} (ha : Inv a n) (hb : Inv b n) (hf : f < n) (h : Cl a b n f k fs) : fs.length ≤ n :=
  nodup_bound h.nd fun x hx => (h.rc x hx).lt ha hb hf
theorem nodup_snoc {l : List Nat} {x : Nat} (h : l.Nodup) (hx : ¬ x ∈ l) : (l ++ [x]).Nodup := by
  refine List.nodup_append.mpr ⟨h, by simp, fun y hy z hz => ?_⟩
  rw [List.mem_singleton.mp hz]
  exact fun q => hx (by rw [← q]; exact hy)
/-- one more flag, if it is new -/
def adj (fs : List Nat) (x : Nat) : List Nat := if x ∈ fs then fs else fs ++ [x]
theorem adj_mem {fs : List Nat} {x : Nat} : x ∈ adj fs x := by
  unfold adj
  split
  · assumption
  · simp
theorem adj_sub {fs : List Nat} {x y : Nat} (h : y ∈ fs) : y ∈ adj fs x := by
  unfold adj
  split
  · exact h
  · exact List.mem_append_left _ h
theorem adj_get {fs : List Nat} {x i g : Nat} (h : fs[i]? = some g) : (adj fs x)[i]? = some g := by
  unfold adj
  split
  · exact h
  · rw [List.getElem?_append_left (List.getElem?_eq_some_iff.mp h).1]
    exact h
theorem adj_nd {fs : List Nat} {x : Nat} (h : fs.Nodup) : (adj fs x).Nodup := by
  unfold adj
  split
  · exact h
  · exact nodup_snoc h (by assumption)
theorem adj_of {fs : List Nat} {x y : Nat} (h : y ∈ adj fs x) : y ∈ fs ∨ y = x := by
  unfold adj at h
  split at h
  · exact .inl h
  · rcases List.mem_append.mp h with q | q
    · exact .inl q
    · exact .inr (List.mem_singleton.mp q)
theorem adj_len {fs : List Nat} {x : Nat} : fs.length ≤ (adj fs x).length := by
  unfold adj
  split
  · exact Nat.le_refl _
  · rw [List.length_append]; omega
theorem Cl.step {a b fs : List Nat} {n f k g : Nat} (h : Cl a b n f k fs) (hg : fs[k]? = some g) : Cl a b n f (k + 1) (adj (adj fs (gt a g)) (gt b g)) := by
  have hm : g ∈ fs := List.mem_of_getElem? hg
  refine ⟨adj_nd (adj_nd h.nd), adj_sub (adj_sub h.hd), fun y hy => ?_, fun i hi y hy => ?_⟩
  · rcases adj_of hy with q | q
    · rcases adj_of q with q | q
      · exact h.rc y q
      · rw [q]; exact .a (h.rc g hm)
    · rw [q]; exact .b (h.rc g hm)
  · by_cases e : i = k
    · have : (adj (adj fs (gt a g)) (gt b g))[i]? = some g := adj_get (adj_get (by rw [e]; exact hg))
      rw [this] at hy
      rw [← Option.some.inj hy]
      exact ⟨adj_sub adj_mem, adj_mem⟩
    · have hl : k < fs.length := (List.getElem?_eq_some_iff.mp hg).1
      have h1 : fs[i]? = some fs[i] := List.getElem?_eq_getElem (by omega)
      have : (adj (adj fs (gt a g)) (gt b g))[i]? = some fs[i] := adj_get (adj_get h1)
      rw [this] at hy
      obtain ⟨q1, q2⟩ := h.cl i (by omega) _ h1
      rw [← Option.some.inj hy]
      exact ⟨adj_sub (adj_sub q1), adj_sub (adj_sub q2)⟩
theorem Cl.all {a b fs : List Nat} {n f k : Nat} (h : Cl a b n f k fs) (hk : fs.length ≤ k) : ∀ g, g ∈ fs ↔ Rc a b f g := fun g => by
  refine ⟨h.rc g, fun r => ?_⟩
  have step : ∀ g, g ∈ fs → gt a g ∈ fs ∧ gt b g ∈ fs := fun g hg => by
    obtain ⟨i, hi⟩ := List.getElem?_of_mem hg
    exact h.cl i (by have := (List.getElem?_eq_some_iff.mp hi).1; omega) g hi
  induction r with
  | here => exact h.hd
  | a _ ih => exact (step _ ih).1
  | b _ ih => exact (step _ ih).2
/-- the class of f, ascending -/
structure IsCls (a b : List Nat) (f : Nat) (gs : List Nat) : Prop where
  nd : gs.Nodup
  up : gs.Pairwise (· ≤ ·)
  all : ∀ g, g ∈ gs ↔ Rc a b f g
theorem up_one : ∀ {xs ys : List Nat}, xs.Nodup → ys.Nodup → xs.Pairwise (· ≤ ·) → ys.Pairwise (· ≤ ·) → (∀ g, g ∈ xs ↔ g ∈ ys) → xs = ys
  | [], [], _, _, _, _, _ => rfl
  | [], y :: ys, _, _, _, _, h => by
    have := (h y).mpr (List.mem_cons_self ..)
    simp at this
  | x :: xs, [], _, _, _, _, h => by
    have := (h x).mp (List.mem_cons_self ..)
    simp at this
  | x :: xs, y :: ys, n1, n2, u1, u2, h => by
    obtain ⟨a1, a2⟩ := List.nodup_cons.mp n1
    obtain ⟨b1, b2⟩ := List.nodup_cons.mp n2
    obtain ⟨c1, c2⟩ := List.pairwise_cons.mp u1
    obtain ⟨d1, d2⟩ := List.pairwise_cons.mp u2
    have e : x = y := by
      have h1 := (h x).mp (List.mem_cons_self ..)
      have h2 := (h y).mpr (List.mem_cons_self ..)
      rcases List.mem_cons.mp h1 with q | q
      · exact q
      · rcases List.mem_cons.mp h2 with q' | q'
        · exact q'.symm
        · have := c1 y q'
          have := d1 x q
          omega
    subst e
    rw [up_one a2 b2 c2 d2 fun g => ⟨fun hg => ?_, fun hg => ?_⟩]
    · rcases List.mem_cons.mp ((h g).mp (List.mem_cons_of_mem _ hg)) with q | q
      · exact absurd (by rw [← q]; exact hg) a1
      · exact q
    · rcases List.mem_cons.mp ((h g).mpr (List.mem_cons_of_mem _ hg)) with q | q
      · exact absurd (by rw [← q]; exact hg) b1
      · exact q
theorem IsCls.one {a b : List Nat} {f : Nat} {gs hs : List Nat} (g : IsCls a b f gs) (h : IsCls a b f hs) : gs = hs :=
  up_one g.nd h.nd g.up h.up fun x => (g.all x).trans (h.all x).symm
end Toy

namespace Toy
/-! ### walks along rows of changes -/
def sel (a0 a1 a2 : List Nat) (s : Nat) : List Nat := if s = 0 then a0 else if s = 1 then a1 else a2
def wk (a0 a1 a2 : List Nat) (ss : List Nat) (f : Nat) : Nat := ss.foldl (fun g s => gt (sel a0 a1 a2 s) g) f
theorem sel_inv {a0 a1 a2 : List Nat} {n s : Nat} (h0 : Inv a0 n) (h1 : Inv a1 n) (h2 : Inv a2 n) : Inv (sel a0 a1 a2 s) n := by
  unfold sel
  split
  · exact h0
  · split
    · exact h1
    · exact h2
theorem wk_lt {a0 a1 a2 : List Nat} {n : Nat} (h0 : Inv a0 n) (h1 : Inv a1 n) (h2 : Inv a2 n) : ∀ (ss : List Nat) (f : Nat), f < n → wk a0 a1 a2 ss f < n
  | [], f, h => h
  | s :: r, f, h => wk_lt h0 h1 h2 r _ ((sel_inv h0 h1 h2).lt f h)
theorem wk_app {a0 a1 a2 : List Nat} (ss ts : List Nat) (f : Nat) : wk a0 a1 a2 (ss ++ ts) f = wk a0 a1 a2 ts (wk a0 a1 a2 ss f) := by
  unfold wk
  rw [List.foldl_append]
theorem wk_back {a0 a1 a2 : List Nat} {n : Nat} (h0 : Inv a0 n) (h1 : Inv a1 n) (h2 : Inv a2 n) : ∀ (ss : List Nat) (f : Nat), f < n → wk a0 a1 a2 ss.reverse (wk a0 a1 a2 ss f) = f
  | [], f, h => rfl
  | s :: r, f, h => by
    have I := sel_inv (s := s) h0 h1 h2
    rw [List.reverse_cons, wk_app]
    have ih := wk_back h0 h1 h2 r (gt (sel a0 a1 a2 s) f) (I.lt f h)
    show gt (sel a0 a1 a2 s) (wk a0 a1 a2 r.reverse (wk a0 a1 a2 r (gt (sel a0 a1 a2 s) f))) = f
    rw [ih]
    exact I.inv f h
theorem wk_rep {a0 a1 a2 : List Nat} (i j : Nat) : ∀ (r f : Nat), wk a0 a1 a2 (List.replicate r [i, j]).flatten f = itr (two (sel a0 a1 a2 i) (sel a0 a1 a2 j)) r f
  | 0, f => rfl
  | r + 1, f => by
    rw [List.replicate_succ, List.flatten_cons, wk_app]
    exact wk_rep i j r _
end Toy

namespace Toy
/-! ### listings along changes, as a walk makes them -/
def stL (cs : List (List Nat)) (fs : List Nat) (g : Nat) : List Nat := cs.foldl (fun fs c => adj fs (gt c g)) fs
def bf (cs : List (List Nat)) (f : Nat) : Nat → List Nat
  | 0 => [f]
  | k + 1 => match (bf cs f k)[k]? with
    | some g => stL cs (bf cs f k) g
    | none => bf cs f k
theorem stL_get {cs : List (List Nat)} : ∀ {fs : List Nat} {g i x : Nat}, fs[i]? = some x → (stL cs fs g)[i]? = some x := by
  unfold stL
  induction cs with
  | nil => exact fun h => h
  | cons c r ih => exact fun h => ih (adj_get h)
theorem stL_nd {cs : List (List Nat)} : ∀ {fs : List Nat} {g : Nat}, fs.Nodup → (stL cs fs g).Nodup := by
  unfold stL
  induction cs with
  | nil => exact fun h => h
  | cons c r ih => exact fun h => ih (adj_nd h)
theorem stL_sub {cs : List (List Nat)} : ∀ {fs : List Nat} {g y : Nat}, y ∈ fs → y ∈ stL cs fs g := by
  unfold stL
  induction cs with
  | nil => exact fun h => h
  | cons c r ih => exact fun h => ih (adj_sub h)
theorem stL_mem {cs : List (List Nat)} : ∀ {fs : List Nat} {g : Nat} {c : List Nat}, c ∈ cs → gt c g ∈ stL cs fs g := by
  induction cs with
  | nil => exact fun h => by simp at h
  | cons d r ih =>
    intro fs g c h
    rcases List.mem_cons.mp h with q | q
    · rw [q]
      exact stL_sub (cs := r) adj_mem
    · exact ih q
theorem stL_of {cs : List (List Nat)} : ∀ {fs : List Nat} {g y : Nat}, y ∈ stL cs fs g → y ∈ fs ∨ ∃ c, c ∈ cs ∧ y = gt c g := by
  induction cs with
  | nil => exact fun h => .inl h
  | cons d r ih =>
    intro fs g y h
    rcases ih (show y ∈ stL r (adj fs (gt d g)) g from h) with q | ⟨c, hc, q⟩
    · rcases adj_of q with q | q
      · exact .inl q
      · exact .inr ⟨d, List.mem_cons_self .., q⟩
    · exact .inr ⟨c, List.mem_cons_of_mem _ hc, q⟩
theorem bf_succ_some {cs : List (List Nat)} {f k g : Nat} (h : (bf cs f k)[k]? = some g) : bf cs f (k + 1) = stL cs (bf cs f k) g := by
  show (match (bf cs f k)[k]? with | some g => stL cs (bf cs f k) g | none => bf cs f k) = _
  rw [h]
theorem bf_succ_none {cs : List (List Nat)} {f k : Nat} (h : (bf cs f k).length ≤ k) : bf cs f (k + 1) = bf cs f k := by
  show (match (bf cs f k)[k]? with | some g => stL cs (bf cs f k) g | none => bf cs f k) = _
  rw [List.getElem?_eq_none h]
theorem bf_case (cs : List (List Nat)) (f k : Nat) : (∃ g, (bf cs f k)[k]? = some g ∧ bf cs f (k + 1) = stL cs (bf cs f k) g) ∨ ((bf cs f k).length ≤ k ∧ bf cs f (k + 1) = bf cs f k) := by
  by_cases h : k < (bf cs f k).length
  · exact .inl ⟨_, List.getElem?_eq_getElem h, bf_succ_some (List.getElem?_eq_getElem h)⟩
  · exact .inr ⟨by omega, bf_succ_none (by omega)⟩
theorem bf_nd (cs : List (List Nat)) (f : Nat) : ∀ k, (bf cs f k).Nodup
  | 0 => by simp [bf]
  | k + 1 => by
    rcases bf_case cs f k with ⟨g, _, e⟩ | ⟨_, e⟩
    · rw [e]; exact stL_nd (bf_nd cs f k)
    · rw [e]; exact bf_nd cs f k
theorem bf_lt {cs : List (List Nat)} {f n : Nat} (h : ∀ c, c ∈ cs → Inv c n) (hf : f < n) : ∀ k x, x ∈ bf cs f k → x < n
  | 0, x, hx => by
    rw [List.mem_singleton.mp hx]
    exact hf
  | k + 1, x, hx => by
    rcases bf_case cs f k with ⟨g, hg, e⟩ | ⟨_, e⟩
    · rw [e] at hx
      rcases stL_of hx with q | ⟨c, hc, q⟩
      · exact bf_lt h hf k x q
      · rw [q]
        exact (h c hc).lt g (bf_lt h hf k g (List.mem_of_getElem? hg))
    · rw [e] at hx
      exact bf_lt h hf k x hx
theorem bf_len {cs : List (List Nat)} {f n : Nat} (h : ∀ c, c ∈ cs → Inv c n) (hf : f < n) (k : Nat) : (bf cs f k).length ≤ n := nodup_bound (bf_nd cs f k) (bf_lt h hf k)
theorem bf_stop {cs : List (List Nat)} {f k : Nat} (h : (bf cs f k).length ≤ k) : ∀ j, bf cs f (k + j) = bf cs f k
  | 0 => rfl
  | j + 1 => by
    have ih := bf_stop h j
    have := bf_succ_none (cs := cs) (f := f) (k := k + j) (by rw [ih]; omega)
    rw [show k + (j + 1) = k + j + 1 by omega, this, ih]
/-- the walk -/
def wlk (cs : List (List Nat)) (n f : Nat) : List Nat := bf cs f n
theorem wlk_at {cs : List (List Nat)} {n f k : Nat} (hk : k ≤ n) (h : (bf cs f k).length ≤ k) : bf cs f k = wlk cs n f := by
  unfold wlk
  obtain ⟨j, rfl⟩ : ∃ j, n = k + j := ⟨n - k, by omega⟩
  exact (bf_stop h j).symm
theorem bf_hd (cs : List (List Nat)) (f : Nat) : ∀ k, (bf cs f k)[0]? = some f
  | 0 => rfl
  | k + 1 => by
    rcases bf_case cs f k with ⟨g, _, e⟩ | ⟨_, e⟩
    · rw [e]; exact stL_get (bf_hd cs f k)
    · rw [e]; exact bf_hd cs f k
end Toy

namespace Toy
theorem map_nd {f : Nat → Nat} : ∀ {l : List Nat}, l.Nodup → (∀ x, x ∈ l → ∀ y, y ∈ l → f x = f y → x = y) → (l.map f).Nodup
  | [], _, _ => List.nodup_nil
  | a :: r, hn, hb => by
    obtain ⟨q1, q2⟩ := List.nodup_cons.mp hn
    rw [List.map_cons]
    refine List.nodup_cons.mpr ⟨fun m => q1 ?_, map_nd q2 fun x hx y hy => hb x (List.mem_cons_of_mem _ hx) y (List.mem_cons_of_mem _ hy)⟩
    obtain ⟨b, hb2, e⟩ := List.mem_map.mp m
    rw [hb a (List.mem_cons_self ..) b (List.mem_cons_of_mem _ hb2) e.symm]
    exact hb2
/-- a listing of all flags below n -/
structure Prm (ls : List Nat) (n : Nat) : Prop where
  len : ls.length = n
  nd : ls.Nodup
  lt : ∀ f, f ∈ ls → f < n
theorem Prm.gt_lt {ls : List Nat} {n k : Nat} (h : Prm ls n) (hk : k < n) : gt ls k < n := h.lt _ (List.mem_of_getElem? (gt_some (by rw [h.len]; exact hk)))
theorem Prm.inj {ls : List Nat} {n j k : Nat} (h : Prm ls n) (hj : j < n) (hk : k < n) (e : gt ls j = gt ls k) : j = k := by
  have h1 := gt_some (xs := ls) (f := j) (by rw [h.len]; exact hj)
  have h2 := gt_some (xs := ls) (f := k) (by rw [h.len]; exact hk)
  rw [e] at h1
  obtain ⟨a, ea⟩ := List.getElem?_eq_some_iff.mp h1
  obtain ⟨b, eb⟩ := List.getElem?_eq_some_iff.mp h2
  exact (List.getElem_inj h.nd).mp (ea.trans eb.symm)
/-- nb undoes ls -/
structure Und (ls nb : List Nat) (n : Nat) : Prop where
  len : nb.length = n
  lt : ∀ g, g < n → gt nb g < n
  l : ∀ k, k < n → gt nb (gt ls k) = k
  r : ∀ g, g < n → gt ls (gt nb g) = g
theorem und_of {ls nb : List Nat} {n : Nat} (h : Prm ls n) (len : nb.length = n) (l : ∀ k, k < n → gt nb (gt ls k) = k) : Und ls nb n := by
  have surj : ∀ g, g < n → ∃ k, k < n ∧ gt ls k = g := by
    intro g hg
    apply Classical.byContradiction
    intro no
    have hn : ¬ g ∈ ls := fun m => by
      obtain ⟨k, hk⟩ := List.getElem?_of_mem m
      have kl := (List.getElem?_eq_some_iff.mp hk).1
      rw [h.len] at kl
      exact no ⟨k, kl, gt_of hk⟩
    have := nodup_bound (n := n) (l := g :: ls) (List.nodup_cons.mpr ⟨hn, h.nd⟩) fun x hx => by
      rcases List.mem_cons.mp hx with q | q
      · rw [q]; exact hg
      · exact h.lt x q
    rw [List.length_cons, h.len] at this
    omega
  refine ⟨len, fun g hg => ?_, l, fun g hg => ?_⟩
  · obtain ⟨k, hk, e⟩ := surj g hg
    rw [← e, l k hk]
    exact hk
  · obtain ⟨k, hk, e⟩ := surj g hg
    rw [← e, l k hk]
theorem Und.one {ls nb nb' : List Nat} {n : Nat} (h : Und ls nb n) (h' : Und ls nb' n) : nb = nb' := by
  refine gt_ext (by rw [h.len, h'.len]) fun g hg => ?_
  rw [h.len] at hg
  have e := h.r g hg
  have e2 := h'.l (gt nb g) (h.lt g hg)
  rw [e] at e2
  exact e2.symm
/-- one change numbered anew; one row of orders -/
def rn (ls nb s : List Nat) : List Nat := ls.map fun f => gt nb (gt s f)
def pr (ls p : List Nat) : List Nat := ls.map (gt p)
theorem rn_gt {ls nb s : List Nat} {n k : Nat} (h : Prm ls n) (hk : k < n) : gt (rn ls nb s) k = gt nb (gt s (gt ls k)) := gt_map (by rw [h.len]; exact hk)
theorem pr_gt {ls p : List Nat} {n k : Nat} (h : Prm ls n) (hk : k < n) : gt (pr ls p) k = gt p (gt ls k) := gt_map (by rw [h.len]; exact hk)
theorem rn_inv {ls nb s : List Nat} {n : Nat} (h : Prm ls n) (u : Und ls nb n) (i : Inv s n) : Inv (rn ls nb s) n := by
  refine ⟨by unfold rn; rw [List.length_map, h.len], fun k hk => ?_, fun k hk => ?_⟩
  · rw [rn_gt h hk]
    exact u.lt _ (i.lt _ (h.gt_lt hk))
  · have a := i.lt _ (h.gt_lt hk)
    rw [rn_gt h hk, rn_gt h (u.lt _ a), u.r _ a, i.inv _ (h.gt_lt hk), u.l k hk]
/-- one listing behind another one -/
theorem prm_comp {ls ms : List Nat} {n : Nat} (h : Prm ls n) (g : Prm ms n) : Prm (ms.map (gt ls)) n := by
  refine ⟨by rw [List.length_map, g.len], ?_, fun f hf => ?_⟩
  · have : ∀ l : List Nat, l.Nodup → (∀ x, x ∈ l → x < n) → (l.map (gt ls)).Nodup := by
      intro l
      induction l with
      | nil => exact fun _ _ => List.nodup_nil
      | cons a r ih =>
        intro hn hb
        obtain ⟨q1, q2⟩ := List.nodup_cons.mp hn
        rw [List.map_cons]
        refine List.nodup_cons.mpr ⟨fun m => q1 ?_, ih q2 fun x hx => hb x (List.mem_cons_of_mem _ hx)⟩
        obtain ⟨b, hb2, e⟩ := List.mem_map.mp m
        have := h.inj (hb a (List.mem_cons_self ..)) (hb b (List.mem_cons_of_mem _ hb2)) e.symm
        rw [this]
        exact hb2
    exact this ms g.nd g.lt
  · obtain ⟨x, hx, e⟩ := List.mem_map.mp hf
    rw [← e]
    exact h.gt_lt (g.lt x hx)
theorem und_comp {ls nb ms mb cb : List Nat} {n : Nat} (h : Prm ls n) (u : Und ls nb n) (g : Prm ms n) (v : Und ms mb n) (c : Und (ms.map (gt ls)) cb n) : ∀ x, x < n → gt cb x = gt mb (gt nb x) := by
  intro x hx
  have e := c.l (gt mb (gt nb x)) (v.lt _ (u.lt x hx))
  have y := v.lt _ (u.lt x hx)
  rw [gt_map (by rw [g.len]; exact y), v.r _ (u.lt x hx), u.r x hx] at e
  exact e
theorem rn_comp {ls nb ms mb cb s : List Nat} {n : Nat} (h : Prm ls n) (u : Und ls nb n) (g : Prm ms n) (v : Und ms mb n) (c : Und (ms.map (gt ls)) cb n) (i : Inv s n) : rn ms mb (rn ls nb s) = rn (ms.map (gt ls)) cb s := by
  have hc := prm_comp h g
  refine gt_ext (by unfold rn; rw [List.length_map, List.length_map, List.length_map]) fun k hk => ?_
  have hk' : k < n := by
    unfold rn at hk
    rw [List.length_map, g.len] at hk
    exact hk
  have a := g.gt_lt hk'
  have b := h.gt_lt a
  rw [rn_gt g hk', rn_gt h a, rn_gt hc hk', gt_map (by rw [g.len]; exact hk'), und_comp h u g v c _ (i.lt _ b)]
theorem pr_comp {ls ms p : List Nat} {n : Nat} (h : Prm ls n) (g : Prm ms n) : pr ms (pr ls p) = pr (ms.map (gt ls)) p := by
  unfold pr
  rw [List.map_map]
  refine List.map_congr_left fun x hx => ?_
  exact gt_map (by rw [h.len]; exact g.lt x hx)
theorem prm_range (n : Nat) : Prm (List.range n) n := ⟨List.length_range, List.nodup_range, fun f h => List.mem_range.mp h⟩
theorem rn_id {nb s : List Nat} {n : Nat} (u : Und (List.range n) nb n) (i : Inv s n) : rn (List.range n) nb s = s := by
  refine gt_ext (by unfold rn; rw [List.length_map, List.length_range, i.len]) fun k hk => ?_
  have hk' : k < n := by
    unfold rn at hk
    rw [List.length_map, List.length_range] at hk
    exact hk
  have e := u.l (gt s k) (i.lt k hk')
  rw [gt_range (i.lt k hk')] at e
  rw [rn_gt (prm_range n) hk', gt_range hk', e]
theorem pr_id {p : List Nat} {n : Nat} (l : p.length = n) : pr (List.range n) p = p := by
  refine gt_ext (by unfold pr; rw [List.length_map, List.length_range, l]) fun k hk => ?_
  have hk' : k < n := by
    unfold pr at hk
    rw [List.length_map, List.length_range] at hk
    exact hk
  rw [pr_gt (prm_range n) hk', gt_range hk']
theorem und_prm {ls nb : List Nat} {n : Nat} (h : Prm ls n) (u : Und ls nb n) : Prm nb n := by
  refine ⟨u.len, ?_, fun f hf => ?_⟩
  · have e : nb = (List.range n).map (gt nb) := by
      refine gt_ext (by rw [List.length_map, List.length_range, u.len]) fun k hk => ?_
      rw [u.len] at hk
      rw [gt_map (by rw [List.length_range]; exact hk), gt_range hk]
    rw [e]
    refine map_nd List.nodup_range fun x hx y hy q => ?_
    have a := u.r x (List.mem_range.mp hx)
    have b := u.r y (List.mem_range.mp hy)
    rw [q, b] at a
    exact a.symm
  · obtain ⟨k, hk⟩ := List.getElem?_of_mem hf
    have kl := (List.getElem?_eq_some_iff.mp hk).1
    rw [u.len] at kl
    rw [← gt_of hk]
    exact u.lt k kl
theorem back_id {ls nb : List Nat} {n : Nat} (h : Prm ls n) (u : Und ls nb n) : nb.map (gt ls) = List.range n := by
  refine gt_ext (by rw [List.length_map, List.length_range, u.len]) fun k hk => ?_
  rw [List.length_map, u.len] at hk
  rw [gt_map (by rw [u.len]; exact hk), u.r k hk, gt_range hk]
end Toy

namespace Toy
theorem und_inj {ls nb : List Nat} {n x y : Nat} (u : Und ls nb n) (hx : x < n) (hy : y < n) (e : gt nb x = gt nb y) : x = y := by
  have a := u.r x hx
  have b := u.r y hy
  rw [e, b] at a
  exact a.symm
theorem adj_rn {ls nb fs : List Nat} {n g : Nat} (u : Und ls nb n) (hf : ∀ x, x ∈ fs → x < n) (hg : g < n) : adj (fs.map (gt nb)) (gt nb g) = (adj fs g).map (gt nb) := by
  unfold adj
  by_cases q : g ∈ fs
  · rw [if_pos q, if_pos (List.mem_map.mpr ⟨g, q, rfl⟩)]
  · rw [if_neg q, if_neg (fun m => by
      obtain ⟨x, hx, e⟩ := List.mem_map.mp m
      rw [und_inj u (hf x hx) hg e] at hx
      exact q hx), List.map_append]
    rfl
theorem adj_lt {fs : List Nat} {n g : Nat} (hf : ∀ x, x ∈ fs → x < n) (hg : g < n) : ∀ x, x ∈ adj fs g → x < n := fun x hx => by
  rcases adj_of hx with q | q
  · exact hf x q
  · rw [q]; exact hg
theorem stL_rn {ls nb : List Nat} {n : Nat} (h : Prm ls n) (u : Und ls nb n) : ∀ {cs : List (List Nat)} {fs : List Nat} {g : Nat}, (∀ c, c ∈ cs → Inv c n) → (∀ x, x ∈ fs → x < n) → g < n → stL (cs.map (rn ls nb)) (fs.map (gt nb)) (gt nb g) = (stL cs fs g).map (gt nb) := by
  intro cs
  induction cs with
  | nil => exact fun _ _ _ => rfl
  | cons c r ih =>
    intro fs g hc hf hg
    have i := hc c (List.mem_cons_self ..)
    have e : gt (rn ls nb c) (gt nb g) = gt nb (gt c g) := by rw [rn_gt h (u.lt g hg), u.r g hg]
    show stL (r.map (rn ls nb)) (adj (fs.map (gt nb)) (gt (rn ls nb c) (gt nb g))) (gt nb g) = (stL r (adj fs (gt c g)) g).map (gt nb)
    rw [e, adj_rn u hf (i.lt g hg)]
    exact ih (fun d hd => hc d (List.mem_cons_of_mem _ hd)) (adj_lt hf (i.lt g hg)) hg
theorem bf_rn {ls nb : List Nat} {n f : Nat} {cs : List (List Nat)} (h : Prm ls n) (u : Und ls nb n) (hc : ∀ c, c ∈ cs → Inv c n) (hf : f < n) : ∀ k, bf (cs.map (rn ls nb)) (gt nb f) k = (bf cs f k).map (gt nb)
  | 0 => rfl
  | k + 1 => by
    have ih := bf_rn (cs := cs) h u hc hf k
    rcases bf_case cs f k with ⟨g, hg, e⟩ | ⟨hl, e⟩
    · have hg' : (bf (cs.map (rn ls nb)) (gt nb f) k)[k]? = some (gt nb g) := by rw [ih, List.getElem?_map, hg]; rfl
      rw [bf_succ_some hg', e, ih]
      exact stL_rn h u hc (bf_lt hc hf k) (bf_lt hc hf k g (List.mem_of_getElem? hg))
    · rw [bf_succ_none (by rw [ih, List.length_map]; exact hl), e, ih]
/-- the walk of what is numbered anew -/
theorem wlk_rn {ls nb : List Nat} {n f : Nat} {cs : List (List Nat)} (h : Prm ls n) (u : Und ls nb n) (hc : ∀ c, c ∈ cs → Inv c n) (hf : f < n) : wlk (cs.map (rn ls nb)) n (gt nb f) = (wlk cs n f).map (gt nb) := bf_rn h u hc hf n
theorem bf_done {cs : List (List Nat)} {f : Nat} : ∀ (k j g : Nat), j < k → (bf cs f k)[j]? = some g → ∀ c, c ∈ cs → gt c g ∈ bf cs f k
  | 0, j, _, hj, _ => absurd hj (by omega)
  | k + 1, j, g, hj, hg => fun c hc => by
    rcases bf_case cs f k with ⟨y, hy, e⟩ | ⟨hl, e⟩
    · rw [e] at hg ⊢
      by_cases q : j = k
      · subst q
        rw [stL_get hy] at hg
        rw [← Option.some.inj hg]
        exact stL_mem hc
      · have kl := (List.getElem?_eq_some_iff.mp hy).1
        have hj' : j < (bf cs f k).length := by omega
        have x := List.getElem?_eq_getElem hj'
        rw [stL_get x] at hg
        exact stL_sub (bf_done k j g (by omega) (x.trans hg) c hc)
    · rw [e] at hg ⊢
      have jl := (List.getElem?_eq_some_iff.mp hg).1
      exact bf_done k j g (by omega) hg c hc
theorem wlk_cl {cs : List (List Nat)} {n f g : Nat} {c : List Nat} (hc : ∀ c, c ∈ cs → Inv c n) (hf : f < n) (hg : g ∈ wlk cs n f) (h : c ∈ cs) : gt c g ∈ wlk cs n f := by
  obtain ⟨j, hj⟩ := List.getElem?_of_mem hg
  have jl := (List.getElem?_eq_some_iff.mp hj).1
  have := bf_len hc hf n
  exact bf_done n j g (Nat.lt_of_lt_of_le jl this) hj c h
theorem wlk_hd {cs : List (List Nat)} {n f : Nat} : f ∈ wlk cs n f := List.mem_of_getElem? (bf_hd cs f n)
theorem len_sub : ∀ {l m : List Nat}, l.Nodup → (∀ x, x ∈ l → x ∈ m) → l.length ≤ m.length
  | [], _, _, _ => Nat.zero_le _
  | a :: r, m, nd, h => by
    obtain ⟨q1, q2⟩ := List.nodup_cons.mp nd
    have am := h a (List.mem_cons_self ..)
    have := len_sub (l := r) (m := m.erase a) q2 fun x hx => (List.mem_erase_of_ne (fun e => q1 (by rw [← e]; exact hx))).mpr (h x (List.mem_cons_of_mem _ hx))
    rw [List.length_erase_of_mem am] at this
    have p := List.length_pos_of_mem am
    rw [List.length_cons]
    omega
theorem wlk_rch {a0 a1 a2 : List Nat} {n f g : Nat} (h : Fr a0 a1 a2 n) (hf : f < n) (r : Rch a0 a1 a2 f g) : g ∈ wlk [a0, a1, a2] n f := by
  have hc : ∀ c, c ∈ [a0, a1, a2] → Inv c n := fun c hc => by
    simp only [List.mem_cons, List.not_mem_nil, or_false] at hc
    rcases hc with rfl | rfl | rfl
    · exact h.i0
    · exact h.i1
    · exact h.i2
  induction r with
  | here => exact wlk_hd
  | s0 _ ih => exact wlk_cl hc hf ih (by simp)
  | s1 _ ih => exact wlk_cl hc hf ih (by simp)
  | s2 _ ih => exact wlk_cl hc hf ih (by simp)
theorem Rch.lt {a0 a1 a2 : List Nat} {n f g : Nat} (h : Fr a0 a1 a2 n) (hf : f < n) (r : Rch a0 a1 a2 f g) : g < n := by
  induction r with
  | here => exact hf
  | s0 _ ih => exact h.i0.lt _ ih
  | s1 _ ih => exact h.i1.lt _ ih
  | s2 _ ih => exact h.i2.lt _ ih
theorem Rch.sym {a0 a1 a2 : List Nat} {n f g : Nat} (h : Fr a0 a1 a2 n) (hf : f < n) (r : Rch a0 a1 a2 f g) : Rch a0 a1 a2 g f := by
  induction r with
  | here => exact .here _
  | @s0 g r ih =>
    have t : Rch a0 a1 a2 (gt a0 g) (gt a0 (gt a0 g)) := .s0 (.here _)
    rw [h.i0.inv _ (Rch.lt h hf r)] at t
    exact t.trans ih
  | @s1 g r ih =>
    have t : Rch a0 a1 a2 (gt a1 g) (gt a1 (gt a1 g)) := .s1 (.here _)
    rw [h.i1.inv _ (Rch.lt h hf r)] at t
    exact t.trans ih
  | @s2 g r ih =>
    have t : Rch a0 a1 a2 (gt a2 g) (gt a2 (gt a2 g)) := .s2 (.here _)
    rw [h.i2.inv _ (Rch.lt h hf r)] at t
    exact t.trans ih
/-- the walk from any flag of a pattern meets each flag once -/
theorem wlk_prm {a0 a1 a2 : List Nat} {n f : Nat} (h : Fr a0 a1 a2 n) (hf : f < n) : Prm (wlk [a0, a1, a2] n f) n := by
  have hc : ∀ c, c ∈ [a0, a1, a2] → Inv c n := fun c hc => by
    simp only [List.mem_cons, List.not_mem_nil, or_false] at hc
    rcases hc with rfl | rfl | rfl
    · exact h.i0
    · exact h.i1
    · exact h.i2
  refine ⟨?_, bf_nd _ _ _, bf_lt hc hf n⟩
  refine Nat.le_antisymm (bf_len hc hf n) ?_
  have := len_sub (l := List.range n) (m := wlk [a0, a1, a2] n f) List.nodup_range fun x hx =>
    wlk_rch h hf ((Rch.sym h (by omega) (h.re f hf)).trans (h.re x (List.mem_range.mp hx)))
  rwa [List.length_range] at this
theorem Rch.rn {a0 a1 a2 ls nb : List Nat} {n f g : Nat} (h : Fr a0 a1 a2 n) (p : Prm ls n) (u : Und ls nb n) (hf : f < n) (r : Rch a0 a1 a2 f g) : Rch (rn ls nb a0) (rn ls nb a1) (rn ls nb a2) (gt nb f) (gt nb g) := by
  induction r with
  | here => exact .here _
  | @s0 g r ih =>
    have gl := Rch.lt h hf r
    have t := Rch.s0 ih
    rw [rn_gt p (u.lt g gl), u.r g gl] at t
    exact t
  | @s1 g r ih =>
    have gl := Rch.lt h hf r
    have t := Rch.s1 ih
    rw [rn_gt p (u.lt g gl), u.r g gl] at t
    exact t
  | @s2 g r ih =>
    have gl := Rch.lt h hf r
    have t := Rch.s2 ih
    rw [rn_gt p (u.lt g gl), u.r g gl] at t
    exact t
/-- what is numbered anew is a pattern again -/
theorem fr_rn {a0 a1 a2 ls nb : List Nat} {n : Nat} (h : Fr a0 a1 a2 n) (p : Prm ls n) (u : Und ls nb n) : Fr (rn ls nb a0) (rn ls nb a1) (rn ls nb a2) n := by
  refine ⟨rn_inv p u h.i0, rn_inv p u h.i1, rn_inv p u h.i2, fun k hk => ?_, fun k hk => ?_⟩
  · have l := p.gt_lt hk
    rw [rn_gt p hk, rn_gt p hk, rn_gt p (u.lt _ (h.i2.lt _ l)), rn_gt p (u.lt _ (h.i0.lt _ l)), u.r _ (h.i2.lt _ l), u.r _ (h.i0.lt _ l), h.sq _ l]
  · have l0 := p.gt_lt (k := 0) (by omega)
    have l := p.gt_lt hk
    have r := (Rch.sym h (by omega) (h.re _ l0)).trans (h.re _ l)
    have t := Rch.rn h p u l0 r
    rwa [u.l 0 (by omega), u.l k hk] at t
end Toy

namespace Toy
open PySem L2
/-! ### heaps: what stays -/
def nD : HO → Bool
  | .dK _ => false
  | _ => true
/-- all but dicts stays -/
def St (H H' : Hp) : Prop := ∀ b o, H b = some o → nD o = true → H' b = some o
theorem St.refl (H : Hp) : St H H := fun _ _ h _ => h
theorem St.trans {H H1 H2 : Hp} (a : St H H1) (b : St H1 H2) : St H H2 := fun c o h n => b c o (a c o h n) n
theorem Same.st {H H' : Hp} (e : Same H H') : St H H' := fun b o h _ => e b o h
theorem sameNew {H : Hp} {p : Addr} {o : HO} (h : H p = none) : Same H (upd H p o) := fun b u e => by
  rw [upd_ne (ne_of_none e h)]
  exact e
theorem St.seq {K : PySem.W.Frag} {H H' : Hp} {a : Addr} {xs : List V} (e : St H H') (h : SqL K H a xs) : SqL K H' a xs := by
  rcases h with (h | ⟨o, h⟩) | h
  · exact .inl (.inl (e _ _ h rfl))
  · exact .inl (.inr ⟨o, e _ _ h rfl⟩)
  · exact .inr h
/-! ### the dict that draws -/
theorem k1 : ¬ ((Sum.inr ("left" : Str) : Key) = Sum.inr ("seed" : Str)) := by decide +kernel
theorem k2 : ¬ ((Sum.inr ("left" : Str) : Key) = Sum.inr ("cells" : Str)) := by decide +kernel
theorem k3 : ¬ ((Sum.inr ("left" : Str) : Key) = Sum.inr ("spot" : Str)) := by decide +kernel
theorem k4 : ¬ ((Sum.inr ("seed" : Str) : Key) = Sum.inr ("cells" : Str)) := by decide +kernel
theorem k5 : ¬ ((Sum.inr ("seed" : Str) : Key) = Sum.inr ("spot" : Str)) := by decide +kernel
theorem k6 : ¬ ((Sum.inr ("cells" : Str) : Key) = Sum.inr ("spot" : Str)) := by decide +kernel
def mk (L S : Int) (c : Addr) (P : Int) : List (Key × V) := [(.inr "left", .int L), (.inr "seed", .int S), (.inr "cells", .ref c), (.inr "spot", .int P)]
theorem mk_left {L S P : Int} {c : Addr} : valV (mk L S c P) (.inr "left") = some (.int L) := valV_pos rfl
theorem mk_seed {L S P : Int} {c : Addr} : valV (mk L S c P) (.inr "seed") = some (.int S) := by
  unfold mk
  rw [valV_neg k1, valV_pos rfl]
theorem mk_cells {L S P : Int} {c : Addr} : valV (mk L S c P) (.inr "cells") = some (.ref c) := by
  unfold mk
  rw [valV_neg k2, valV_neg k4, valV_pos rfl]
theorem mk_spot {L S P : Int} {c : Addr} : valV (mk L S c P) (.inr "spot") = some (.int P) := by
  unfold mk
  rw [valV_neg k3, valV_neg k5, valV_neg k6, valV_pos rfl]
theorem put_left {L S P L' : Int} {c : Addr} : putK (mk L S c P) (.inr "left") (.int L') = mk L' S c P := by
  have a : ¬ ((Sum.inr ("seed" : Str) : Key) = Sum.inr ("left" : Str)) := fun h => k1 h.symm
  have b : ¬ ((Sum.inr ("cells" : Str) : Key) = Sum.inr ("left" : Str)) := fun h => k2 h.symm
  have d : ¬ ((Sum.inr ("spot" : Str) : Key) = Sum.inr ("left" : Str)) := fun h => k3 h.symm
  unfold putK mk
  rw [if_pos (by simp)]
  simp only [List.map_cons, List.map_nil, if_true, if_neg a, if_neg b, if_neg d]
theorem put_spot {L S P P' : Int} {c : Addr} : putK (mk L S c P) (.inr "spot") (.int P') = mk L S c P' := by
  unfold putK mk
  rw [if_pos (by simp)]
  simp only [List.map_cons, List.map_nil, if_true, if_neg k3, if_neg k5, if_neg k6]
theorem made {L S P : Int} {c : Addr} : mergeK [] (mk L S c P) = mk L S c P := by
  unfold mk
  simp only [mergeK, List.foldl_cons, List.foldl_nil, putK, List.any_nil, List.any_cons, List.nil_append, List.cons_append, k1, k2, k3, k4, k5, k6, decide_false, Bool.or_false, Bool.false_eq_true, if_false]
theorem dg {H : Hp} {m : Addr} {kvs : List (Key × V)} {k : Str} {v : V} (h : H m = some (.dK kvs)) (e : valV kvs (Sum.inr k) = some v) : DGet H m (.str k) (some v) := e ▸ DGet.k (k := Sum.inr k) h
theorem dp {H : Hp} {m : Addr} {kvs kvs' : List (Key × V)} {k : Str} {v : V} (h : H m = some (.dK kvs)) (e : putK kvs (Sum.inr k) v = kvs') (l : kvs.length ≤ 1000) : DPut H m (.str k) v (upd H m (.dK kvs')) := e ▸ DPut.k (k := Sum.inr k) h (small1000 l)
theorem nlt {x : Int} {n : Nat} (h0 : 0 < x) (h : x < 2 ^ n) : x.natAbs < 2 ^ n := by
  have e : ((x.natAbs : Nat) : Int) = x := by omega
  have : ((x.natAbs : Nat) : Int) < ((2 ^ n : Nat) : Int) := by rw [e, Int.natCast_pow]; exact h
  exact Int.ofNat_lt.mp this
theorem at_int {cs : List Int} {i : Int} (h0 : 0 ≤ i) (h1 : i < cs.length) : ∃ z, cs[i.toNat]? = some z ∧ atI (cs.map V.int) i = some (.int z) := by
  obtain ⟨j, rfl⟩ : ∃ j : Nat, i = (j : Int) := ⟨i.toNat, by omega⟩
  have hl : j < cs.length := by omega
  refine ⟨cs[j], by rw [Int.toNat_natCast]; exact List.getElem?_eq_getElem hl, atI_nat ?_⟩
  rw [List.getElem?_map, List.getElem?_eq_getElem hl]
  rfl
structure DrAt (H : Hp) (m c : Addr) (n : Nat) : Prop where
  ex : ∃ (L S P : Int) (cs : List Int), H m = some (.dK (mk L S c P)) ∧ H c = some (.lst (cs.map V.int)) ∧ 1 ≤ cs.length ∧ cs.length ≤ 1000 ∧ 0 ≤ L ∧ 0 ≤ S ∧ S < 2147483647 ∧ 0 ≤ P ∧ P ≤ n
def spDraw : Sp := fun vs H Q _ => ∃ (m c : Addr) (n : Nat) (below : Int), vs = [.ref m, .int below] ∧ DrAt H m c n ∧ n ≤ 1000000 ∧ 0 < below ∧ below < 2 ^ 200 ∧
  ∀ (r : Int) (H' : Hp), 0 ≤ r → r < below → DrAt H' m c (n + 1) → St H H' → Q (.int r) H'
def spBegun (K : PySem.W.Frag) : Sp := fun vs H Q _ => ∃ (a : Addr) (ns : List Int) (i : Int), vs = [.ref a, .int i] ∧ SqL K H a (ns.map V.int) ∧ ns.length ≤ 63 ∧ 0 ≤ i ∧ i ≤ 1000 ∧
  ∀ (m c : Addr) (H' : Hp), DrAt H' m c 0 → St H H' → Q (.ref m) H'
theorem fresh {H : Hp} {o : HO} {Q : V → Hp → Prop} (h : ∀ p H1, H p = none → H1 p = some o → Same H H1 → Q (.ref p) H1) : ∀ p, H p = none → Q (.ref p) (upd H p o) := fun p np => h p _ np upd_same (sameNew np)
theorem updE {H H1 : Hp} {p : Addr} {o : HO} (e : upd H p o = H1) : H1 p = some o := by subst e; exact upd_same
theorem updS {H H1 : Hp} {p : Addr} {o : HO} (n : H p = none) (e : upd H p o = H1) : Same H H1 := by subst e; exact sameNew n
theorem cut_int (cs : List Int) (lo hi : Option Int) : ∃ ds : List Int, cutV (cs.map V.int) lo hi = ds.map V.int ∧ ds.length ≤ cs.length := by
  refine ⟨(cs.drop (HT.sIx cs.length 0 lo)).take (HT.sIx cs.length cs.length hi - HT.sIx cs.length 0 lo), ?_, ?_⟩
  · unfold cutV
    rw [List.length_map, List.map_take, List.map_drop]
  · rw [List.length_take, List.length_drop]
    omega

theorem sameSqt {K : PySem.W.Frag} {H H' : Hp} {a : Addr} {xs : List V} (e : Same H H') (h : SqT K H a xs) : SqT K H' a xs := by
  rcases h with (h | ⟨o, h⟩) | h
  · exact .inl (.inl (e _ _ h))
  · exact .inl (.inr ⟨o, e _ _ h⟩)
  · exact .inr h
theorem St.sqt {K : PySem.W.Frag} {H H' : Hp} {a : Addr} {xs : List V} (e : St H H') (h : SqT K H a xs) : SqT K H' a xs := by
  rcases h with (h | ⟨o, h⟩) | h
  · exact .inl (.inl (e _ _ h rfl))
  · exact .inl (.inr ⟨o, e _ _ h rfl⟩)
  · exact .inr h
theorem sameDr {H H' : Hp} {m c : Addr} {n : Nat} (e : Same H H') (h : DrAt H m c n) : DrAt H' m c n := by
  obtain ⟨L, S, P, cs, h1, h2, r⟩ := h.ex
  exact ⟨L, S, P, cs, e _ _ h1, e _ _ h2, r⟩
theorem DrAt.up {H : Hp} {m c : Addr} {n k : Nat} (h : DrAt H m c n) (l : n ≤ k) : DrAt H m c k := by
  obtain ⟨L, S, P, cs, h1, h2, a, b, d, e, f, g, i⟩ := h.ex
  exact ⟨L, S, P, cs, h1, h2, a, b, d, e, f, g, by omega⟩
theorem DrAt.cell {H : Hp} {m c : Addr} {n : Nat} (h : DrAt H m c n) : ∃ xs, H c = some (.lst xs) := by
  obtain ⟨L, S, P, cs, h1, h2, r⟩ := h.ex
  exact ⟨_, h2⟩
/-- a list that is no cell of the drawing changes -/
theorem DrAt.put {H : Hp} {m c a : Addr} {n : Nat} {xs ys : List V} (h : DrAt H m c n) (ha : H a = some (.lst xs)) (ne : c ≠ a) : DrAt (upd H a (.lst ys)) m c n := by
  obtain ⟨L, S, P, cs, h1, h2, r⟩ := h.ex
  exact ⟨L, S, P, cs, (upd_ne (ne_of h1 ha (by intro q; cases q))).trans h1, (upd_ne ne).trans h2, r⟩
theorem sz {n : Nat} (h : n ≤ 1000) : n ≤ sizeLine := Nat.le_of_lt (small1000 h)
/-- a list that is made by a comprehension: what stood stays -/
theorem sameApp {H H' : Hp} {D : Addr} {o : HO} (e : Same H H') (n : H D = none) : Same H (upd H' D o) := fun b u h => by
  rw [upd_ne (ne_of_none h n)]
  exact e _ _ h
/-- one item of a list of ints -/
theorem int_item {ns : List Int} {i : Nat} {y : V} (h : (ns.map V.int)[i]? = some y) : ∃ z, y = V.int z ∧ ns[i]? = some z := by
  rw [List.getElem?_map] at h
  cases e : ns[i]? with
  | none => rw [e] at h; cases h
  | some z => rw [e] at h; exact ⟨z, (Option.some.inj h).symm, rfl⟩
/-! ### data of ints, compared -/
theorem dpInts {K : PySem.W.Frag} {H : Hp} : ∀ ns : List Int, DpAll K H (ns.map V.int) (ns.map PyData.int)
  | [] => .nil
  | n :: r => .cons (.int n) (dpInts r)
theorem canInts : ∀ ns : List Int, PyData.canLayAll0 (ns.map PyData.int) = true
  | [] => by simp [PyData.canLayAll0]
  | n :: r => by
    simp only [List.map_cons, PyData.canLayAll0, PyData.canLay0, Bool.true_and]
    exact canInts r
theorem depInts : ∀ ns : List Int, PyData.depthAll (ns.map PyData.int) = 0
  | [] => by simp [PyData.depthAll]
  | n :: r => by
    simp only [List.map_cons, PyData.depthAll, PyData.depth, depInts r]
    rfl
theorem shT (ns : List Int) : SeqAt.shaped (.tuple (ns.map PyData.int)) = true := by
  unfold SeqAt.shaped
  simp only [PyData.canLay0, canInts, PyData.depth, depInts, Bool.true_and]
  decide
theorem shL (ns : List Int) : SeqAt.shaped (.list (ns.map PyData.int)) = true := by
  unfold SeqAt.shaped
  simp only [PyData.canLay0, canInts, PyData.depth, depInts, Bool.true_and]
  decide
theorem eqvInts : ∀ xs ys : List Int, PyData.eqvAll (xs.map PyData.int) (ys.map PyData.int) = decide (xs = ys)
  | [], [] => by simp [PyData.eqvAll]
  | [], y :: ys => by simp [PyData.eqvAll]
  | x :: xs, [] => by simp [PyData.eqvAll]
  | x :: xs, y :: ys => by
    simp only [List.map_cons, PyData.eqvAll, PyData.eqv, eqvInts xs ys]
    by_cases h : x = y <;> by_cases h' : xs = ys <;> simp [h, h']
theorem eqvT (xs ys : List Int) : PyData.eqv (.tuple (xs.map PyData.int)) (.tuple (ys.map PyData.int)) = decide (xs = ys) := by
  simp only [PyData.eqv]
  exact eqvInts xs ys
theorem eqvL (xs ys : List Int) : PyData.eqv (.list (xs.map PyData.int)) (.list (ys.map PyData.int)) = decide (xs = ys) := by
  simp only [PyData.eqv]
  exact eqvInts xs ys
/-- two tuples of ints, two lists of ints: == and != -/
theorem rNeT {K : PySem.W.Frag} {H : Hp} {a b : Addr} {xs ys : List Int} {Q : VK} (h1 : SqT K H a (xs.map V.int)) (h2 : SqT K H b (ys.map V.int)) (q : Q (.bl (!decide (xs = ys))) H) : rNeD K (.ref a) (.ref b) H Q :=
  ⟨_, _, .tup h1 (dpInts xs), .tup h2 (dpInts ys), shT _, shT _, by rw [eqvT]; exact q⟩
theorem rEqT {K : PySem.W.Frag} {H : Hp} {a b : Addr} {xs ys : List Int} {Q : VK} (h1 : SqT K H a (xs.map V.int)) (h2 : SqT K H b (ys.map V.int)) (q : Q (.bl (decide (xs = ys))) H) : rEqD K (.ref a) (.ref b) H Q :=
  ⟨_, _, .tup h1 (dpInts xs), .tup h2 (dpInts ys), shT _, shT _, by rw [eqvT]; exact q⟩
theorem rNeL {K : PySem.W.Frag} {H : Hp} {a b : Addr} {xs ys : List Int} {Q : VK} (h1 : SqL K H a (xs.map V.int)) (h2 : SqL K H b (ys.map V.int)) (q : Q (.bl (!decide (xs = ys))) H) : rNeD K (.ref a) (.ref b) H Q :=
  ⟨_, _, .lst h1 (dpInts xs), .lst h2 (dpInts ys), shL _, shL _, by rw [eqvL]; exact q⟩
theorem rEqL {K : PySem.W.Frag} {H : Hp} {a b : Addr} {xs ys : List Int} {Q : VK} (h1 : SqL K H a (xs.map V.int)) (h2 : SqL K H b (ys.map V.int)) (q : Q (.bl (decide (xs = ys))) H) : rEqD K (.ref a) (.ref b) H Q :=
  ⟨_, _, .lst h1 (dpInts xs), .lst h2 (dpInts ys), shL _, shL _, by rw [eqvL]; exact q⟩

/-- a if t else b, by values -/
theorem tIf_val {tA : TT} {ta tb : TE} {σ : L2.St} {H : Hp} {Q : VK} (c : Bool) (x y : V) (hA : ∀ R : Bool → Hp → Prop, R c H → tA σ H R) (ha : c = true → ∀ R : VK, R x H → ta σ H R) (hb : c = false → ∀ R : VK, R y H → tb σ H R) (q : Q (if c = true then x else y) H) : tIf tA ta tb σ H Q := by
  refine hA _ ?_
  cases c with
  | true =>
    refine iteT ?_
    exact ha rfl _ q
  | false =>
    refine iteF ?_
    exact hb rfl _ q

/-! ### comprehensions by functions on values -/
theorem lc_fm {K : PySem.W.Frag} {a : Addr} {xs : List V} {i : Nat} {tt : TT} {te : TE} {vs : List Nat} {σ : L2.St} {H1 : Hp} {D : Addr} {Qd : Hp → Prop} (p : V → Bool) (f : V → V)
    (hS : SqL K H1 a xs) (nD : H1 D = none) (hl : xs.length ≤ 1000) (hw : ∀ x, wipe ((wipe σ vs).set i (some x)) vs = wipe σ vs)
    (ht : ∀ x H' (R : Bool → Hp → Prop), x ∈ xs → Same H1 H' → R (p x) H' → tt ((wipe σ vs).set i (some x)) H' R)
    (he : ∀ x H' (R : VK), x ∈ xs → p x = true → Same H1 H' → R (f x) H' → te ((wipe σ vs).set i (some x)) H' R)
    (hd : ∀ H', Same H1 H' → H' D = some (.lst ((xs.filter p).map f)) → Qd H') :
    ∃ W : Nat → Nat → Hp → Prop, (∃ m, W 0 m (upd H1 D (.lst []))) ∧ ∀ i_1 m H, W i_1 m H →
      ((Itl K a).stop i_1 H ∧ Qd H) ∨ ((Itl K a).go i_1 H ∧ ∃ Nx : Hp → Prop, (∀ H', Nx H' → ∃ m', m' < m ∧ W (i_1 + 1) m' H') ∧ ∀ x H', (Itl K a).yld i_1 H x H' → gName i x (wipe σ vs) H' fun σ2 H2 => wipe σ2 vs = wipe σ vs ∧ tt σ2 H2 fun b H3 =>
        if b = true then te σ2 H3 fun y H4 => ∃ acc, H4 D = some (.lst acc) ∧ acc.length < sizeLine ∧ Nx (upd H4 D (.lst (acc ++ [y]))) else Nx H3) := by
  refine lc_list (K := K) (a := a) (xs := xs) (fun j H' => Same H1 H' ∧ H' D = some (.lst (((xs.take j).filter p).map f))) ⟨sameNew nD, upd_same⟩ (fun j H' _ h => h.1.seq hS) ?_ ?_
  · rintro j x H' hx ⟨sm, hD⟩
    have hj : j < xs.length := (List.getElem?_eq_some_iff.mp hx).1
    have mem : x ∈ xs := List.mem_of_getElem? hx
    have et : xs.take (j + 1) = xs.take j ++ [x] := by
      rw [List.take_succ, hx]
      rfl
    refine ⟨hw x, ht x H' _ mem sm ?_⟩
    by_cases q : p x = true
    · rw [q]
      refine iteT ?_
      refine he x H' _ mem q sm ?_
      refine ⟨_, hD, small1000 ?_, sameApp sm nD, ?_⟩
      · rw [List.length_map]
        exact Nat.le_trans (List.length_filter_le _ _) (by rw [List.length_take]; omega)
      · rw [et, List.filter_append, List.map_append]
        have : [x].filter p = [x] := by rw [List.filter_cons, if_pos q]; rfl
        rw [this]
        exact upd_same
    · have q' : p x = false := by
        cases h : p x with
        | true => exact absurd h q
        | false => rfl
      rw [q']
      refine iteF ?_
      refine ⟨sm, ?_⟩
      rw [et, List.filter_append]
      have : [x].filter p = [] := by rw [List.filter_cons, if_neg q]; rfl
      rw [this, List.append_nil]
      exact hD
  · rintro H' ⟨sm, hD⟩
    rw [List.take_length] at hD
    exact hd H' sm hD
theorem lc_fmr {lo : Int} {n : Nat} {i : Nat} {te : TE} {vs : List Nat} {σ : L2.St} {H1 : Hp} {D : Addr} {Qd : Hp → Prop} (f : Nat → V)
    (nD : H1 D = none) (hl : n ≤ 1000) (hw : ∀ x, wipe ((wipe σ vs).set i (some x)) vs = wipe σ vs)
    (he : ∀ (j : Nat) H' (R : VK), j < n → Same H1 H' → R (f j) H' → te ((wipe σ vs).set i (some (.int (lo + (j : Int))))) H' R)
    (hd : ∀ H', Same H1 H' → H' D = some (.lst ((List.range n).map f)) → Qd H') :
    ∃ W : Nat → Nat → Hp → Prop, (∃ m, W 0 m (upd H1 D (.lst []))) ∧ ∀ i_1 m H, W i_1 m H →
      ((Itr lo n).stop i_1 H ∧ Qd H) ∨ ((Itr lo n).go i_1 H ∧ ∃ Nx : Hp → Prop, (∀ H', Nx H' → ∃ m', m' < m ∧ W (i_1 + 1) m' H') ∧ ∀ x H', (Itr lo n).yld i_1 H x H' → gName i x (wipe σ vs) H' fun σ2 H2 => wipe σ2 vs = wipe σ vs ∧ tYes σ2 H2 fun b H3 =>
        if b = true then te σ2 H3 fun y H4 => ∃ acc, H4 D = some (.lst acc) ∧ acc.length < sizeLine ∧ Nx (upd H4 D (.lst (acc ++ [y]))) else Nx H3) := by
  refine lc_range (lo := lo) (n := n) (fun j H' => Same H1 H' ∧ H' D = some (.lst ((List.range j).map f))) ⟨sameNew nD, upd_same⟩ ?_ ?_
  · rintro j H' hj ⟨sm, hD⟩
    refine ⟨hw _, ?_⟩
    dsimp only [tYes]
    rw [if_pos rfl]
    refine he j H' _ hj sm ?_
    refine ⟨_, hD, small1000 (by rw [List.length_map, List.length_range]; omega), sameApp sm nD, ?_⟩
    rw [List.range_succ, List.map_append]
    exact upd_same
  · rintro H' ⟨sm, hD⟩
    exact hd H' sm hD
theorem ite_val {c : Bool} {ta tb : TE} {σ : L2.St} {H : Hp} {Q : VK} (x y : V) (ha : c = true → ∀ R : VK, R x H → ta σ H R) (hb : c = false → ∀ R : VK, R y H → tb σ H R) (q : Q (if c = true then x else y) H) : if c = true then ta σ H Q else tb σ H Q := by
  cases c with
  | true =>
    refine iteT ?_
    exact ha rfl _ q
  | false =>
    refine iteF ?_
    exact hb rfl _ q
/-! ### flags as values -/
def vn (n : Nat) : V := .int (n : Int)
theorem vn_at {xs : List Nat} {f : Nat} (h : f < xs.length) : atI (xs.map vn) (f : Int) = some (vn (gt xs f)) := by
  refine atI_nat ?_
  rw [List.getElem?_map, gt_some h]
  rfl
theorem vn_item {ns : List Nat} {i : Nat} {y : V} (h : (ns.map vn)[i]? = some y) : ∃ z, y = vn z ∧ ns[i]? = some z := by
  rw [List.getElem?_map] at h
  cases e : ns[i]? with
  | none => rw [e] at h; cases h
  | some z => rw [e] at h; exact ⟨z, (Option.some.inj h).symm, rfl⟩
theorem vn_int (ns : List Nat) : ns.map vn = (ns.map (fun n : Nat => (n : Int))).map V.int := by
  rw [List.map_map]
  rfl
theorem ixN_nat {n j : Nat} (h : j < n) : ixN n (j : Int) = some j := by
  unfold ixN
  rw [if_pos (by omega), if_pos (by omega), Int.toNat_natCast]
def pn (n : Nat) : PyData := .int (n : Int)
theorem dpN {K : PySem.W.Frag} {H : Hp} : ∀ ns : List Nat, DpAll K H (ns.map vn) (ns.map pn)
  | [] => .nil
  | n :: r => .cons (.int n) (dpN r)
theorem pn_int (ns : List Nat) : ns.map pn = (ns.map (fun n : Nat => (n : Int))).map PyData.int := by
  rw [List.map_map]
  rfl
theorem nat_map_inj : ∀ {xs ys : List Nat}, xs.map (fun n : Nat => (n : Int)) = ys.map (fun n : Nat => (n : Int)) → xs = ys
  | [], [], _ => rfl
  | [], _ :: _, h => by simp at h
  | _ :: _, [], h => by simp at h
  | x :: xs, y :: ys, h => by
    simp only [List.map_cons, List.cons.injEq] at h
    rw [show x = y by omega, nat_map_inj h.2]
theorem eqvN (xs ys : List Nat) : PyData.eqvAll (xs.map pn) (ys.map pn) = decide (xs = ys) := by
  rw [pn_int, pn_int, eqvInts]
  by_cases h : xs = ys
  · rw [decide_eq_true h, decide_eq_true (by rw [h])]
  · rw [decide_eq_false h, decide_eq_false (fun q => h (nat_map_inj q))]
theorem shLN (ns : List Nat) : SeqAt.shaped (.list (ns.map pn)) = true := by rw [pn_int]; exact shL _
theorem shTN (ns : List Nat) : SeqAt.shaped (.tuple (ns.map pn)) = true := by rw [pn_int]; exact shT _
theorem rEqLN {K : PySem.W.Frag} {H : Hp} {a b : Addr} {xs ys : List Nat} {Q : VK} (h1 : SqL K H a (xs.map vn)) (h2 : SqL K H b (ys.map vn)) (q : Q (.bl (decide (xs = ys))) H) : rEqD K (.ref a) (.ref b) H Q :=
  ⟨_, _, .lst h1 (dpN xs), .lst h2 (dpN ys), shLN _, shLN _, by simp only [PyData.eqv]; rw [eqvN]; exact q⟩
theorem rNeLN {K : PySem.W.Frag} {H : Hp} {a b : Addr} {xs ys : List Nat} {Q : VK} (h1 : SqL K H a (xs.map vn)) (h2 : SqL K H b (ys.map vn)) (q : Q (.bl (!decide (xs = ys))) H) : rNeD K (.ref a) (.ref b) H Q :=
  ⟨_, _, .lst h1 (dpN xs), .lst h2 (dpN ys), shLN _, shLN _, by simp only [PyData.eqv]; rw [eqvN]; exact q⟩
theorem rEqTN {K : PySem.W.Frag} {H : Hp} {a b : Addr} {xs ys : List Nat} {Q : VK} (h1 : SqT K H a (xs.map vn)) (h2 : SqT K H b (ys.map vn)) (q : Q (.bl (decide (xs = ys))) H) : rEqD K (.ref a) (.ref b) H Q :=
  ⟨_, _, .tup h1 (dpN xs), .tup h2 (dpN ys), shTN _, shTN _, by simp only [PyData.eqv]; rw [eqvN]; exact q⟩
theorem rNeTN {K : PySem.W.Frag} {H : Hp} {a b : Addr} {xs ys : List Nat} {Q : VK} (h1 : SqT K H a (xs.map vn)) (h2 : SqT K H b (ys.map vn)) (q : Q (.bl (!decide (xs = ys))) H) : rNeD K (.ref a) (.ref b) H Q :=
  ⟨_, _, .tup h1 (dpN xs), .tup h2 (dpN ys), shTN _, shTN _, by simp only [PyData.eqv]; rw [eqvN]; exact q⟩

end Toy
namespace Toy
open PySem L2
local macro_rules | `(tactic| walk_at "rd1") => `(tactic| first
  | with_reducible assumption
  | refine ⟨_, rfl, ?_⟩
  | refine ⟨_, _, rfl, rfl, ?_⟩
  | refine ⟨_, _, rfl, ?_⟩
  | refine ⟨_, _, rfl, dg (by assumption) mk_left, ?_⟩
  | refine ⟨_, _, rfl, dg (by assumption) mk_seed, ?_⟩
  | refine ⟨_, _, rfl, dg (by assumption) mk_cells, ?_⟩
  | refine ⟨_, _, rfl, dg (by assumption) mk_spot, ?_⟩
  | refine ⟨_, _, rfl, .inl (SqL.of (by assumption)), ?_⟩
  | refine ⟨_, _, rfl, .inr (SqT.of (by assumption)), ?_⟩
  | refine ⟨_, _, rfl, .inl (by assumption), ?_⟩
  | refine ⟨_, _, rfl, .inr (by assumption), ?_⟩
  | refine ⟨_, _, _, _, rfl, rfl, SqL.of (by assumption), (by assumption), ?_⟩
  | refine ⟨_, _, _, _, rfl, rfl, SqT.of (by assumption), (by assumption), ?_⟩
  | refine ⟨_, _, _, _, rfl, rfl, (by assumption), (atI_nat (j := 0) rfl), ?_⟩
  | refine ⟨_, _, _, _, rfl, rfl, (by assumption), (atI_nat (j := 1) rfl), ?_⟩
  | refine ⟨_, _, _, _, _, rfl, .ty _, .base (.int _), kit_ty (r := true) (by decide +kernel), ?_⟩
  | refine ⟨_, _, _, _, _, rfl, .ty _, .base (.int _), kit_ty (r := false) (by decide +kernel), ?_⟩
  | refine ⟨_, _, _, _, _, rfl, .ty _, .base (.tup (by assumption)), kit_ty (r := true) (by decide +kernel), ?_⟩
  | refine ⟨_, _, _, _, _, rfl, .ty _, .base (.bl _), kit_ty (r := true) (by decide +kernel), ?_⟩
  | refine .inl ⟨_, rfl, ?_⟩
  | refine And.intro (wide_mul (a := 300) (b := 300) (by assumption) (by assumption) (by decide) (by decide) (by decide)) ?_
  | refine And.intro (sz (Nat.le_of_ble_eq_true rfl)) ?_
  | refine And.intro rfl ?_
  | refine And.intro (show (_ : Int) < _ from by first | assumption | omega | decide +kernel) ?_
  | refine And.intro (show (_ : Int) ≤ _ from by first | assumption | omega | decide +kernel) ?_
  | refine And.intro (show _ ≠ _ from by first | assumption | omega) ?_
  | refine And.intro ⟨by decide, by decide, by decide⟩ ?_
  | refine And.intro (.inl (show (_ : Int) < _ ∧ (_ : Int) < _ from ⟨by omega, by omega⟩)) ?_
  | refine And.intro (.inr (show (_ : Int) < _ ∧ (_ : Int) < _ from ⟨by omega, by omega⟩)) ?_
  | refine And.intro (show (_ : Int) < _ ∧ _ from ⟨by omega, by omega⟩) ?_
  | refine And.intro (by assumption) ?_
  | refine ⟨_, _, rfl, (by assumption), ?_⟩
  | refine ⟨_, _, _, _, rfl, rfl, (by assumption), (by assumption), sz (by first | omega | (simp only [List.length_map, List.length_append, List.length_cons, List.length_nil]; omega)), ?_⟩
  | refine iteF ?_
  | refine iteT ?_)
local macro_rules | `(tactic| walk_at "rd") => `(tactic| repeat walk_at "rd1")

def top (i : Nat) : Stmt := PySem.Challenge.pw_flagfloors_k04_numbered_anew.main.body.getD i (.Pass ⟨0, 0, 0, 0⟩)
abbrev s_reached : Stmt := top 1
theorem sc_reached : FnScope ["changes", "flag", "listing", "listed", "at", "change", "after"] ["changes", "flag"] (defScope s_reached) := ⟨rfl, rfl, rfl, by decide +kernel, rfl, by decide +kernel, by decide +kernel⟩
abbrev s_renumbered : Stmt := top 3
theorem sc_renumbered : FnScope ["pattern", "listing", "numbers", "number", "flag", "s0", "s1", "s2", "p", "q", "f"] ["pattern", "listing"] (defScope s_renumbered) := ⟨rfl, rfl, rfl, by decide +kernel, rfl, by decide +kernel, by decide +kernel⟩
abbrev s_walk : Stmt := top 4
theorem sc_walk : FnScope ["pattern", "flag"] ["pattern", "flag"] (defScope s_walk) := ⟨rfl, rfl, rfl, by decide +kernel, rfl, by decide +kernel, by decide +kernel⟩
abbrev s_law_begun : Stmt := top 6
theorem sc_law_begun : FnScope ["script", "k", "cells", "great", "cell", "seed"] ["script", "k"] (defScope s_law_begun) := ⟨rfl, rfl, rfl, by decide +kernel, rfl, by decide +kernel, by decide +kernel⟩
abbrev s_law_draw : Stmt := top 7
theorem sc_law_draw : FnScope ["m", "below", "found", "spot", "cells", "extra", "cell", "blend"] ["m", "below"] (defScope s_law_draw) := ⟨rfl, rfl, rfl, by decide +kernel, rfl, by decide +kernel, by decide +kernel⟩
abbrev s_law_of : Stmt := top 8
theorem sc_law_of : FnScope ["m", "some"] ["m", "some"] (defScope s_law_of) := ⟨rfl, rfl, rfl, by decide +kernel, rfl, by decide +kernel, by decide +kernel⟩
abbrev s_law_put : Stmt := top 9
theorem sc_law_put : FnScope ["rows", "word", "base", "first", "third", "entry", "k"] ["rows", "word"] (defScope s_law_put) := ⟨rfl, rfl, rfl, by decide +kernel, rfl, by decide +kernel, by decide +kernel⟩
abbrev s_law_frame : Stmt := top 10
theorem sc_law_frame : FnScope ["m", "most", "rows", "free", "turn", "word", "size", "base", "link", "flag", "k", "other"] ["m", "most"] (defScope s_law_frame) := ⟨rfl, rfl, rfl, by decide +kernel, rfl, by decide +kernel, by decide +kernel⟩
abbrev s_law_class : Stmt := top 11
theorem sc_law_class : FnScope ["one", "other", "flag", "found", "k", "far"] ["one", "other", "flag"] (defScope s_law_class) := ⟨rfl, rfl, rfl, by decide +kernel, rfl, by decide +kernel, by decide +kernel⟩
abbrev s_law_round : Stmt := top 12
theorem sc_law_round : FnScope ["one", "other", "flag", "place", "count", "k"] ["one", "other", "flag"] (defScope s_law_round) := ⟨rfl, rfl, rfl, by decide +kernel, rfl, by decide +kernel, by decide +kernel⟩
abbrev s_law_orders : Stmt := top 13
theorem sc_law_orders : FnScope ["m", "one", "other", "wide", "found", "flag", "order", "far"] ["m", "one", "other", "wide"] (defScope s_law_orders) := ⟨rfl, rfl, rfl, by decide +kernel, rfl, by decide +kernel, by decide +kernel⟩
abbrev s_law_pattern : Stmt := top 14
theorem sc_law_pattern : FnScope ["m", "most", "wide", "s0", "s1", "s2", "p"] ["m", "most", "wide"] (defScope s_law_pattern) := ⟨rfl, rfl, rfl, by decide +kernel, rfl, by decide +kernel, by decide +kernel⟩
abbrev s_law_walk : Stmt := top 15
theorem sc_law_walk : FnScope ["value", "flag", "found", "seen", "one", "k", "s", "far"] ["value", "flag"] (defScope s_law_walk) := ⟨rfl, rfl, rfl, by decide +kernel, rfl, by decide +kernel, by decide +kernel⟩
abbrev s_law_listed : Stmt := top 16
theorem sc_law_listed : FnScope ["value", "listing", "places", "flag", "k", "rows", "s", "p", "q"] ["value", "listing"] (defScope s_law_listed) := ⟨rfl, rfl, rfl, by decide +kernel, rfl, by decide +kernel, by decide +kernel⟩
abbrev s_law_listing : Stmt := top 17
theorem sc_law_listing : FnScope ["m", "size", "left", "found", "k", "flag", "one"] ["m", "size"] (defScope s_law_listing) := ⟨rfl, rfl, rfl, by decide +kernel, rfl, by decide +kernel, by decide +kernel⟩
abbrev s_law_is_plain : Stmt := top 18
theorem sc_law_is_plain : FnScope ["told", "due", "one"] ["told", "due"] (defScope s_law_is_plain) := ⟨rfl, rfl, rfl, by decide +kernel, rfl, by decide +kernel, by decide +kernel⟩
abbrev s_law : Stmt := top 19
theorem sc_law : FnScope ["script", "k", "m", "value", "size", "one", "two", "moved", "both", "place", "back", "flag", "due", "far"] ["script"] (defScope s_law) := ⟨rfl, rfl, rfl, by decide +kernel, rfl, by decide +kernel, by decide +kernel⟩
structure Txt (K : PySem.W.Frag) (mg : Str → Option Value) where
  a_reached : Addr
  d_reached : FuncData
  f_reached : Fun K "reached" "reached" s_reached a_reached d_reached
  g_reached : mg "reached" = some (.ref a_reached)
  k_reached : PySem.W.keepIn K (.ref a_reached) = true
  b_reached : Binds K d_reached ["changes", "flag"] []
  a_renumbered : Addr
  d_renumbered : FuncData
  f_renumbered : Fun K "renumbered" "renumbered" s_renumbered a_renumbered d_renumbered
  g_renumbered : mg "renumbered" = some (.ref a_renumbered)
  k_renumbered : PySem.W.keepIn K (.ref a_renumbered) = true
  b_renumbered : Binds K d_renumbered ["pattern", "listing"] []
  a_walk : Addr
  d_walk : FuncData
  f_walk : Fun K "walk" "walk" s_walk a_walk d_walk
  g_walk : mg "walk" = some (.ref a_walk)
  k_walk : PySem.W.keepIn K (.ref a_walk) = true
  b_walk : Binds K d_walk ["pattern", "flag"] []
  a_law_begun : Addr
  d_law_begun : FuncData
  f_law_begun : Fun K "_law_begun" "_law_begun" s_law_begun a_law_begun d_law_begun
  g_law_begun : mg "_law_begun" = some (.ref a_law_begun)
  k_law_begun : PySem.W.keepIn K (.ref a_law_begun) = true
  b_law_begun : Binds K d_law_begun ["script", "k"] []
  a_law_draw : Addr
  d_law_draw : FuncData
  f_law_draw : Fun K "_law_draw" "_law_draw" s_law_draw a_law_draw d_law_draw
  g_law_draw : mg "_law_draw" = some (.ref a_law_draw)
  k_law_draw : PySem.W.keepIn K (.ref a_law_draw) = true
  b_law_draw : Binds K d_law_draw ["m", "below"] []
  a_law_of : Addr
  d_law_of : FuncData
  f_law_of : Fun K "_law_of" "_law_of" s_law_of a_law_of d_law_of
  g_law_of : mg "_law_of" = some (.ref a_law_of)
  k_law_of : PySem.W.keepIn K (.ref a_law_of) = true
  b_law_of : Binds K d_law_of ["m", "some"] []
  a_law_put : Addr
  d_law_put : FuncData
  f_law_put : Fun K "_law_put" "_law_put" s_law_put a_law_put d_law_put
  g_law_put : mg "_law_put" = some (.ref a_law_put)
  k_law_put : PySem.W.keepIn K (.ref a_law_put) = true
  b_law_put : Binds K d_law_put ["rows", "word"] []
  a_law_frame : Addr
  d_law_frame : FuncData
  f_law_frame : Fun K "_law_frame" "_law_frame" s_law_frame a_law_frame d_law_frame
  g_law_frame : mg "_law_frame" = some (.ref a_law_frame)
  k_law_frame : PySem.W.keepIn K (.ref a_law_frame) = true
  b_law_frame : Binds K d_law_frame ["m", "most"] []
  a_law_class : Addr
  d_law_class : FuncData
  f_law_class : Fun K "_law_class" "_law_class" s_law_class a_law_class d_law_class
  g_law_class : mg "_law_class" = some (.ref a_law_class)
  k_law_class : PySem.W.keepIn K (.ref a_law_class) = true
  b_law_class : Binds K d_law_class ["one", "other", "flag"] []
  a_law_round : Addr
  d_law_round : FuncData
  f_law_round : Fun K "_law_round" "_law_round" s_law_round a_law_round d_law_round
  g_law_round : mg "_law_round" = some (.ref a_law_round)
  k_law_round : PySem.W.keepIn K (.ref a_law_round) = true
  b_law_round : Binds K d_law_round ["one", "other", "flag"] []
  a_law_orders : Addr
  d_law_orders : FuncData
  f_law_orders : Fun K "_law_orders" "_law_orders" s_law_orders a_law_orders d_law_orders
  g_law_orders : mg "_law_orders" = some (.ref a_law_orders)
  k_law_orders : PySem.W.keepIn K (.ref a_law_orders) = true
  b_law_orders : Binds K d_law_orders ["m", "one", "other", "wide"] []
  a_law_pattern : Addr
  d_law_pattern : FuncData
  f_law_pattern : Fun K "_law_pattern" "_law_pattern" s_law_pattern a_law_pattern d_law_pattern
  g_law_pattern : mg "_law_pattern" = some (.ref a_law_pattern)
  k_law_pattern : PySem.W.keepIn K (.ref a_law_pattern) = true
  b_law_pattern : Binds K d_law_pattern ["m", "most", "wide"] []
  a_law_walk : Addr
  d_law_walk : FuncData
  f_law_walk : Fun K "_law_walk" "_law_walk" s_law_walk a_law_walk d_law_walk
  g_law_walk : mg "_law_walk" = some (.ref a_law_walk)
  k_law_walk : PySem.W.keepIn K (.ref a_law_walk) = true
  b_law_walk : Binds K d_law_walk ["value", "flag"] []
  a_law_listed : Addr
  d_law_listed : FuncData
  f_law_listed : Fun K "_law_listed" "_law_listed" s_law_listed a_law_listed d_law_listed
  g_law_listed : mg "_law_listed" = some (.ref a_law_listed)
  k_law_listed : PySem.W.keepIn K (.ref a_law_listed) = true
  b_law_listed : Binds K d_law_listed ["value", "listing"] []
  a_law_listing : Addr
  d_law_listing : FuncData
  f_law_listing : Fun K "_law_listing" "_law_listing" s_law_listing a_law_listing d_law_listing
  g_law_listing : mg "_law_listing" = some (.ref a_law_listing)
  k_law_listing : PySem.W.keepIn K (.ref a_law_listing) = true
  b_law_listing : Binds K d_law_listing ["m", "size"] []
  a_law_is_plain : Addr
  d_law_is_plain : FuncData
  f_law_is_plain : Fun K "_law_is_plain" "_law_is_plain" s_law_is_plain a_law_is_plain d_law_is_plain
  g_law_is_plain : mg "_law_is_plain" = some (.ref a_law_is_plain)
  k_law_is_plain : PySem.W.keepIn K (.ref a_law_is_plain) = true
  b_law_is_plain : Binds K d_law_is_plain ["told", "due"] []
  a_law : Addr
  d_law : FuncData
  f_law : Fun K "law" "law" s_law a_law d_law
  g_law : mg "law" = some (.ref a_law)
  k_law : PySem.W.keepIn K (.ref a_law) = true
  b_law : Binds K d_law ["script"] []
  n_bool : mg "bool" = none
  n_enumerate : mg "enumerate" = none
  n_int : mg "int" = none
  n_isinstance : mg "isinstance" = none
  n_len : mg "len" = none
  n_list : mg "list" = none
  n_max : mg "max" = none
  n_min : mg "min" = none
  n_range : mg "range" = none
  n_sorted : mg "sorted" = none
  n_tuple : mg "tuple" = none
section
variable {P : Program} {w : World} {K : PySem.W.Frag} {mg : Str → Option Value} {base : Heap}
theorem ok_law_draw (T : Txt K mg) : FnOk P w K mg base CX0 1 T.a_law_draw T.d_law_draw ["m", "below"] spDraw := by
  refine T.f_law_draw.ok sc_law_draw (fun vs H Q E h => ?_) (fun cdv A outer s H vs Q E hr h => ?_)
  · obtain ⟨m, c, n, b, rfl, _⟩ := h
    rfl
  · obtain ⟨m, c, n, below, rfl, ⟨L, S, P, cs, hm, hc, l1, l2, L0, S0, S1, P0, P1⟩, hn, b0, b1, k⟩ := h
    have hu := hu_of hr
    have nd := sc_law_draw.nd
    refine ⟨_, (pss_cons (ps_if (pt_cmpR op_gt (pe_dget hu (pv 0) pe_str (fun _ _ => rfl)) pe_int (nomark _)) (pss_cons (ps_set (i := 2) nd rfl (Or.inl rfl) (pe_op op_mod (pe_callTy call_int1 (by rfl) T.n_int (by decide +kernel) (pa_cons (pe_dget hu (pv 0) pe_str (fun _ _ => rfl)) pa_nil)) (pv 1)))
  (pss_cons (ps_dput hu (pv 0) pe_str (pe_op op_fdivW (pe_dget hu (pv 0) pe_str (fun _ _ => rfl)) (pv 1)) rfl)
  (pss_one (ps_ret (pv 2))))) pss_nil)
  (pss_cons (ps_set (i := 3) nd rfl (Or.inl rfl) (pe_dget hu (pv 0) pe_str (fun _ _ => rfl)))
  (pss_cons (ps_dput hu (pv 0) pe_str (pe_op op_add (pv 3) pe_int) rfl)
  (pss_cons (ps_par (i := 4) (j := 5) (by rfl) nd rfl rfl (by decide) rfl rfl (pa_cons (pe_dget hu (pv 0) pe_str (fun _ _ => rfl)) (pa_cons (pe_op op_add (pe_dget hu (pv 0) pe_str (fun _ _ => rfl)) (pe_op op_mul (pe_op op_mul pe_int (pv 3)) (pv 3))) pa_nil)) (by rfl))
  (pss_cons (ps_set (i := 6) nd rfl (Or.inl rfl) (pe_ix ix_list (pv 4) (pe_op op_mod (pe_callTy call_int1 (by rfl) T.n_int (by decide +kernel) (pa_cons (pv 3) pa_nil)) (pe_callB call_len_seq (by rfl) T.n_len (by decide +kernel) (pa_cons (pv 4) pa_nil))) (fun _ _ => rfl)))
  (pss_cons (ps_set (i := 7) nd rfl (Or.inl rfl) (pe_op op_mod (pe_callTy call_int1 (by rfl) T.n_int (by decide +kernel) (pa_cons (pe_op op_add (pe_op op_mul (pv 6) (pe_op op_add (pe_op op_mul pe_int (pv 3)) pe_int)) (pv 5)) pa_nil)) pe_int))
  (pss_cons (ps_set (i := 7) nd rfl (Or.inl rfl) (pe_op op_mod (pe_callTy call_int1 (by rfl) T.n_int (by decide +kernel) (pa_cons (pe_op op_add (pe_op op_add (pe_op op_mul (pv 7) (pv 7)) (pe_op op_mul pe_int (pv 3))) (pe_dget hu (pv 0) pe_str (fun _ _ => rfl))) pa_nil)) pe_int))
  (pss_one (ps_ret (pe_op op_mod (pe_op op_fdiv (pe_op op_mod (pe_callTy call_int1 (by rfl) T.n_int (by decide +kernel) (pa_cons (pe_op op_add (pe_op op_mul (pv 7) pe_int) (pv 3)) pa_nil)) pe_int) pe_int) (pv 1))))))))))), ?_⟩
    walk_at "rd"
    refine ite2 (fun hL => ?_) (fun hL => ?_)
    · have hL : 0 < L := of_decide_eq_true hL
      have q0 : 0 ≤ L / below := Int.ediv_nonneg (by omega) (by omega)
      walk_at "rd"
      refine ⟨wide_div (b := 200) b0 (nlt b0 b1) (by decide) (by decide), ?_⟩
      walk_at "rd"
      refine ⟨m, _, rfl, dp hm put_left (by show 4 ≤ 1000; decide), ?_⟩
      walk_at "rd"
      have ne : c ≠ m := ne_of hc hm (by intro z; cases z)
      refine k _ _ (Int.emod_nonneg _ (by omega)) (Int.emod_lt_of_pos _ b0) ⟨_, _, _, _, upd_same, (upd_ne ne).trans hc, l1, l2, q0, S0, S1, P0, by omega⟩ fun b o e d => ?_
      rw [upd_ne]
      · exact e
      · intro z
        rw [z, hm] at e
        cases e
        cases d
    · walk_at "rd"
      refine ⟨m, _, rfl, dp hm put_spot (by show 4 ≤ 1000; decide), ?_⟩
      have ne : c ≠ m := ne_of hc hm (by intro z; cases z)
      have hm1 : upd H m (.dK (mk L S c (P + 1))) m = some (.dK (mk L S c (P + 1))) := upd_same
      have hc1 : upd H m (.dK (mk L S c (P + 1))) c = some (.lst (cs.map V.int)) := (upd_ne ne).trans hc
      have st : St H (upd H m (.dK (mk L S c (P + 1)))) := fun b o e d => by
        rw [upd_ne]
        · exact e
        · intro z
          rw [z, hm] at e
          cases e
          cases d
      revert hm1 hc1 st
      generalize upd H m (.dK (mk L S c (P + 1))) = H1
      intro hm1 hc1 st
      have hl : ((cs.map V.int).length : Int) = cs.length := by rw [List.length_map]
      obtain ⟨z, hz, hat⟩ := at_int (cs := cs) (i := P % ((cs.map V.int).length : Int)) (Int.emod_nonneg _ (by omega)) (by rw [hl]; exact Int.emod_lt_of_pos _ (by omega))
      walk_at "rd"
      exact k _ _ (Int.emod_nonneg _ (by omega)) (Int.emod_lt_of_pos _ b0) ⟨_, _, _, _, hm1, hc1, l1, l2, L0, S0, S1, by omega, by omega⟩ st
theorem ok_law_begun (T : Txt K mg) : FnOk P w K mg base CX0 1 T.a_law_begun T.d_law_begun ["script", "k"] (spBegun K) := by
  refine T.f_law_begun.ok sc_law_begun (fun vs H Q E h => ?_) (fun cdv A outer s H vs Q E hr h => ?_)
  · obtain ⟨a, ns, i, rfl, _⟩ := h
    rfl
  · obtain ⟨a, ns, i, rfl, hS, hn, i0, i1, k⟩ := h
    have hu := hu_of hr
    have nd := sc_law_begun.nd
    refine ⟨_, (pss_cons (ps_set (i := 2) nd rfl (Or.inl rfl) (pe_op op_cat (pe_slice sl_list (pv 0) (po_some (pv 1)) po_none) (pe_slice sl_list (pv 0) po_none (po_some (pv 1)))))
  (pss_cons (ps_setLc (i := 3) (own := [("cell", 4)]) (g := gName 4) (tt := _) rfl nd rfl rfl (sw_true rfl rfl rfl (by decide +kernel)) (pi_list (pv 2)) (blkOk_by (own := [("cell", 4)]) (N := ["script", "k", "cells", "great", "cell", "seed"]) (sc := defScope s_law_begun) (by decide +kernel)) (fun _ _ _ _ _ => pg_name (i := 4) nd rfl (Or.inl rfl)) (fun _ _ _ _ _ => (pts_one (pt_cmpR op_ge (pv 4) (pe_op op_pow pe_int pe_int) (nomark _)))) (fun _ _ _ _ _ => (pv 4)))
  (pss_cons (ps_set (i := 5) nd rfl (Or.inl rfl) (pe_op op_add pe_int (pv 1)))
  (pss_cons (ps_for PassesOwn.never rfl (pi_list (pv 2)) (pg_name (i := 4) nd rfl (Or.inl rfl))
  (pss_one (ps_set (i := 5) nd rfl (Or.inl rfl) (pe_op op_mod (pe_callTy call_int1 (by rfl) T.n_int (by decide +kernel) (pa_cons (pe_op op_add (pe_op op_mul (pv 5) pe_int) (pv 4)) pa_nil)) pe_int))))
  (pss_one (ps_ret (pe_disp (pps_cons pe_str (pe_ifExp (pt_cmpR (op_neD hr.units) (pv 3) (pe_lst pa_nil) (nomark _)) (pe_ix ix_list (pv 3) pe_int (fun _ _ => rfl)) pe_int) (pps_cons pe_str (pv 5) (pps_cons pe_str (pe_op op_cat (pv 2) (pe_lst (pa_cons (pe_op op_add (pe_op op_mul pe_int (pv 1)) pe_int) pa_nil))) (pps_cons pe_str pe_int pps_nil)))) (by rfl) (by rfl) (fun z => by cases z) (by decide)))))))), ?_⟩
    walk_at "rd"
    intro p1 np1
    generalize e1 : upd H p1 _ = H1
    have hp1 := updE e1
    have s1 := updS np1 e1
    first | replace hS := s1 _ _ hS | replace hS := s1.seq hS | replace hS := sameSqt s1 hS | replace hS := sameDr s1 hS | replace hS := Rows.same s1 hS | replace hS := Sq.same s1 hS
    walk_at "rd"
    intro p2 np2
    generalize e2 : upd H1 p2 _ = H2
    have hp2 := updE e2
    have s2 := updS np2 e2
    first | replace hp1 := s2 _ _ hp1 | replace hp1 := s2.seq hp1 | replace hp1 := sameSqt s2 hp1 | replace hp1 := sameDr s2 hp1 | replace hp1 := Rows.same s2 hp1 | replace hp1 := Sq.same s2 hp1
    first | replace hS := s2 _ _ hS | replace hS := s2.seq hS | replace hS := sameSqt s2 hS | replace hS := sameDr s2 hS | replace hS := Rows.same s2 hS | replace hS := Sq.same s2 hS
    obtain ⟨ds, hds, ld⟩ := cut_int ns (some i) none
    obtain ⟨fs, hfs, lf⟩ := cut_int ns none (some i)
    rw [hds] at hp1
    rw [hfs] at hp2
    walk_at "rd"
    intro p3 np3
    generalize e3 : upd H2 p3 _ = H3
    have hp3 := updE e3
    have s3 := updS np3 e3
    rw [← List.map_append] at hp3
    have lc : (ds ++ fs).length ≤ 200 := by rw [List.length_append]; omega
    generalize ds ++ fs = cs at hp3 lc
    walk_at "rd"
    refine ⟨⟨_, SqL.of hp3⟩, fun D nD => lc_list (K := K) (a := p3) (xs := cs.map V.int) (fun j H' => ∃ gs : List Int, H' D = some (.lst (gs.map V.int)) ∧ (∀ g ∈ gs, 0 < g) ∧ gs.length ≤ j ∧ Same H3 H')
      ⟨[], upd_same, by simp, Nat.le_refl _, sameApp (Same.refl H3) nD⟩ (fun j H' _ ⟨_, _, _, _, sm⟩ => SqL.of (sm _ _ hp3)) ?_ ?_⟩
    · rintro j x H' hx ⟨gs, g1, g2, g3, sm⟩
      obtain ⟨z, rfl, hz⟩ := int_item hx
      have lj : j < cs.length := (List.getElem?_eq_some_iff.mp hz).1
      refine ⟨rfl, ?_⟩
      walk_at "rd"
      refine ite2 (fun h => ?_) (fun h => ?_)
      · have h1 := of_decide_eq_true h
        walk_at "rd"
        refine ⟨_, g1, small1000 (by rw [List.length_map]; omega), gs ++ [z], ?_, ?_, ?_, sameApp sm nD⟩
        · rw [List.map_append]
          exact upd_same
        · intro g hg
          rcases List.mem_append.mp hg with q | q
          · exact g2 g q
          · rw [List.mem_singleton.mp q]
            have h2 : (0 : Int) < 10 ^ (18 : Int).toNat := by decide
            omega
        · rw [List.length_append]
          show gs.length + 1 ≤ j + 1
          omega
      · exact ⟨gs, g1, g2, by omega, sm⟩
    rintro H4 ⟨gs, g1, g2, g3, s4⟩
    first | replace hp3 := s4 _ _ hp3 rfl | replace hp3 := s4 _ _ hp3 | replace hp3 := s4.seq hp3 | replace hp3 := s4.sqt hp3 | replace hp3 := sameSqt s4 hp3 | replace hp3 := sameDr s4 hp3 | replace hp3 := Rows.st s4 hp3 | replace hp3 := Rows.same s4 hp3 | replace hp3 := Sq.st s4 hp3 | replace hp3 := Sq.same s4 hp3
    walk_at "rd"
    refine ⟨⟨_, SqL.of hp3⟩, for_list (K := K) (a := p3) (xs := cs.map V.int) (fun j σ H' => ∃ (v : Option V) (z : Int), σ = [some (.ref a), some (.int i), some (.ref p3), some (.ref D), v, some (.int z)] ∧ Same H4 H' ∧ 0 ≤ z ∧ (0 < j → z < 2147483647) ∧ (cs = [] → z < 2147483647))
      ⟨none, 71 + i, rfl, Same.refl _, by omega, fun h => absurd h (by decide), fun _ => by omega⟩ (fun j σ H' _ ⟨_, _, _, sm, _⟩ => SqL.of (sm _ _ hp3)) ?_ ?_⟩
    · rintro j x σ H' hx ⟨v, z, rfl, sm, z0, z1, z2⟩
      obtain ⟨y, rfl, hy⟩ := int_item hx
      have lj : j < cs.length := (List.getElem?_eq_some_iff.mp hy).1
      walk_at "rd"
      first
        | (intro _; omega)
        | exact ⟨fun _ => by omega, fun _ => by omega⟩
    rintro σ H5 ⟨v, z, rfl, s5, z0, z1, z2⟩
    have z3 : z < 2147483647 := by
      rw [List.length_map] at z1
      by_cases hc : cs = []
      · exact z2 hc
      · exact z1 (List.length_pos_iff.mpr hc)
    first | replace hp3 := s5 _ _ hp3 rfl | replace hp3 := s5 _ _ hp3 | replace hp3 := s5.seq hp3 | replace hp3 := s5.sqt hp3 | replace hp3 := sameSqt s5 hp3 | replace hp3 := sameDr s5 hp3 | replace hp3 := Rows.st s5 hp3 | replace hp3 := Rows.same s5 hp3 | replace hp3 := Sq.st s5 hp3 | replace hp3 := Sq.same s5 hp3
    first | replace g1 := s5 _ _ g1 rfl | replace g1 := s5 _ _ g1 | replace g1 := s5.seq g1 | replace g1 := s5.sqt g1 | replace g1 := sameSqt s5 g1 | replace g1 := sameDr s5 g1 | replace g1 := Rows.st s5 g1 | replace g1 := Rows.same s5 g1 | replace g1 := Sq.st s5 g1 | replace g1 := Sq.same s5 g1
    intro p6 np6
    generalize e6 : upd H5 p6 _ = H6
    have hp6 := updE e6
    have s6 := updS np6 e6
    first | replace hp3 := s6 _ _ hp3 | replace hp3 := s6.seq hp3 | replace hp3 := sameSqt s6 hp3 | replace hp3 := sameDr s6 hp3 | replace hp3 := Rows.same s6 hp3 | replace hp3 := Sq.same s6 hp3
    first | replace g1 := s6 _ _ g1 | replace g1 := s6.seq g1 | replace g1 := sameSqt s6 g1 | replace g1 := sameDr s6 g1 | replace g1 := Rows.same s6 g1 | replace g1 := Sq.same s6 g1
    walk_at "rd"
    intro p7 np7
    generalize e7 : upd H6 p7 _ = H7
    have hp7 := updE e7
    have s7 := updS np7 e7
    first | replace hp3 := s7 _ _ hp3 | replace hp3 := s7.seq hp3 | replace hp3 := sameSqt s7 hp3 | replace hp3 := sameDr s7 hp3 | replace hp3 := Rows.same s7 hp3 | replace hp3 := Sq.same s7 hp3
    first | replace g1 := s7 _ _ g1 | replace g1 := s7.seq g1 | replace g1 := sameSqt s7 g1 | replace g1 := sameDr s7 g1 | replace g1 := Rows.same s7 g1 | replace g1 := Sq.same s7 g1
    first | replace hp6 := s7 _ _ hp6 | replace hp6 := s7.seq hp6 | replace hp6 := sameSqt s7 hp6 | replace hp6 := sameDr s7 hp6 | replace hp6 := Rows.same s7 hp6 | replace hp6 := Sq.same s7 hp6
    refine rNeL (ys := []) (SqL.of g1) (SqL.of hp7) ?_
    walk_at "rd"
    refine ite2 (fun h => ?_) (fun h => ?_)
    · obtain ⟨g, gs', rfl⟩ : ∃ g gs', gs = g :: gs' := by
        cases gs with
        | nil => simp at h
        | cons g r => exact ⟨g, r, rfl⟩
      have hat : atI ((g :: gs').map V.int) 0 = some (.int g) := atI_nat (j := 0) rfl
      have LLL : 0 ≤ g := by have := g2 g (by simp); omega
      walk_at "rd"
      intro p8 np8
      generalize e8 : upd H7 p8 _ = H8
      have hp8 := updE e8
      have s8 := updS np8 e8
      first | replace hp3 := s8 _ _ hp3 | replace hp3 := s8.seq hp3 | replace hp3 := sameSqt s8 hp3 | replace hp3 := sameDr s8 hp3 | replace hp3 := Rows.same s8 hp3 | replace hp3 := Sq.same s8 hp3
      first | replace hp6 := s8 _ _ hp6 | replace hp6 := s8.seq hp6 | replace hp6 := sameSqt s8 hp6 | replace hp6 := sameDr s8 hp6 | replace hp6 := Rows.same s8 hp6 | replace hp6 := Sq.same s8 hp6
      walk_at "rd"
      intro p9 np9
      generalize e9 : upd H8 p9 _ = H9
      have hp9 := updE e9
      have s9 := updS np9 e9
      first | replace hp6 := s9 _ _ hp6 | replace hp6 := s9.seq hp6 | replace hp6 := sameSqt s9 hp6 | replace hp6 := sameDr s9 hp6 | replace hp6 := Rows.same s9 hp6 | replace hp6 := Sq.same s9 hp6
      walk_at "rd"
      refine ⟨mk g z p9 0, rfl, Nat.le_of_ble_eq_true rfl, ?_⟩
      rw [made]
      have hp10 : H9 p9 = some (.lst ((cs ++ [53 * i + 11]).map V.int)) := by rw [List.map_append]; exact hp9
      have ne : p9 ≠ p6 := ne_of hp9 hp6 (by intro q; cases q)
      have st : St H (upd H9 p6 (.dK (mk g z p9 0))) := fun b o e d => by
        have e1 := s9 _ _ (s8 _ _ (s7 _ _ (s6 _ _ (s5 _ _ (s4 _ _ (s3 _ _ (s2 _ _ (s1 _ _ e))))))))
        rw [upd_ne]
        · exact e1
        · intro q
          rw [q, hp6] at e1
          cases e1
          cases d
      exact k _ _ _ ⟨_, _, _, cs ++ [53 * i + 11], upd_same, (upd_ne ne).trans hp10, by rw [List.length_append]; show 1 ≤ cs.length + 1; omega, by rw [List.length_append]; show cs.length + 1 ≤ 1000; omega, LLL, z0, z3, by omega, by omega⟩ st
    · have LLL : (0 : Int) ≤ 0 := by omega
      walk_at "rd"
      intro p8 np8
      generalize e8 : upd H7 p8 _ = H8
      have hp8 := updE e8
      have s8 := updS np8 e8
      first | replace hp3 := s8 _ _ hp3 | replace hp3 := s8.seq hp3 | replace hp3 := sameSqt s8 hp3 | replace hp3 := sameDr s8 hp3 | replace hp3 := Rows.same s8 hp3 | replace hp3 := Sq.same s8 hp3
      first | replace hp6 := s8 _ _ hp6 | replace hp6 := s8.seq hp6 | replace hp6 := sameSqt s8 hp6 | replace hp6 := sameDr s8 hp6 | replace hp6 := Rows.same s8 hp6 | replace hp6 := Sq.same s8 hp6
      walk_at "rd"
      intro p9 np9
      generalize e9 : upd H8 p9 _ = H9
      have hp9 := updE e9
      have s9 := updS np9 e9
      first | replace hp6 := s9 _ _ hp6 | replace hp6 := s9.seq hp6 | replace hp6 := sameSqt s9 hp6 | replace hp6 := sameDr s9 hp6 | replace hp6 := Rows.same s9 hp6 | replace hp6 := Sq.same s9 hp6
      walk_at "rd"
      refine ⟨mk 0 z p9 0, rfl, Nat.le_of_ble_eq_true rfl, ?_⟩
      rw [made]
      have hp10 : H9 p9 = some (.lst ((cs ++ [53 * i + 11]).map V.int)) := by rw [List.map_append]; exact hp9
      have ne : p9 ≠ p6 := ne_of hp9 hp6 (by intro q; cases q)
      have st : St H (upd H9 p6 (.dK (mk 0 z p9 0))) := fun b o e d => by
        have e1 := s9 _ _ (s8 _ _ (s7 _ _ (s6 _ _ (s5 _ _ (s4 _ _ (s3 _ _ (s2 _ _ (s1 _ _ e))))))))
        rw [upd_ne]
        · exact e1
        · intro q
          rw [q, hp6] at e1
          cases e1
          cases d
      exact k _ _ _ ⟨_, _, _, cs ++ [53 * i + 11], upd_same, (upd_ne ne).trans hp10, by rw [List.length_append]; show 1 ≤ cs.length + 1; omega, by rw [List.length_append]; show cs.length + 1 ≤ 1000; omega, LLL, z0, z3, by omega, by omega⟩ st
end

end Toy
namespace Toy
open PySem L2
local macro_rules | `(tactic| walk_at "rd1") => `(tactic| first
  | with_reducible assumption
  | refine ⟨_, rfl, ?_⟩
  | refine ⟨_, _, rfl, rfl, ?_⟩
  | refine ⟨_, _, rfl, ?_⟩
  | refine ⟨_, _, rfl, dg (by assumption) mk_left, ?_⟩
  | refine ⟨_, _, rfl, dg (by assumption) mk_seed, ?_⟩
  | refine ⟨_, _, rfl, dg (by assumption) mk_cells, ?_⟩
  | refine ⟨_, _, rfl, dg (by assumption) mk_spot, ?_⟩
  | refine ⟨_, _, rfl, .inl (SqL.of (by assumption)), ?_⟩
  | refine ⟨_, _, rfl, .inr (SqT.of (by assumption)), ?_⟩
  | refine ⟨_, _, rfl, .inl (by assumption), ?_⟩
  | refine ⟨_, _, rfl, .inr (by assumption), ?_⟩
  | refine ⟨_, _, _, _, rfl, rfl, SqL.of (by assumption), (by assumption), ?_⟩
  | refine ⟨_, _, _, _, rfl, rfl, SqT.of (by assumption), (by assumption), ?_⟩
  | refine ⟨_, _, _, _, rfl, rfl, (by assumption), (atI_nat (j := 0) rfl), ?_⟩
  | refine ⟨_, _, _, _, rfl, rfl, (by assumption), (atI_nat (j := 1) rfl), ?_⟩
  | refine ⟨_, _, _, _, _, rfl, .ty _, .base (.int _), kit_ty (r := true) (by decide +kernel), ?_⟩
  | refine ⟨_, _, _, _, _, rfl, .ty _, .base (.int _), kit_ty (r := false) (by decide +kernel), ?_⟩
  | refine ⟨_, _, _, _, _, rfl, .ty _, .base (.tup (by assumption)), kit_ty (r := true) (by decide +kernel), ?_⟩
  | refine ⟨_, _, _, _, _, rfl, .ty _, .base (.bl _), kit_ty (r := true) (by decide +kernel), ?_⟩
  | refine .inl ⟨_, rfl, ?_⟩
  | refine And.intro (wide_mul (a := 300) (b := 300) (by assumption) (by assumption) (by decide) (by decide) (by decide)) ?_
  | refine And.intro (sz (Nat.le_of_ble_eq_true rfl)) ?_
  | refine And.intro rfl ?_
  | refine And.intro (show (_ : Int) < _ from by first | assumption | omega | decide +kernel) ?_
  | refine And.intro (show (_ : Int) ≤ _ from by first | assumption | omega | decide +kernel) ?_
  | refine And.intro (show _ ≠ _ from by first | assumption | omega) ?_
  | refine And.intro ⟨by decide, by decide, by decide⟩ ?_
  | refine And.intro (.inl (show (_ : Int) < _ ∧ (_ : Int) < _ from ⟨by omega, by omega⟩)) ?_
  | refine And.intro (.inr (show (_ : Int) < _ ∧ (_ : Int) < _ from ⟨by omega, by omega⟩)) ?_
  | refine And.intro (show (_ : Int) < _ ∧ _ from ⟨by omega, by omega⟩) ?_
  | refine And.intro (by assumption) ?_
  | refine ⟨_, _, rfl, (by assumption), ?_⟩
  | refine ⟨_, _, _, _, rfl, rfl, (by assumption), (by assumption), sz (by first | omega | (simp only [List.length_map, List.length_append, List.length_cons, List.length_nil]; omega)), ?_⟩
  | refine iteF ?_
  | refine iteT ?_)
local macro_rules | `(tactic| walk_at "rd") => `(tactic| repeat walk_at "rd1")

theorem kd1 : ¬ ((Sum.inr ("four" : Str) : Key) = Sum.inr ("zero" : Str)) := by decide +kernel
theorem kd2 : ¬ ((Sum.inr ("four" : Str) : Key) = Sum.inr ("two" : Str)) := by decide +kernel
theorem kd3 : ¬ ((Sum.inr ("four" : Str) : Key) = Sum.inr ("both" : Str)) := by decide +kernel
theorem kd4 : ¬ ((Sum.inr ("four" : Str) : Key) = Sum.inr ("one" : Str)) := by decide +kernel
theorem kd5 : ¬ ((Sum.inr ("zero" : Str) : Key) = Sum.inr ("two" : Str)) := by decide +kernel
theorem kd6 : ¬ ((Sum.inr ("zero" : Str) : Key) = Sum.inr ("both" : Str)) := by decide +kernel
theorem kd7 : ¬ ((Sum.inr ("zero" : Str) : Key) = Sum.inr ("one" : Str)) := by decide +kernel
theorem kd8 : ¬ ((Sum.inr ("two" : Str) : Key) = Sum.inr ("both" : Str)) := by decide +kernel
theorem kd9 : ¬ ((Sum.inr ("two" : Str) : Key) = Sum.inr ("one" : Str)) := by decide +kernel
theorem kd0 : ¬ ((Sum.inr ("both" : Str) : Key) = Sum.inr ("one" : Str)) := by decide +kernel
/-- a dict by the five words -/
def wd (x1 x2 x3 x4 x5 : V) : List (Key × V) := [(.inr ("four" : Str), x1), (.inr ("zero" : Str), x2), (.inr ("two" : Str), x3), (.inr ("both" : Str), x4), (.inr ("one" : Str), x5)]
theorem wd_made {x1 x2 x3 x4 x5 : V} : mergeK [] (wd x1 x2 x3 x4 x5) = wd x1 x2 x3 x4 x5 := by
  unfold wd
  simp only [mergeK, List.foldl_cons, List.foldl_nil, putK, List.any_nil, List.any_cons, List.nil_append, List.cons_append, kd1, kd2, kd3, kd4, kd5, kd6, kd7, kd8, kd9, kd0, decide_false, Bool.or_false, Bool.false_eq_true, if_false]
/-- a word, its block, the place of its entry -/
inductive WB : Str → List Nat → List Nat → Nat → Prop where
  | four : WB ("four" : Str) [1, 0, 3, 2] [2, 3, 0, 1] 4
  | zero : WB ("zero" : Str) [1, 0] [0, 1] 2
  | two : WB ("two" : Str) [0, 1] [1, 0] 2
  | both : WB ("both" : Str) [1, 0] [1, 0] 2
  | one : WB ("one" : Str) [0] [0] 1
theorem WB.blk {w : Str} {b0 b2 : List Nat} {k : Nat} (h : WB w b0 b2 k) : Blk b0 b2 k := by
  cases h
  · exact blk_four
  · exact blk_zero
  · exact blk_two
  · exact blk_both
  · exact blk_one
theorem wd_get {w : Str} {b0 b2 : List Nat} {k : Nat} (h : WB w b0 b2 k) {x1 x2 x3 x4 x5 : V} {R : V → Prop}
    (r1 : b0 = [1, 0, 3, 2] → b2 = [2, 3, 0, 1] → k = 4 → R x1) (r2 : b0 = [1, 0] → b2 = [0, 1] → k = 2 → R x2) (r3 : b0 = [0, 1] → b2 = [1, 0] → k = 2 → R x3) (r4 : b0 = [1, 0] → b2 = [1, 0] → k = 2 → R x4) (r5 : b0 = [0] → b2 = [0] → k = 1 → R x5) :
    ∃ x, valV (wd x1 x2 x3 x4 x5) (.inr w) = some x ∧ R x := by
  unfold wd
  cases h
  · exact ⟨x1, valV_pos rfl, r1 rfl rfl rfl⟩
  · exact ⟨x2, by rw [valV_neg kd1, valV_pos rfl], r2 rfl rfl rfl⟩
  · exact ⟨x3, by rw [valV_neg kd2, valV_neg kd5, valV_pos rfl], r3 rfl rfl rfl⟩
  · exact ⟨x4, by rw [valV_neg kd3, valV_neg kd6, valV_neg kd8, valV_pos rfl], r4 rfl rfl rfl⟩
  · exact ⟨x5, by rw [valV_neg kd4, valV_neg kd7, valV_neg kd9, valV_neg kd0, valV_pos rfl], r5 rfl rfl rfl⟩
/-- the rows of the three changes at R -/
structure Rows (H : Hp) (R r0 r1 r2 : Addr) (a0 a1 a2 : List Nat) : Prop where
  r : H R = some (.lst [.ref r0, .ref r1, .ref r2])
  h0 : H r0 = some (.lst (a0.map vn))
  h1 : H r1 = some (.lst (a1.map vn))
  h2 : H r2 = some (.lst (a2.map vn))
  n1 : r0 ≠ r1
  n2 : r0 ≠ r2
  n3 : r1 ≠ r2
  n4 : R ≠ r0
  n5 : R ≠ r1
  n6 : R ≠ r2
theorem Rows.same {H H' : Hp} {R r0 r1 r2 : Addr} {a0 a1 a2 : List Nat} (s : Same H H') (h : Rows H R r0 r1 r2 a0 a1 a2) : Rows H' R r0 r1 r2 a0 a1 a2 :=
  ⟨s _ _ h.r, s _ _ h.h0, s _ _ h.h1, s _ _ h.h2, h.n1, h.n2, h.n3, h.n4, h.n5, h.n6⟩
theorem Rows.st {H H' : Hp} {R r0 r1 r2 : Addr} {a0 a1 a2 : List Nat} (s : St H H') (h : Rows H R r0 r1 r2 a0 a1 a2) : Rows H' R r0 r1 r2 a0 a1 a2 :=
  ⟨s _ _ h.r rfl, s _ _ h.h0 rfl, s _ _ h.h1 rfl, s _ _ h.h2 rfl, h.n1, h.n2, h.n3, h.n4, h.n5, h.n6⟩
theorem Rows.put0 {H : Hp} {R r0 r1 r2 : Addr} {a0 a1 a2 x : List Nat} (h : Rows H R r0 r1 r2 a0 a1 a2) : Rows (upd H r0 (.lst (x.map vn))) R r0 r1 r2 x a1 a2 :=
  ⟨(upd_ne h.n4).trans h.r, upd_same, (upd_ne h.n1.symm).trans h.h1, (upd_ne h.n2.symm).trans h.h2, h.n1, h.n2, h.n3, h.n4, h.n5, h.n6⟩
theorem Rows.put1 {H : Hp} {R r0 r1 r2 : Addr} {a0 a1 a2 x : List Nat} (h : Rows H R r0 r1 r2 a0 a1 a2) : Rows (upd H r1 (.lst (x.map vn))) R r0 r1 r2 a0 x a2 :=
  ⟨(upd_ne h.n5).trans h.r, (upd_ne h.n1).trans h.h0, upd_same, (upd_ne h.n3.symm).trans h.h2, h.n1, h.n2, h.n3, h.n4, h.n5, h.n6⟩
theorem Rows.put2 {H : Hp} {R r0 r1 r2 : Addr} {a0 a1 a2 x : List Nat} (h : Rows H R r0 r1 r2 a0 a1 a2) : Rows (upd H r2 (.lst (x.map vn))) R r0 r1 r2 a0 a1 x :=
  ⟨(upd_ne h.n6).trans h.r, (upd_ne h.n2).trans h.h0, (upd_ne h.n3).trans h.h1, upd_same, h.n1, h.n2, h.n3, h.n4, h.n5, h.n6⟩
def addV (L : Int) : V → V
  | .int z => .int (L + z)
  | v => v
theorem ext_eq {b : List Nat} {L : Int} {n : Nat} (h : L = n) : (((b.map vn).filter (fun _ => true)).map (addV L)) = (b.map (n + ·)).map vn := by
  rw [List.filter_eq_self.mpr (fun _ _ => rfl), List.map_map, List.map_map]
  refine List.map_congr_left fun z _ => ?_
  show V.int (L + (z : Int)) = V.int (((n + z : Nat)) : Int)
  rw [h]
  rfl
theorem ext_rng {N : Nat} {L : Int} {n k : Nat} (h : L = n) (hN : N = k) : ((List.range N).map (fun j : Nat => V.int (L + (0 + (j : Int))))) = ((List.range k).map (n + ·)).map vn := by
  rw [hN, List.map_map]
  refine List.map_congr_left fun z _ => ?_
  show V.int (L + (0 + (z : Int))) = V.int (((n + z : Nat)) : Int)
  rw [h, Int.zero_add]
  rfl
theorem ext_app {a b : List Nat} {n : Nat} : a.map vn ++ (b.map (n + ·)).map vn = (ap a b n).map vn := by
  unfold ap
  rw [List.map_append]
def spOf : Sp := fun vs H Q _ => ∃ (m c a : Addr) (n : Nat) (xs : List V), vs = [.ref m, .ref a] ∧ DrAt H m c n ∧ n ≤ 100000 ∧ H a = some (.lst xs) ∧ 0 < xs.length ∧ xs.length ≤ 1000 ∧
  ∀ (i : Nat) (v : V) (H' : Hp), i < xs.length → xs[i]? = some v → DrAt H' m c (n + 1) → St H H' → Q v H'
def spPut : Sp := fun vs H Q _ => ∃ (R r0 r1 r2 : Addr) (a0 a1 a2 b0 b2 : List Nat) (w : Str) (k n : Nat), vs = [.ref R, .str w] ∧ Rows H R r0 r1 r2 a0 a1 a2 ∧ WB w b0 b2 k ∧ a0.length = n ∧ a1.length = n ∧ a2.length = n ∧ n ≤ 100 ∧
  ∀ (H' : Hp), Rows H' R r0 r1 r2 (ap a0 b0 n) (ap a1 (List.range k) n) (ap a2 b2 n) → (∀ b o, H b = some o → b ≠ r0 → b ≠ r1 → b ≠ r2 → H' b = some o) → Q (.int (k : Int)) H'
section
variable {P : Program} {w : World} {K : PySem.W.Frag} {mg : Str → Option Value} {base : Heap}
theorem ok_law_of (T : Txt K mg) : FnOk P w K mg base CX0 2 T.a_law_of T.d_law_of ["m", "some"] spOf := by
  refine T.f_law_of.ok sc_law_of (fun vs H Q E h => ?_) (fun cdv A outer s H vs Q E hr h => ?_)
  · obtain ⟨m, c, a, n, xs, rfl, _⟩ := h
    rfl
  · obtain ⟨m, c, a, n, xs, rfl, D, hn, ha, l0, l1, k⟩ := h
    have nd := sc_law_of.nd
    refine ⟨_, (pss_one (ps_ret (pe_ix ix_list (pv 1) (pe_call (ok_law_draw T) (hr.mono (by decide)) rfl T.g_law_draw T.k_law_draw T.b_law_draw .nil pass0 (pa_cons (pv 0) (pa_cons (pe_callB call_len_seq (by rfl) T.n_len (by decide +kernel) (pa_cons (pv 1) pa_nil)) pa_nil))) (fun _ _ => rfl)))), ?_⟩
    walk_at "rd"
    refine ⟨_, _, _, _, rfl, D, by omega, by omega, by omega, fun r H1 r0 r1 D1 st => ?_⟩
    first | replace ha := st _ _ ha rfl | replace ha := st _ _ ha | replace ha := st.seq ha | replace ha := st.sqt ha | replace ha := sameSqt st ha | replace ha := sameDr st ha | replace ha := Rows.st st ha | replace ha := Rows.same st ha | replace ha := Sq.st st ha | replace ha := Sq.same st ha
    obtain ⟨i, rfl⟩ : ∃ i : Nat, r = (i : Int) := ⟨r.toNat, by omega⟩
    have hi : i < xs.length := by omega
    have hv : xs[i]? = some xs[i] := List.getElem?_eq_getElem hi
    refine ⟨_, _, _, _, rfl, rfl, SqL.of ha, atI_nat hv, ?_⟩
    exact k i _ _ hi hv D1 st
theorem ok_law_put (T : Txt K mg) : FnOk P w K mg base CX0 1 T.a_law_put T.d_law_put ["rows", "word"] spPut := by
  refine T.f_law_put.ok sc_law_put (fun vs H Q E h => ?_) (fun cdv A outer s H vs Q E hr h => ?_)
  · obtain ⟨R, r0, r1, r2, a0, a1, a2, b0, b2, wo, kk, n, rfl, _⟩ := h
    rfl
  · obtain ⟨R, r0, r1, r2, a0, a1, a2, b0, b2, wo, kk, n, rfl, W, B, l0, l1, l2, hn, k⟩ := h
    have nd := sc_law_put.nd
    have hu := hu_of hr
    have h0 := W.h0
    have qR := SqL.of (K := K) W.r
    refine ⟨_, (pss_cons (ps_set (i := 2) nd rfl (Or.inr rfl) (pe_callB call_len_seq (by rfl) T.n_len (by decide +kernel) (pa_cons (pe_ix ix_list (pv 0) pe_int (fun _ _ => rfl)) pa_nil)))
  (pss_cons (ps_set (i := 3) nd rfl (Or.inl rfl) (pe_dget hu (pe_disp (pps_cons pe_str (pe_lst (pa_cons pe_int (pa_cons pe_int (pa_cons pe_int (pa_cons pe_int pa_nil))))) (pps_cons pe_str (pe_lst (pa_cons pe_int (pa_cons pe_int pa_nil))) (pps_cons pe_str (pe_lst (pa_cons pe_int (pa_cons pe_int pa_nil))) (pps_cons pe_str (pe_lst (pa_cons pe_int (pa_cons pe_int pa_nil))) (pps_cons pe_str (pe_lst (pa_cons pe_int pa_nil)) pps_nil))))) (by rfl) (by rfl) (fun z => by cases z) (by decide)) (pv 1) (fun _ _ => rfl)))
  (pss_cons (ps_set (i := 4) nd rfl (Or.inl rfl) (pe_dget hu (pe_disp (pps_cons pe_str (pe_lst (pa_cons pe_int (pa_cons pe_int (pa_cons pe_int (pa_cons pe_int pa_nil))))) (pps_cons pe_str (pe_lst (pa_cons pe_int (pa_cons pe_int pa_nil))) (pps_cons pe_str (pe_lst (pa_cons pe_int (pa_cons pe_int pa_nil))) (pps_cons pe_str (pe_lst (pa_cons pe_int (pa_cons pe_int pa_nil))) (pps_cons pe_str (pe_lst (pa_cons pe_int pa_nil)) pps_nil))))) (by rfl) (by rfl) (fun z => by cases z) (by decide)) (pv 1) (fun _ _ => rfl)))
  (pss_cons (ps_expr (pe_bm PySem.F.plainAttrs_list PySem.F.slot_list_extend PySem.F.type_list_extend mt_extend (pe_ix ix_list (pv 0) pe_int (fun _ _ => rfl)) (pa_cons (pe_lc (own := [("entry", 5)]) (g := gName 5) (tt := tYes) rfl nd (pi_list (pv 3)) (blkOk_by (own := [("entry", 5)]) (N := ["rows", "word", "base", "first", "third", "entry", "k"]) (sc := defScope s_law_put) (by decide +kernel)) (fun _ _ _ _ _ => pg_name (i := 5) nd rfl (Or.inl rfl)) (fun _ _ _ _ _ => pts_nil) (fun _ _ _ _ _ => (pe_op op_add (pv 2) (pv 5)))) pa_nil)))
  (pss_cons (ps_expr (pe_bm PySem.F.plainAttrs_list PySem.F.slot_list_extend PySem.F.type_list_extend mt_extend (pe_ix ix_list (pv 0) pe_int (fun _ _ => rfl)) (pa_cons (pe_lc (own := [("k", 6)]) (g := gName 6) (tt := tYes) rfl nd (pi_range1 (by rfl) T.n_range (pa_cons (pe_callB call_len_seq (by rfl) T.n_len (by decide +kernel) (pa_cons (pv 3) pa_nil)) pa_nil)) (blkOk_by (own := [("k", 6)]) (N := ["rows", "word", "base", "first", "third", "entry", "k"]) (sc := defScope s_law_put) (by decide +kernel)) (fun _ _ _ _ _ => pg_name (i := 6) nd rfl (Or.inl rfl)) (fun _ _ _ _ _ => pts_nil) (fun _ _ _ _ _ => (pe_op op_add (pv 2) (pv 6)))) pa_nil)))
  (pss_cons (ps_expr (pe_bm PySem.F.plainAttrs_list PySem.F.slot_list_extend PySem.F.type_list_extend mt_extend (pe_ix ix_list (pv 0) pe_int (fun _ _ => rfl)) (pa_cons (pe_lc (own := [("entry", 5)]) (g := gName 5) (tt := tYes) rfl nd (pi_list (pv 4)) (blkOk_by (own := [("entry", 5)]) (N := ["rows", "word", "base", "first", "third", "entry", "k"]) (sc := defScope s_law_put) (by decide +kernel)) (fun _ _ _ _ _ => pg_name (i := 5) nd rfl (Or.inl rfl)) (fun _ _ _ _ _ => pts_nil) (fun _ _ _ _ _ => (pe_op op_add (pv 2) (pv 5)))) pa_nil)))
  (pss_one (ps_ret (pe_callB call_len_seq (by rfl) T.n_len (by decide +kernel) (pa_cons (pv 3) pa_nil)))))))))), ?_⟩
    walk_at "rd"
    have en : (((a0.map vn).length : Nat) : Int) = n := by rw [List.length_map, l0]
    have kb := B.blk
    have kk4 : kk ≤ 4 := by cases B <;> decide
    have lb0 := kb.i0.len
    have lb2 := kb.i2.len
    intro p1 np1
    generalize e1 : upd H p1 _ = H1
    have hp1 := updE e1
    have s1 := updS np1 e1
    walk_at "rd"
    intro p2 np2
    generalize e2 : upd H1 p2 _ = H2
    have hp2 := updE e2
    have s2 := updS np2 e2
    first | replace hp1 := s2 _ _ hp1 | replace hp1 := s2.seq hp1 | replace hp1 := sameSqt s2 hp1 | replace hp1 := sameDr s2 hp1 | replace hp1 := Rows.same s2 hp1 | replace hp1 := Sq.same s2 hp1
    walk_at "rd"
    intro p3 np3
    generalize e3 : upd H2 p3 _ = H3
    have hp3 := updE e3
    have s3 := updS np3 e3
    first | replace hp1 := s3 _ _ hp1 | replace hp1 := s3.seq hp1 | replace hp1 := sameSqt s3 hp1 | replace hp1 := sameDr s3 hp1 | replace hp1 := Rows.same s3 hp1 | replace hp1 := Sq.same s3 hp1
    first | replace hp2 := s3 _ _ hp2 | replace hp2 := s3.seq hp2 | replace hp2 := sameSqt s3 hp2 | replace hp2 := sameDr s3 hp2 | replace hp2 := Rows.same s3 hp2 | replace hp2 := Sq.same s3 hp2
    walk_at "rd"
    intro p4 np4
    generalize e4 : upd H3 p4 _ = H4
    have hp4 := updE e4
    have s4 := updS np4 e4
    first | replace hp1 := s4 _ _ hp1 | replace hp1 := s4.seq hp1 | replace hp1 := sameSqt s4 hp1 | replace hp1 := sameDr s4 hp1 | replace hp1 := Rows.same s4 hp1 | replace hp1 := Sq.same s4 hp1
    first | replace hp2 := s4 _ _ hp2 | replace hp2 := s4.seq hp2 | replace hp2 := sameSqt s4 hp2 | replace hp2 := sameDr s4 hp2 | replace hp2 := Rows.same s4 hp2 | replace hp2 := Sq.same s4 hp2
    first | replace hp3 := s4 _ _ hp3 | replace hp3 := s4.seq hp3 | replace hp3 := sameSqt s4 hp3 | replace hp3 := sameDr s4 hp3 | replace hp3 := Rows.same s4 hp3 | replace hp3 := Sq.same s4 hp3
    walk_at "rd"
    intro p5 np5
    generalize e5 : upd H4 p5 _ = H5
    have hp5 := updE e5
    have s5 := updS np5 e5
    first | replace hp1 := s5 _ _ hp1 | replace hp1 := s5.seq hp1 | replace hp1 := sameSqt s5 hp1 | replace hp1 := sameDr s5 hp1 | replace hp1 := Rows.same s5 hp1 | replace hp1 := Sq.same s5 hp1
    first | replace hp2 := s5 _ _ hp2 | replace hp2 := s5.seq hp2 | replace hp2 := sameSqt s5 hp2 | replace hp2 := sameDr s5 hp2 | replace hp2 := Rows.same s5 hp2 | replace hp2 := Sq.same s5 hp2
    first | replace hp3 := s5 _ _ hp3 | replace hp3 := s5.seq hp3 | replace hp3 := sameSqt s5 hp3 | replace hp3 := sameDr s5 hp3 | replace hp3 := Rows.same s5 hp3 | replace hp3 := Sq.same s5 hp3
    first | replace hp4 := s5 _ _ hp4 | replace hp4 := s5.seq hp4 | replace hp4 := sameSqt s5 hp4 | replace hp4 := sameDr s5 hp4 | replace hp4 := Rows.same s5 hp4 | replace hp4 := Sq.same s5 hp4
    walk_at "rd"
    intro p6 np6
    generalize e6 : upd H5 p6 _ = H6
    have hp6 := updE e6
    have s6 := updS np6 e6
    first | replace hp1 := s6 _ _ hp1 | replace hp1 := s6.seq hp1 | replace hp1 := sameSqt s6 hp1 | replace hp1 := sameDr s6 hp1 | replace hp1 := Rows.same s6 hp1 | replace hp1 := Sq.same s6 hp1
    first | replace hp2 := s6 _ _ hp2 | replace hp2 := s6.seq hp2 | replace hp2 := sameSqt s6 hp2 | replace hp2 := sameDr s6 hp2 | replace hp2 := Rows.same s6 hp2 | replace hp2 := Sq.same s6 hp2
    first | replace hp3 := s6 _ _ hp3 | replace hp3 := s6.seq hp3 | replace hp3 := sameSqt s6 hp3 | replace hp3 := sameDr s6 hp3 | replace hp3 := Rows.same s6 hp3 | replace hp3 := Sq.same s6 hp3
    first | replace hp4 := s6 _ _ hp4 | replace hp4 := s6.seq hp4 | replace hp4 := sameSqt s6 hp4 | replace hp4 := sameDr s6 hp4 | replace hp4 := Rows.same s6 hp4 | replace hp4 := Sq.same s6 hp4
    first | replace hp5 := s6 _ _ hp5 | replace hp5 := s6.seq hp5 | replace hp5 := sameSqt s6 hp5 | replace hp5 := sameDr s6 hp5 | replace hp5 := Rows.same s6 hp5 | replace hp5 := Sq.same s6 hp5
    walk_at "rd"
    refine ⟨wd (.ref p2) (.ref p3) (.ref p4) (.ref p5) (.ref p6), rfl, Nat.le_of_ble_eq_true rfl, ?_⟩
    rw [wd_made]
    generalize e7 : upd H6 p1 _ = H7
    have hd1 := updE e7
    have s7 : Same H H7 := by
      rw [← e7]
      exact sameApp (fun b o h => s6 _ _ (s5 _ _ (s4 _ _ (s3 _ _ (s2 _ _ (s1 _ _ (h))))))) np1
    have hp2 := Eq.trans (show H7 p2 = H6 p2 from by rw [← e7]; exact upd_ne (ne_of hp2 hp1 (by intro q; cases q))) hp2
    have hp3 := Eq.trans (show H7 p3 = H6 p3 from by rw [← e7]; exact upd_ne (ne_of hp3 hp1 (by intro q; cases q))) hp3
    have hp4 := Eq.trans (show H7 p4 = H6 p4 from by rw [← e7]; exact upd_ne (ne_of hp4 hp1 (by intro q; cases q))) hp4
    have hp5 := Eq.trans (show H7 p5 = H6 p5 from by rw [← e7]; exact upd_ne (ne_of hp5 hp1 (by intro q; cases q))) hp5
    have hp6 := Eq.trans (show H7 p6 = H6 p6 from by rw [← e7]; exact upd_ne (ne_of hp6 hp1 (by intro q; cases q))) hp6
    have zp2 : H p2 = none := @Same.free H H1 (fun b o h => s1 _ _ (h)) _ np2
    have zp3 : H p3 = none := @Same.free H H2 (fun b o h => s2 _ _ (s1 _ _ (h))) _ np3
    have zp4 : H p4 = none := @Same.free H H3 (fun b o h => s3 _ _ (s2 _ _ (s1 _ _ (h)))) _ np4
    have zp5 : H p5 = none := @Same.free H H4 (fun b o h => s4 _ _ (s3 _ _ (s2 _ _ (s1 _ _ (h))))) _ np5
    have zp6 : H p6 = none := @Same.free H H5 (fun b o h => s5 _ _ (s4 _ _ (s3 _ _ (s2 _ _ (s1 _ _ (h)))))) _ np6
    obtain ⟨_, hx1, f1, rfl, hf1, zf1⟩ := wd_get (x1 := .ref p2) (x2 := .ref p3) (x3 := .ref p4) (x4 := .ref p5) (x5 := .ref p6) B (R := fun x => ∃ f, x = V.ref f ∧ H7 f = some (.lst (b0.map vn)) ∧ H f = none)
      (fun a b c => ⟨_, rfl, by first | (rw [a]; exact hp2) | (rw [b]; exact hp2), zp2⟩) (fun a b c => ⟨_, rfl, by first | (rw [a]; exact hp3) | (rw [b]; exact hp3), zp3⟩) (fun a b c => ⟨_, rfl, by first | (rw [a]; exact hp4) | (rw [b]; exact hp4), zp4⟩) (fun a b c => ⟨_, rfl, by first | (rw [a]; exact hp5) | (rw [b]; exact hp5), zp5⟩) (fun a b c => ⟨_, rfl, by first | (rw [a]; exact hp6) | (rw [b]; exact hp6), zp6⟩)
    refine ⟨_, rfl, p1, _, rfl, dg hd1 hx1, ?_⟩
    walk_at "rd"
    intro p8 np8
    generalize e8 : upd H7 p8 _ = H8
    have hp8 := updE e8
    have s8 := updS np8 e8
    walk_at "rd"
    intro p9 np9
    generalize e9 : upd H8 p9 _ = H9
    have hp9 := updE e9
    have s9 := updS np9 e9
    first | replace hp8 := s9 _ _ hp8 | replace hp8 := s9.seq hp8 | replace hp8 := sameSqt s9 hp8 | replace hp8 := sameDr s9 hp8 | replace hp8 := Rows.same s9 hp8 | replace hp8 := Sq.same s9 hp8
    walk_at "rd"
    intro p10 np10
    generalize e10 : upd H9 p10 _ = H10
    have hp10 := updE e10
    have s10 := updS np10 e10
    first | replace hp8 := s10 _ _ hp8 | replace hp8 := s10.seq hp8 | replace hp8 := sameSqt s10 hp8 | replace hp8 := sameDr s10 hp8 | replace hp8 := Rows.same s10 hp8 | replace hp8 := Sq.same s10 hp8
    first | replace hp9 := s10 _ _ hp9 | replace hp9 := s10.seq hp9 | replace hp9 := sameSqt s10 hp9 | replace hp9 := sameDr s10 hp9 | replace hp9 := Rows.same s10 hp9 | replace hp9 := Sq.same s10 hp9
    walk_at "rd"
    intro p11 np11
    generalize e11 : upd H10 p11 _ = H11
    have hp11 := updE e11
    have s11 := updS np11 e11
    first | replace hp8 := s11 _ _ hp8 | replace hp8 := s11.seq hp8 | replace hp8 := sameSqt s11 hp8 | replace hp8 := sameDr s11 hp8 | replace hp8 := Rows.same s11 hp8 | replace hp8 := Sq.same s11 hp8
    first | replace hp9 := s11 _ _ hp9 | replace hp9 := s11.seq hp9 | replace hp9 := sameSqt s11 hp9 | replace hp9 := sameDr s11 hp9 | replace hp9 := Rows.same s11 hp9 | replace hp9 := Sq.same s11 hp9
    first | replace hp10 := s11 _ _ hp10 | replace hp10 := s11.seq hp10 | replace hp10 := sameSqt s11 hp10 | replace hp10 := sameDr s11 hp10 | replace hp10 := Rows.same s11 hp10 | replace hp10 := Sq.same s11 hp10
    walk_at "rd"
    intro p12 np12
    generalize e12 : upd H11 p12 _ = H12
    have hp12 := updE e12
    have s12 := updS np12 e12
    first | replace hp8 := s12 _ _ hp8 | replace hp8 := s12.seq hp8 | replace hp8 := sameSqt s12 hp8 | replace hp8 := sameDr s12 hp8 | replace hp8 := Rows.same s12 hp8 | replace hp8 := Sq.same s12 hp8
    first | replace hp9 := s12 _ _ hp9 | replace hp9 := s12.seq hp9 | replace hp9 := sameSqt s12 hp9 | replace hp9 := sameDr s12 hp9 | replace hp9 := Rows.same s12 hp9 | replace hp9 := Sq.same s12 hp9
    first | replace hp10 := s12 _ _ hp10 | replace hp10 := s12.seq hp10 | replace hp10 := sameSqt s12 hp10 | replace hp10 := sameDr s12 hp10 | replace hp10 := Rows.same s12 hp10 | replace hp10 := Sq.same s12 hp10
    first | replace hp11 := s12 _ _ hp11 | replace hp11 := s12.seq hp11 | replace hp11 := sameSqt s12 hp11 | replace hp11 := sameDr s12 hp11 | replace hp11 := Rows.same s12 hp11 | replace hp11 := Sq.same s12 hp11
    walk_at "rd"
    intro p13 np13
    generalize e13 : upd H12 p13 _ = H13
    have hp13 := updE e13
    have s13 := updS np13 e13
    first | replace hp8 := s13 _ _ hp8 | replace hp8 := s13.seq hp8 | replace hp8 := sameSqt s13 hp8 | replace hp8 := sameDr s13 hp8 | replace hp8 := Rows.same s13 hp8 | replace hp8 := Sq.same s13 hp8
    first | replace hp9 := s13 _ _ hp9 | replace hp9 := s13.seq hp9 | replace hp9 := sameSqt s13 hp9 | replace hp9 := sameDr s13 hp9 | replace hp9 := Rows.same s13 hp9 | replace hp9 := Sq.same s13 hp9
    first | replace hp10 := s13 _ _ hp10 | replace hp10 := s13.seq hp10 | replace hp10 := sameSqt s13 hp10 | replace hp10 := sameDr s13 hp10 | replace hp10 := Rows.same s13 hp10 | replace hp10 := Sq.same s13 hp10
    first | replace hp11 := s13 _ _ hp11 | replace hp11 := s13.seq hp11 | replace hp11 := sameSqt s13 hp11 | replace hp11 := sameDr s13 hp11 | replace hp11 := Rows.same s13 hp11 | replace hp11 := Sq.same s13 hp11
    first | replace hp12 := s13 _ _ hp12 | replace hp12 := s13.seq hp12 | replace hp12 := sameSqt s13 hp12 | replace hp12 := sameDr s13 hp12 | replace hp12 := Rows.same s13 hp12 | replace hp12 := Sq.same s13 hp12
    walk_at "rd"
    refine ⟨wd (.ref p9) (.ref p10) (.ref p11) (.ref p12) (.ref p13), rfl, Nat.le_of_ble_eq_true rfl, ?_⟩
    rw [wd_made]
    generalize e14 : upd H13 p8 _ = H14
    have hd8 := updE e14
    have s14 : Same H7 H14 := by
      rw [← e14]
      exact sameApp (fun b o h => s13 _ _ (s12 _ _ (s11 _ _ (s10 _ _ (s9 _ _ (s8 _ _ (h))))))) np8
    have hp9 := Eq.trans (show H14 p9 = H13 p9 from by rw [← e14]; exact upd_ne (ne_of hp9 hp8 (by intro q; cases q))) hp9
    have hp10 := Eq.trans (show H14 p10 = H13 p10 from by rw [← e14]; exact upd_ne (ne_of hp10 hp8 (by intro q; cases q))) hp10
    have hp11 := Eq.trans (show H14 p11 = H13 p11 from by rw [← e14]; exact upd_ne (ne_of hp11 hp8 (by intro q; cases q))) hp11
    have hp12 := Eq.trans (show H14 p12 = H13 p12 from by rw [← e14]; exact upd_ne (ne_of hp12 hp8 (by intro q; cases q))) hp12
    have hp13 := Eq.trans (show H14 p13 = H13 p13 from by rw [← e14]; exact upd_ne (ne_of hp13 hp8 (by intro q; cases q))) hp13
    have zp9 : H7 p9 = none := @Same.free H7 H8 (fun b o h => s8 _ _ (h)) _ np9
    have zp10 : H7 p10 = none := @Same.free H7 H9 (fun b o h => s9 _ _ (s8 _ _ (h))) _ np10
    have zp11 : H7 p11 = none := @Same.free H7 H10 (fun b o h => s10 _ _ (s9 _ _ (s8 _ _ (h)))) _ np11
    have zp12 : H7 p12 = none := @Same.free H7 H11 (fun b o h => s11 _ _ (s10 _ _ (s9 _ _ (s8 _ _ (h))))) _ np12
    have zp13 : H7 p13 = none := @Same.free H7 H12 (fun b o h => s12 _ _ (s11 _ _ (s10 _ _ (s9 _ _ (s8 _ _ (h)))))) _ np13
    obtain ⟨_, hx8, f8, rfl, hf8, zf8⟩ := wd_get (x1 := .ref p9) (x2 := .ref p10) (x3 := .ref p11) (x4 := .ref p12) (x5 := .ref p13) B (R := fun x => ∃ f, x = V.ref f ∧ H14 f = some (.lst (b2.map vn)) ∧ H7 f = none)
      (fun a b c => ⟨_, rfl, by first | (rw [a]; exact hp9) | (rw [b]; exact hp9), zp9⟩) (fun a b c => ⟨_, rfl, by first | (rw [a]; exact hp10) | (rw [b]; exact hp10), zp10⟩) (fun a b c => ⟨_, rfl, by first | (rw [a]; exact hp11) | (rw [b]; exact hp11), zp11⟩) (fun a b c => ⟨_, rfl, by first | (rw [a]; exact hp12) | (rw [b]; exact hp12), zp12⟩) (fun a b c => ⟨_, rfl, by first | (rw [a]; exact hp13) | (rw [b]; exact hp13), zp13⟩)
    refine ⟨_, rfl, p8, _, rfl, dg hd8 hx8, ?_⟩
    first | replace hf1 := s14 _ _ hf1 rfl | replace hf1 := s14 _ _ hf1 | replace hf1 := s14.seq hf1 | replace hf1 := s14.sqt hf1 | replace hf1 := sameSqt s14 hf1 | replace hf1 := sameDr s14 hf1 | replace hf1 := Rows.st s14 hf1 | replace hf1 := Rows.same s14 hf1 | replace hf1 := Sq.st s14 hf1 | replace hf1 := Sq.same s14 hf1
    have s014 : Same H H14 := fun b o h => s14 _ _ (s7 _ _ h)
    have zf8' : H f8 = none := s7.free zf8
    have W0 := W
    replace W := Rows.same s014 W
    clear e1 e2 e3 e4 e5 e6 e7 e8 e9 e10 e11 e12 e13 e14 hp2 hp3 hp4 hp5 hp6 hp9 hp10 hp11 hp12 hp13 s1 s2 s3 s4 s5 s6 s8 s9 s10 s11 s12 s13 hp1 hp8 hd1 hd8 hx1 hx8
    have qR := SqL.of (K := K) W.r
    walk_at "rd"
    refine ⟨.inl ⟨rfl, _, SqL.of W.h0⟩, ?_⟩
    walk_at "rd"
    refine ⟨⟨_, SqL.of hf1⟩, fun D0 nD0 => lc_fm (K := K) (xs := b0.map vn) (fun _ => true) (addV (((a0.map vn).length : Nat) : Int)) (SqL.of hf1) nD0 (by rw [List.length_map]; omega) (fun _ => rfl) (fun _ _ _ _ _ r => r) ?_ ?_⟩
    · intro x H' R' hx _ sm r
      obtain ⟨z, hz, rfl⟩ := List.mem_map.mp hx
      exact ⟨_, rfl, _, rfl, _, _, rfl, rfl, r⟩
    intro H15 s15 hD0
    rw [ext_eq en] at hD0
    replace W := Rows.same s15 W
    refine ⟨_, _, _, _, rfl, rfl, W.h0, hD0, sz (by simp only [List.length_map]; omega), ?_⟩
    rw [ext_app]
    have g1 : f1 ≠ r0 := fun q => by rw [q, W0.h0] at zf1; cases zf1
    have g2 : f8 ≠ r0 := fun q => by rw [q, W0.h0] at zf8'; cases zf8'
    have g3 : f1 ≠ r1 := fun q => by rw [q, W0.h1] at zf1; cases zf1
    have g4 : f8 ≠ r1 := fun q => by rw [q, W0.h1] at zf8'; cases zf8'
    have g5 : f1 ≠ r2 := fun q => by rw [q, W0.h2] at zf1; cases zf1
    generalize e16 : upd H15 r0 _ = H16
    replace W : Rows H16 R r0 r1 r2 (ap a0 b0 n) a1 a2 := by rw [← e16]; exact W.put0
    replace hf1 := Eq.trans (show H16 f1 = H15 f1 from by rw [← e16]; exact upd_ne g1) (s15 _ _ hf1)
    replace hf8 := Eq.trans (show H16 f8 = H15 f8 from by rw [← e16]; exact upd_ne g2) (s15 _ _ hf8)
    have fr16 : ∀ b o, H b = some o → b ≠ r0 → b ≠ r1 → b ≠ r2 → H16 b = some o := fun b o h q0 q1 q2 => by
      rw [← e16, upd_ne q0]
      exact s15 _ _ (s014 _ _ h)
    clear e16
    replace qR := SqL.of (K := K) W.r
    have ek : (((b0.map vn).length : Nat) : Int) = kk := by rw [List.length_map, lb0]
    have ek2 : ((((b0.map vn).length : Nat) : Int)).toNat = kk := by rw [ek, Int.toNat_natCast]
    refine ⟨_, rfl, _, _, _, _, rfl, rfl, qR, atI_nat (j := 1) rfl, .inl ⟨rfl, _, SqL.of W.h1⟩, _, rfl, _, _, rfl, .inl (SqL.of hf1), _, rfl, by omega, by omega, fun D1 nD1 => lc_fmr (lo := 0) (fun j : Nat => V.int ((((a0.map vn).length : Nat) : Int) + (0 + (j : Int)))) nD1 (by rw [ek2]; omega) (fun _ => rfl) ?_ ?_⟩
    · intro j H' R' hj sm r
      exact ⟨_, rfl, _, rfl, _, _, rfl, rfl, r⟩
    intro H17 s17 hD1
    rw [ext_rng en ek2] at hD1
    replace W := Rows.same s17 W
    first | replace hf1 := s17 _ _ hf1 rfl | replace hf1 := s17 _ _ hf1 | replace hf1 := s17.seq hf1 | replace hf1 := s17.sqt hf1 | replace hf1 := sameSqt s17 hf1 | replace hf1 := sameDr s17 hf1 | replace hf1 := Rows.st s17 hf1 | replace hf1 := Rows.same s17 hf1 | replace hf1 := Sq.st s17 hf1 | replace hf1 := Sq.same s17 hf1
    first | replace hf8 := s17 _ _ hf8 rfl | replace hf8 := s17 _ _ hf8 | replace hf8 := s17.seq hf8 | replace hf8 := s17.sqt hf8 | replace hf8 := sameSqt s17 hf8 | replace hf8 := sameDr s17 hf8 | replace hf8 := Rows.st s17 hf8 | replace hf8 := Rows.same s17 hf8 | replace hf8 := Sq.st s17 hf8 | replace hf8 := Sq.same s17 hf8
    refine ⟨_, _, _, _, rfl, rfl, W.h1, hD1, sz (by simp only [List.length_map, List.length_range]; omega), ?_⟩
    rw [ext_app]
    have fr17 : ∀ b o, H b = some o → b ≠ r0 → b ≠ r1 → b ≠ r2 → H17 b = some o := fun b o h q0 q1 q2 => s17 _ _ (fr16 b o h q0 q1 q2)
    generalize e18 : upd H17 r1 _ = H18
    replace W : Rows H18 R r0 r1 r2 (ap a0 b0 n) (ap a1 (List.range kk) n) a2 := by rw [← e18]; exact W.put1
    replace hf1 := Eq.trans (show H18 f1 = H17 f1 from by rw [← e18]; exact upd_ne g3) hf1
    replace hf8 := Eq.trans (show H18 f8 = H17 f8 from by rw [← e18]; exact upd_ne g4) hf8
    have fr18 : ∀ b o, H b = some o → b ≠ r0 → b ≠ r1 → b ≠ r2 → H18 b = some o := fun b o h q0 q1 q2 => by
      rw [← e18, upd_ne q1]
      exact fr17 b o h q0 q1 q2
    clear e18
    replace qR := SqL.of (K := K) W.r
    refine ⟨_, rfl, _, _, _, _, rfl, rfl, qR, atI_nat (j := 2) rfl, .inl ⟨rfl, _, SqL.of W.h2⟩, _, rfl, _, rfl, ⟨_, SqL.of hf8⟩, fun D2 nD2 => lc_fm (K := K) (xs := b2.map vn) (fun _ => true) (addV (((a0.map vn).length : Nat) : Int)) (SqL.of hf8) nD2 (by rw [List.length_map]; omega) (fun _ => rfl) (fun _ _ _ _ _ r => r) ?_ ?_⟩
    · intro x H' R' hx _ sm r
      obtain ⟨z, hz, rfl⟩ := List.mem_map.mp hx
      exact ⟨_, rfl, _, rfl, _, _, rfl, rfl, r⟩
    intro H19 s19 hD2
    rw [ext_eq en] at hD2
    replace W := Rows.same s19 W
    first | replace hf1 := s19 _ _ hf1 rfl | replace hf1 := s19 _ _ hf1 | replace hf1 := s19.seq hf1 | replace hf1 := s19.sqt hf1 | replace hf1 := sameSqt s19 hf1 | replace hf1 := sameDr s19 hf1 | replace hf1 := Rows.st s19 hf1 | replace hf1 := Rows.same s19 hf1 | replace hf1 := Sq.st s19 hf1 | replace hf1 := Sq.same s19 hf1
    refine ⟨_, _, _, _, rfl, rfl, W.h2, hD2, sz (by simp only [List.length_map]; omega), ?_⟩
    rw [ext_app]
    have fr19 : ∀ b o, H b = some o → b ≠ r0 → b ≠ r1 → b ≠ r2 → H19 b = some o := fun b o h q0 q1 q2 => s19 _ _ (fr18 b o h q0 q1 q2)
    generalize e20 : upd H19 r2 _ = H20
    replace W : Rows H20 R r0 r1 r2 (ap a0 b0 n) (ap a1 (List.range kk) n) (ap a2 b2 n) := by rw [← e20]; exact W.put2
    replace hf1 := Eq.trans (show H20 f1 = H19 f1 from by rw [← e20]; exact upd_ne g5) hf1
    have fr20 : ∀ b o, H b = some o → b ≠ r0 → b ≠ r1 → b ≠ r2 → H20 b = some o := fun b o h q0 q1 q2 => by
      rw [← e20, upd_ne q2]
      exact fr19 b o h q0 q1 q2
    clear e20
    refine ⟨_, rfl, _, _, rfl, .inl (SqL.of hf1), ?_⟩
    have := k H20 W fr20
    rw [← ek] at this
    exact this
end

end Toy
namespace Toy
open PySem L2
local macro_rules | `(tactic| walk_at "rd1") => `(tactic| first
  | with_reducible assumption
  | refine ⟨_, rfl, ?_⟩
  | refine ⟨_, _, rfl, rfl, ?_⟩
  | refine ⟨_, _, rfl, ?_⟩
  | refine ⟨_, _, rfl, dg (by assumption) mk_left, ?_⟩
  | refine ⟨_, _, rfl, dg (by assumption) mk_seed, ?_⟩
  | refine ⟨_, _, rfl, dg (by assumption) mk_cells, ?_⟩
  | refine ⟨_, _, rfl, dg (by assumption) mk_spot, ?_⟩
  | refine ⟨_, _, rfl, .inl (SqL.of (by assumption)), ?_⟩
  | refine ⟨_, _, rfl, .inr (SqT.of (by assumption)), ?_⟩
  | refine ⟨_, _, rfl, .inl (by assumption), ?_⟩
  | refine ⟨_, _, rfl, .inr (by assumption), ?_⟩
  | refine ⟨_, _, _, _, rfl, rfl, SqL.of (by assumption), (by assumption), ?_⟩
  | refine ⟨_, _, _, _, rfl, rfl, SqT.of (by assumption), (by assumption), ?_⟩
  | refine ⟨_, _, _, _, rfl, rfl, (by assumption), (atI_nat (j := 0) rfl), ?_⟩
  | refine ⟨_, _, _, _, rfl, rfl, (by assumption), (atI_nat (j := 1) rfl), ?_⟩
  | refine ⟨_, _, _, _, _, rfl, .ty _, .base (.int _), kit_ty (r := true) (by decide +kernel), ?_⟩
  | refine ⟨_, _, _, _, _, rfl, .ty _, .base (.int _), kit_ty (r := false) (by decide +kernel), ?_⟩
  | refine ⟨_, _, _, _, _, rfl, .ty _, .base (.tup (by assumption)), kit_ty (r := true) (by decide +kernel), ?_⟩
  | refine ⟨_, _, _, _, _, rfl, .ty _, .base (.bl _), kit_ty (r := true) (by decide +kernel), ?_⟩
  | refine .inl ⟨_, rfl, ?_⟩
  | refine And.intro (sz (Nat.le_of_ble_eq_true rfl)) ?_
  | refine And.intro rfl ?_
  | refine And.intro (show (_ : Int) < _ from by first | assumption | omega | decide +kernel) ?_
  | refine And.intro (show (_ : Int) ≤ _ from by first | assumption | omega | decide +kernel) ?_
  | refine And.intro (show _ ≠ _ from by first | assumption | omega) ?_
  | refine And.intro ⟨by decide, by decide, by decide⟩ ?_
  | refine And.intro (.inl (show (_ : Int) < _ ∧ (_ : Int) < _ from ⟨by omega, by omega⟩)) ?_
  | refine And.intro (.inr (show (_ : Int) < _ ∧ (_ : Int) < _ from ⟨by omega, by omega⟩)) ?_
  | refine And.intro (show (_ : Int) < _ ∧ _ from ⟨by omega, by omega⟩) ?_
  | refine And.intro (by assumption) ?_
  | refine And.intro (wide_mul (a := 300) (b := 300) (by assumption) (by assumption) (by decide) (by decide) (by decide)) ?_
  | refine ⟨_, _, rfl, (by assumption), ?_⟩
  | refine ⟨_, _, _, _, rfl, rfl, (by assumption), (by assumption), sz (by first | omega | (simp only [List.length_map, List.length_append, List.length_cons, List.length_nil]; omega)), ?_⟩
  | refine iteF ?_
  | refine iteT ?_)
local macro_rules | `(tactic| walk_at "rd") => `(tactic| repeat walk_at "rd1")

def Nw (H : Hp) (a : Addr) : Prop := ∀ b o, H b = some o → nD o = true → b ≠ a
theorem Nw.of {H0 H : Hp} {a : Addr} (s : St H0 H) (n : H a = none) : Nw H0 a := fun b o h d => ne_of_none (s b o h d) n
/-- what is drawn so far -/
structure FI (H0 H : Hp) (c R r0 r1 r2 fa : Addr) (a0 a1 a2 fr : List Nat) : Prop where
  rows : Rows H R r0 r1 r2 a0 a1 a2
  hf : H fa = some (.lst (fr.map vn))
  st : St H0 H
  c0 : c ≠ r0
  c1 : c ≠ r1
  c2 : c ≠ r2
  w0 : Nw H0 r0
  w1 : Nw H0 r1
  w2 : Nw H0 r2
  f0 : fa ≠ r0
  f1 : fa ≠ r1
  f2 : fa ≠ r2
  fR : fa ≠ R
theorem FI.same {H0 H H' : Hp} {c R r0 r1 r2 fa : Addr} {a0 a1 a2 fr : List Nat} (h : FI H0 H c R r0 r1 r2 fa a0 a1 a2 fr) (s : Same H H') : FI H0 H' c R r0 r1 r2 fa a0 a1 a2 fr :=
  ⟨h.rows.same s, s _ _ h.hf, fun b o q d => s _ _ (h.st b o q d), h.c0, h.c1, h.c2, h.w0, h.w1, h.w2, h.f0, h.f1, h.f2, h.fR⟩
theorem FI.sto {H0 H H' : Hp} {c R r0 r1 r2 fa : Addr} {a0 a1 a2 fr : List Nat} (h : FI H0 H c R r0 r1 r2 fa a0 a1 a2 fr) (s : St H H') : FI H0 H' c R r0 r1 r2 fa a0 a1 a2 fr :=
  ⟨h.rows.st s, s _ _ h.hf rfl, h.st.trans s, h.c0, h.c1, h.c2, h.w0, h.w1, h.w2, h.f0, h.f1, h.f2, h.fR⟩
/-- the list of change 1 changes -/
theorem FI.put1 {H0 H : Hp} {c R r0 r1 r2 fa : Addr} {a0 a1 a2 fr x : List Nat} (h : FI H0 H c R r0 r1 r2 fa a0 a1 a2 fr) : FI H0 (upd H r1 (.lst (x.map vn))) c R r0 r1 r2 fa a0 x a2 fr :=
  ⟨h.rows.put1, (upd_ne h.f1).trans h.hf, fun b o q d => (upd_ne (h.w1 b o q d)).trans (h.st b o q d), h.c0, h.c1, h.c2, h.w0, h.w1, h.w2, h.f0, h.f1, h.f2, h.fR⟩
/-- another list of free flags -/
theorem FI.free {H0 H H' : Hp} {c R r0 r1 r2 fa fb : Addr} {a0 a1 a2 fr gr : List Nat} (h : FI H0 H c R r0 r1 r2 fa a0 a1 a2 fr) (s : Same H H') (n : H fb = none) (e : H' fb = some (.lst (gr.map vn))) : FI H0 H' c R r0 r1 r2 fb a0 a1 a2 gr :=
  ⟨h.rows.same s, e, fun b o q d => s _ _ (h.st b o q d), h.c0, h.c1, h.c2, h.w0, h.w1, h.w2, (ne_of_none h.rows.h0 n).symm, (ne_of_none h.rows.h1 n).symm, (ne_of_none h.rows.h2 n).symm, (ne_of_none h.rows.r n).symm⟩
/-- a row of flags and what is known of it -/
def FS (n : Nat) (a0 a1 a2 fr : List Nat) : Prop := (n = 0 ∧ a0 = [] ∧ a1 = [] ∧ a2 = [] ∧ fr = []) ∨ (0 < n ∧ Fr a0 a1 a2 n ∧ Free fr a1 n)
theorem FS.l0 {n : Nat} {a0 a1 a2 fr : List Nat} (h : FS n a0 a1 a2 fr) : a0.length = n := by
  rcases h with ⟨h, e, _⟩ | ⟨_, h, _⟩
  · rw [e, h]; rfl
  · exact h.i0.len
theorem FS.l1 {n : Nat} {a0 a1 a2 fr : List Nat} (h : FS n a0 a1 a2 fr) : a1.length = n := by
  rcases h with ⟨h, _, e, _⟩ | ⟨_, h, _⟩
  · rw [e, h]; rfl
  · exact h.i1.len
theorem FS.l2 {n : Nat} {a0 a1 a2 fr : List Nat} (h : FS n a0 a1 a2 fr) : a2.length = n := by
  rcases h with ⟨h, _, _, e, _⟩ | ⟨_, h, _⟩
  · rw [e, h]; rfl
  · exact h.i2.len
theorem FS.lf {n : Nat} {a0 a1 a2 fr : List Nat} (h : FS n a0 a1 a2 fr) : fr.length ≤ n := by
  rcases h with ⟨h, _, _, _, e⟩ | ⟨_, _, h⟩
  · rw [e]; exact Nat.zero_le _
  · exact nodup_bound h.nd fun x hx => (h.ok x hx).1
theorem FI.put {H0 H H' : Hp} {c R r0 r1 r2 fa : Addr} {a0 a1 a2 fr x0 x1 x2 : List Nat} (F : FI H0 H c R r0 r1 r2 fa a0 a1 a2 fr) (W : Rows H' R r0 r1 r2 x0 x1 x2) (f : ∀ b o, H b = some o → b ≠ r0 → b ≠ r1 → b ≠ r2 → H' b = some o) : FI H0 H' c R r0 r1 r2 fa x0 x1 x2 fr :=
  ⟨W, f _ _ F.hf F.f0 F.f1 F.f2, fun b o q d => f b o (F.st b o q d) (F.w0 b o q d) (F.w1 b o q d) (F.w2 b o q d), F.c0, F.c1, F.c2, F.w0, F.w1, F.w2, F.f0, F.f1, F.f2, F.fR⟩
theorem FI.drp {H0 H H' : Hp} {m c R r0 r1 r2 fa : Addr} {n : Nat} {a0 a1 a2 fr : List Nat} (F : FI H0 H c R r0 r1 r2 fa a0 a1 a2 fr) (D : DrAt H m c n) (f : ∀ b o, H b = some o → b ≠ r0 → b ≠ r1 → b ≠ r2 → H' b = some o) : DrAt H' m c n := by
  obtain ⟨L, S, P, cs, h1, h2, r⟩ := D.ex
  exact ⟨L, S, P, cs, f _ _ h1 (ne_of h1 F.rows.h0 (by intro q; cases q)) (ne_of h1 F.rows.h1 (by intro q; cases q)) (ne_of h1 F.rows.h2 (by intro q; cases q)), f _ _ h2 F.c0 F.c1 F.c2, r⟩
theorem FI.putf {H0 H : Hp} {c R r0 r1 r2 fa : Addr} {a0 a1 a2 fr x : List Nat} (h : FI H0 H c R r0 r1 r2 fa a0 a1 a2 fr) (w : Nw H0 fa) : FI H0 (upd H fa (.lst (x.map vn))) c R r0 r1 r2 fa a0 a1 a2 x :=
  ⟨⟨(upd_ne h.fR.symm).trans h.rows.r, (upd_ne h.f0.symm).trans h.rows.h0, (upd_ne h.f1.symm).trans h.rows.h1, (upd_ne h.f2.symm).trans h.rows.h2, h.rows.n1, h.rows.n2, h.rows.n3, h.rows.n4, h.rows.n5, h.rows.n6⟩,
    upd_same, fun b o q d => (upd_ne (w b o q d)).trans (h.st b o q d), h.c0, h.c1, h.c2, h.w0, h.w1, h.w2, h.f0, h.f1, h.f2, h.fR⟩
theorem filt {fr : List Nat} {l : Nat} : (((fr.map vn).filter (fun x => !decide (x = vn l))).map id) = (fr.filter (fun f => decide (f ≠ l))).map vn := by
  rw [List.map_id, List.filter_map]
  congr 1
  refine List.filter_congr fun x _ => ?_
  show (!decide (vn x = vn l)) = decide (x ≠ l)
  by_cases q : x = l
  · rw [decide_eq_true (by rw [q]), decide_eq_false (fun h => h q)]
    rfl
  · rw [decide_eq_false (fun h => q ?_), decide_eq_true q]
    · rfl
    · have := V.int.inj h
      omega
theorem ext_rng1 {N : Nat} {L : Int} {n k : Nat} (h : L = n) (hN : N = k) : ((List.range N).map (fun j : Nat => V.int (L + (1 + (j : Int))))) = ((List.range k).map (fun j => n + (1 + j))).map vn := by
  rw [hN, List.map_map]
  refine List.map_congr_left fun z _ => ?_
  show V.int (L + (1 + (z : Int))) = V.int (((n + (1 + z) : Nat)) : Int)
  rw [h]
  rfl
theorem rng0 {N k : Nat} (hN : N = k) : ((List.range N).map (fun j : Nat => V.int (0 + (j : Int)))) = (List.range k).map vn := by
  rw [hN]
  refine List.map_congr_left fun z _ => ?_
  show V.int (0 + (z : Int)) = V.int (z : Int)
  rw [Int.zero_add]
theorem cut1 (fr : List Nat) : cutV (fr.map vn) (some 1) none = (fr.drop 1).map vn := by
  unfold cutV
  rw [HT.sIx_none, List.length_map]
  have e : HT.sIx fr.length 0 (some 1) = min 1 fr.length := HT.sIx_nat fr.length 0 1
  rw [e, List.map_drop]
  cases fr with
  | nil => rfl
  | cons x r =>
    have : min 1 (x :: r).length = 1 := by rw [List.length_cons]; omega
    rw [this]
    refine List.take_of_length_le ?_
    rw [List.length_drop, List.length_map]
    exact Nat.le_refl _
theorem Free.drop {fr a1 : List Nat} {n : Nat} (F : Free fr a1 n) : Free (fr.drop 1) a1 n := by
  cases fr with
  | nil => exact F
  | cons x r => exact F.tail
theorem words {i : Nat} {v : V} (h : ([V.str ("four" : Str), .str ("zero" : Str), .str ("two" : Str), .str ("both" : Str), .str ("one" : Str)])[i]? = some v) : ∃ w b0 b2 k, v = .str w ∧ WB w b0 b2 k := by
  match i, h with
  | 0, h => exact ⟨_, _, _, _, (Option.some.inj h).symm, .four⟩
  | 1, h => exact ⟨_, _, _, _, (Option.some.inj h).symm, .zero⟩
  | 2, h => exact ⟨_, _, _, _, (Option.some.inj h).symm, .two⟩
  | 3, h => exact ⟨_, _, _, _, (Option.some.inj h).symm, .both⟩
  | 4, h => exact ⟨_, _, _, _, (Option.some.inj h).symm, .one⟩
  | j + 5, h => simp at h
def spFrame : Sp := fun vs H Q _ => ∃ (m c : Addr) (n most : Nat), vs = [.ref m, .int (most : Int)] ∧ DrAt H m c n ∧ n ≤ 10000 ∧ 1 ≤ most ∧ most ≤ 60 ∧
  ∀ (R r0 r1 r2 : Addr) (a0 a1 a2 : List Nat) (N : Nat) (H' : Hp), 0 < N → N ≤ most → Fr a0 a1 a2 N → Rows H' R r0 r1 r2 a0 a1 a2 → DrAt H' m c (n + 200) → St H H' → Q (.ref R) H'
section
variable {P : Program} {w : World} {K : PySem.W.Frag} {mg : Str → Option Value} {base : Heap}
theorem ok_law_frame (T : Txt K mg) : FnOk P w K mg base CX0 3 T.a_law_frame T.d_law_frame ["m", "most"] spFrame := by
  refine T.f_law_frame.ok sc_law_frame (fun vs H Q E h => ?_) (fun cdv A outer s H vs Q E hr h => ?_)
  · obtain ⟨m, c, n, most, rfl, _⟩ := h
    rfl
  · obtain ⟨m, c, nd0, most, rfl, D, hn, m0, m1, k⟩ := h
    have nd := sc_law_frame.nd
    have hu := hu_of hr
    obtain ⟨xc, hc⟩ := D.cell
    refine ⟨_, (pss_cons (ps_par (i := 2) (j := 3) (by rfl) nd rfl rfl (by decide) rfl rfl (pa_cons (pe_lst (pa_cons (pe_lst pa_nil) (pa_cons (pe_lst pa_nil) (pa_cons (pe_lst pa_nil) pa_nil)))) (pa_cons (pe_lst pa_nil) pa_nil)) (by rfl))
  (pss_cons (ps_for PassesOwn.never rfl (pi_range1 (by rfl) T.n_range (pa_cons (pe_op op_add pe_int (pe_call (ok_law_draw T) (hr.mono (by decide)) rfl T.g_law_draw T.k_law_draw T.b_law_draw .nil pass0 (pa_cons (pv 0) (pa_cons pe_int pa_nil)))) pa_nil)) (pg_name (i := 4) nd rfl (Or.inl rfl))
  (pss_cons (ps_set (i := 5) nd rfl (Or.inl rfl) (pe_call (ok_law_of T) (hr.mono (by decide)) rfl T.g_law_of T.k_law_of T.b_law_of .nil pass0 (pa_cons (pv 0) (pa_cons (pe_lst (pa_cons pe_str (pa_cons pe_str (pa_cons pe_str (pa_cons pe_str (pa_cons pe_str pa_nil)))))) pa_nil))))
  (pss_cons (ps_set (i := 6) nd rfl (Or.inl rfl) (pe_dget hu (pe_disp (pps_cons pe_str pe_int (pps_cons pe_str pe_int (pps_cons pe_str pe_int (pps_cons pe_str pe_int (pps_cons pe_str pe_int pps_nil))))) (by rfl) (by rfl) (fun z => by cases z) (by decide)) (pv 5) (fun _ _ => rfl)))
  (pss_cons (ps_set (i := 7) nd rfl (Or.inr rfl) (pe_callB call_len_seq (by rfl) T.n_len (by decide +kernel) (pa_cons (pe_ix ix_list (pv 2) pe_int (fun _ _ => rfl)) pa_nil)))
  (pss_cons (ps_if (PW.pt (pw_or (pt_cmpR op_gt (pe_op op_add (pv 7) (pv 6)) (pv 1) (nomark _)) (pw_or1 (PW.pt (pw_and (pt_cmpR op_gt (pv 7) pe_int (nomark _)) (pw_and1 (pt_cmpR (op_eqD hr.units) (pv 3) (pe_lst pa_nil) (nomark _)))))))) (pss_one ps_continue) pss_nil)
  (pss_cons (ps_expr (pe_call (ok_law_put T) (hr.mono (by decide)) rfl T.g_law_put T.k_law_put T.b_law_put .nil pass0 (pa_cons (pv 2) (pa_cons (pv 5) pa_nil))))
  (pss_one (ps_if (pt_cmpR op_gt (pv 7) pe_int (nomark _)) (pss_cons (ps_set (i := 8) nd rfl (Or.inr rfl) (pe_call (ok_law_of T) (hr.mono (by decide)) rfl T.g_law_of T.k_law_of T.b_law_of .nil pass0 (pa_cons (pv 0) (pa_cons (pv 3) pa_nil))))
  (pss_cons (ps_asg (pv 7) (pg_sub (pe_ix ix_list (pv 2) pe_int (fun _ _ => rfl)) (pv 8) set_list))
  (pss_cons (ps_asg (pv 8) (pg_sub (pe_ix ix_list (pv 2) pe_int (fun _ _ => rfl)) (pv 7) set_list))
  (pss_cons (ps_setLc (i := 3) (own := [("flag", 9)]) (g := gName 9) (tt := _) rfl nd rfl rfl (sw_true rfl rfl rfl (by decide +kernel)) (pi_list (pv 3)) (blkOk_by (own := [("flag", 9)]) (N := ["m", "most", "rows", "free", "turn", "word", "size", "base", "link", "flag", "k", "other"]) (sc := defScope s_law_frame) (by decide +kernel)) (fun _ _ _ _ _ => pg_name (i := 9) nd rfl (Or.inl rfl)) (fun _ _ _ _ _ => (pts_one (pt_cmpR op_ne (pv 9) (pv 8) (nomark _)))) (fun _ _ _ _ _ => (pv 9)))
  (pss_one (ps_expr (pe_bm PySem.F.plainAttrs_list PySem.F.slot_list_extend PySem.F.type_list_extend mt_extend (pv 3) (pa_cons (pe_lc (own := [("k", 10)]) (g := gName 10) (tt := tYes) rfl nd (pi_range2 (by rfl) T.n_range (pa_cons pe_int (pa_cons (pv 6) pa_nil))) (blkOk_by (own := [("k", 10)]) (N := ["m", "most", "rows", "free", "turn", "word", "size", "base", "link", "flag", "k", "other"]) (sc := defScope s_law_frame) (by decide +kernel)) (fun _ _ _ _ _ => pg_name (i := 10) nd rfl (Or.inl rfl)) (fun _ _ _ _ _ => pts_nil) (fun _ _ _ _ _ => (pe_op op_add (pv 7) (pv 10)))) pa_nil)))))))) (pss_one (ps_setLc (i := 3) (own := [("k", 10)]) (g := gName 10) (tt := tYes) rfl nd rfl rfl (sw_true rfl rfl rfl (by decide +kernel)) (pi_range1 (by rfl) T.n_range (pa_cons (pv 6) pa_nil)) (blkOk_by (own := [("k", 10)]) (N := ["m", "most", "rows", "free", "turn", "word", "size", "base", "link", "flag", "k", "other"]) (sc := defScope s_law_frame) (by decide +kernel)) (fun _ _ _ _ _ => pg_name (i := 10) nd rfl (Or.inl rfl)) (fun _ _ _ _ _ => pts_nil) (fun _ _ _ _ _ => (pv 10))))))))))))
  (pss_cons (ps_if (pt_cmpR (op_eqD hr.units) (pe_ix ix_list (pv 2) pe_int (fun _ _ => rfl)) (pe_lst pa_nil) (nomark _)) (pss_cons (ps_expr (pe_call (ok_law_put T) (hr.mono (by decide)) rfl T.g_law_put T.k_law_put T.b_law_put .nil pass0 (pa_cons (pv 2) (pa_cons pe_str pa_nil))))
  (pss_one (ps_ret (pv 2)))) pss_nil)
  (pss_cons (ps_for PassesOwn.never rfl (pi_range1 (by rfl) T.n_range (pa_cons (pe_callB call_len_seq (by rfl) T.n_len (by decide +kernel) (pa_cons (pv 3) pa_nil)) pa_nil)) (pg_name (i := 4) nd rfl (Or.inl rfl))
  (pss_one (ps_if (PW.pt (pw_and (pt_cmpR op_gt (pe_callB call_len_seq (by rfl) T.n_len (by decide +kernel) (pa_cons (pv 3) pa_nil)) pe_int (nomark _)) (pw_and1 (pt_cmpR op_gt (pe_call (ok_law_draw T) (hr.mono (by decide)) rfl T.g_law_draw T.k_law_draw T.b_law_draw .nil pass0 (pa_cons (pv 0) (pa_cons pe_int pa_nil))) pe_int (nomark _))))) (pss_cons (ps_set (i := 11) nd rfl (Or.inr rfl) (pe_call (ok_law_of T) (hr.mono (by decide)) rfl T.g_law_of T.k_law_of T.b_law_of .nil pass0 (pa_cons (pv 0) (pa_cons (pe_slice sl_list (pv 3) (po_some pe_int) po_none) pa_nil))))
  (pss_cons (ps_asg (pv 11) (pg_sub (pe_ix ix_list (pv 2) pe_int (fun _ _ => rfl)) (pe_ix ix_list (pv 3) pe_int (fun _ _ => rfl)) set_list))
  (pss_cons (ps_asg (pe_ix ix_list (pv 3) pe_int (fun _ _ => rfl)) (pg_sub (pe_ix ix_list (pv 2) pe_int (fun _ _ => rfl)) (pv 11) set_list))
  (pss_one (ps_setLc (i := 3) (own := [("flag", 9)]) (g := gName 9) (tt := _) rfl nd rfl rfl (sw_true rfl rfl rfl (by decide +kernel)) (pi_list (pe_slice sl_list (pv 3) (po_some pe_int) po_none)) (blkOk_by (own := [("flag", 9)]) (N := ["m", "most", "rows", "free", "turn", "word", "size", "base", "link", "flag", "k", "other"]) (sc := defScope s_law_frame) (by decide +kernel)) (fun _ _ _ _ _ => pg_name (i := 9) nd rfl (Or.inl rfl)) (fun _ _ _ _ _ => (pts_one (pt_cmpR op_ne (pv 9) (pv 11) (nomark _)))) (fun _ _ _ _ _ => (pv 9))))))) (pss_one (ps_set (i := 3) nd rfl (Or.inl rfl) (pe_slice sl_list (pv 3) (po_some pe_int) po_none))))))
  (pss_one (ps_ret (pv 2))))))), ?_⟩
    walk_at "rd"
    intro p1 np1
    generalize e1 : upd H p1 _ = H1
    have hp1 := updE e1
    have s1 := updS np1 e1
    first | replace D := s1 _ _ D | replace D := s1.seq D | replace D := sameSqt s1 D | replace D := sameDr s1 D | replace D := Rows.same s1 D | replace D := Sq.same s1 D
    walk_at "rd"
    intro p2 np2
    generalize e2 : upd H1 p2 _ = H2
    have hp2 := updE e2
    have s2 := updS np2 e2
    first | replace D := s2 _ _ D | replace D := s2.seq D | replace D := sameSqt s2 D | replace D := sameDr s2 D | replace D := Rows.same s2 D | replace D := Sq.same s2 D
    first | replace hp1 := s2 _ _ hp1 | replace hp1 := s2.seq hp1 | replace hp1 := sameSqt s2 hp1 | replace hp1 := sameDr s2 hp1 | replace hp1 := Rows.same s2 hp1 | replace hp1 := Sq.same s2 hp1
    walk_at "rd"
    intro p3 np3
    generalize e3 : upd H2 p3 _ = H3
    have hp3 := updE e3
    have s3 := updS np3 e3
    first | replace D := s3 _ _ D | replace D := s3.seq D | replace D := sameSqt s3 D | replace D := sameDr s3 D | replace D := Rows.same s3 D | replace D := Sq.same s3 D
    first | replace hp1 := s3 _ _ hp1 | replace hp1 := s3.seq hp1 | replace hp1 := sameSqt s3 hp1 | replace hp1 := sameDr s3 hp1 | replace hp1 := Rows.same s3 hp1 | replace hp1 := Sq.same s3 hp1
    first | replace hp2 := s3 _ _ hp2 | replace hp2 := s3.seq hp2 | replace hp2 := sameSqt s3 hp2 | replace hp2 := sameDr s3 hp2 | replace hp2 := Rows.same s3 hp2 | replace hp2 := Sq.same s3 hp2
    walk_at "rd"
    intro p4 np4
    generalize e4 : upd H3 p4 _ = H4
    have hp4 := updE e4
    have s4 := updS np4 e4
    first | replace D := s4 _ _ D | replace D := s4.seq D | replace D := sameSqt s4 D | replace D := sameDr s4 D | replace D := Rows.same s4 D | replace D := Sq.same s4 D
    first | replace hp1 := s4 _ _ hp1 | replace hp1 := s4.seq hp1 | replace hp1 := sameSqt s4 hp1 | replace hp1 := sameDr s4 hp1 | replace hp1 := Rows.same s4 hp1 | replace hp1 := Sq.same s4 hp1
    first | replace hp2 := s4 _ _ hp2 | replace hp2 := s4.seq hp2 | replace hp2 := sameSqt s4 hp2 | replace hp2 := sameDr s4 hp2 | replace hp2 := Rows.same s4 hp2 | replace hp2 := Sq.same s4 hp2
    first | replace hp3 := s4 _ _ hp3 | replace hp3 := s4.seq hp3 | replace hp3 := sameSqt s4 hp3 | replace hp3 := sameDr s4 hp3 | replace hp3 := Rows.same s4 hp3 | replace hp3 := Sq.same s4 hp3
    walk_at "rd"
    intro p5 np5
    generalize e5 : upd H4 p5 _ = H5
    have hp5 := updE e5
    have s5 := updS np5 e5
    first | replace D := s5 _ _ D | replace D := s5.seq D | replace D := sameSqt s5 D | replace D := sameDr s5 D | replace D := Rows.same s5 D | replace D := Sq.same s5 D
    first | replace hp1 := s5 _ _ hp1 | replace hp1 := s5.seq hp1 | replace hp1 := sameSqt s5 hp1 | replace hp1 := sameDr s5 hp1 | replace hp1 := Rows.same s5 hp1 | replace hp1 := Sq.same s5 hp1
    first | replace hp2 := s5 _ _ hp2 | replace hp2 := s5.seq hp2 | replace hp2 := sameSqt s5 hp2 | replace hp2 := sameDr s5 hp2 | replace hp2 := Rows.same s5 hp2 | replace hp2 := Sq.same s5 hp2
    first | replace hp3 := s5 _ _ hp3 | replace hp3 := s5.seq hp3 | replace hp3 := sameSqt s5 hp3 | replace hp3 := sameDr s5 hp3 | replace hp3 := Rows.same s5 hp3 | replace hp3 := Sq.same s5 hp3
    first | replace hp4 := s5 _ _ hp4 | replace hp4 := s5.seq hp4 | replace hp4 := sameSqt s5 hp4 | replace hp4 := sameDr s5 hp4 | replace hp4 := Rows.same s5 hp4 | replace hp4 := Sq.same s5 hp4
    have z2 : H p2 = none := s1.free np2
    have z3 : H p3 = none := s1.free (s2.free np3)
    have z4 : H p4 = none := s1.free (s2.free (s3.free np4))
    have z5 : H p5 = none := s1.free (s2.free (s3.free (s4.free np5)))
    have ss : Same H H5 := fun b o h => s5 _ _ (s4 _ _ (s3 _ _ (s2 _ _ (s1 _ _ h))))
    have t1 := updE e1
    have t2 := updE e2
    have t3 := updE e3
    have t4 := updE e4
    have n12 := ne_of_none t1 np2
    have n13 := ne_of_none (s2 _ _ t1) np3
    have n23 := ne_of_none t2 np3
    have n14 := ne_of_none (s3 _ _ (s2 _ _ t1)) np4
    have n24 := ne_of_none (s3 _ _ t2) np4
    have n34 := ne_of_none t3 np4
    have n15 := ne_of_none (s4 _ _ (s3 _ _ (s2 _ _ t1))) np5
    have n25 := ne_of_none (s4 _ _ (s3 _ _ t2)) np5
    have n35 := ne_of_none (s4 _ _ t3) np5
    have n45 := ne_of_none t4 np5
    have F0 : FI H H5 c p4 p1 p2 p3 p5 [] [] [] [] :=
      ⟨⟨hp4, hp1, hp2, hp3, n12, n13, n23, n14.symm, n24.symm, n34.symm⟩, hp5, Same.st ss, ne_of_none hc np1, ne_of_none hc z2, ne_of_none hc z3, Nw.of (St.refl H) np1, Nw.of (St.refl H) z2, Nw.of (St.refl H) z3, n15.symm, n25.symm, n35.symm, n45.symm⟩
    clear e1 e2 e3 e4 e5 t1 t2 t3 t4 n12 n13 n23 n14 n24 n34 n15 n25 n35 n45 hp1 hp2 hp3 hp4 hp5 np1 np2 np3 np4 np5 z2 z3 z4 z5 s1 s2 s3 s4 s5 ss hc
    walk_at "rd"
    refine ⟨_, _, _, _, rfl, D, by omega, by omega, by omega, fun r H6 ra rb D6 st6 => ?_⟩
    obtain ⟨r, rfl⟩ : ∃ z : Nat, r = (z : Int) := ⟨r.toNat, by omega⟩
    replace F0 := F0.sto st6
    have b62 : (1 : Int) + (r : Int) < 2 ^ 62 := by omega
    have b63 : -(2 ^ 62) ≤ (1 : Int) + (r : Int) := by omega
    refine ⟨_, _, rfl, rfl, _, rfl, b63, b62, ?_⟩
    have er : ((1 : Int) + (r : Int)).toNat = 1 + r := by omega
    refine for_range (lo := 0) (fun j σ H' => ∃ (fa : Addr) (n : Nat) (a0 a1 a2 fr : List Nat) (v4 v5 v6 v7 v8 v9 v10 v11 : Option V), σ = [some (.ref m), some (.int (most : Int)), some (.ref p4), some (.ref fa), v4, v5, v6, v7, v8, v9, v10, v11] ∧
      FI H H' c p4 p1 p2 p3 fa a0 a1 a2 fr ∧ FS n a0 a1 a2 fr ∧ n ≤ most ∧ DrAt H' m c (nd0 + 1 + 2 * j)) ?_ ?_ ?_
    · exact ⟨p5, 0, [], [], [], [], none, none, none, none, none, none, none, none, rfl, F0, .inl ⟨rfl, rfl, rfl, rfl, rfl⟩, Nat.zero_le _, D6⟩
    · rintro j σ H' hj ⟨fa, n, a0, a1, a2, fr, v4, v5, v6, v7, v8, v9, v10, v11, rfl, F, S, hnm, D⟩
      have hj6 : j < 6 := by omega
      walk_at "rd"
      intro p21 np21
      generalize e21 : upd H' p21 _ = H21
      have hp21 := updE e21
      have s21 := updS np21 e21
      first | replace D := s21 _ _ D | replace D := s21.seq D | replace D := sameSqt s21 D | replace D := sameDr s21 D | replace D := Rows.same s21 D | replace D := Sq.same s21 D
      replace F := F.same s21
      refine ⟨_, _, _, _, _, rfl, D, by omega, hp21, Nat.le_of_ble_eq_true rfl, Nat.le_of_ble_eq_true rfl, fun i v H22 hi hv D22 st22 => ?_⟩
      obtain ⟨wo, b0, b2, kk, rfl, W⟩ := words hv
      replace F := F.sto st22
      clear hp21 np21 s21 st22 e21 D
      walk_at "rd"
      intro p23 np23
      generalize e23 : upd H22 p23 _ = H23
      have hp23 := updE e23
      have s23 := updS np23 e23
      walk_at "rd"
      refine ⟨wd (.int 4) (.int 2) (.int 2) (.int 2) (.int 1), rfl, Nat.le_of_ble_eq_true rfl, ?_⟩
      rw [wd_made]
      generalize e24 : upd H23 p23 _ = H24
      have hd := updE e24
      have s24 : Same H22 H24 := by
        rw [← e24]
        exact sameApp s23 np23
      have D24 := sameDr s24 D22
      replace F := F.same s24
      obtain ⟨_, hx, rfl⟩ := wd_get (x1 := .int 4) (x2 := .int 2) (x3 := .int 2) (x4 := .int 2) (x5 := .int 1) W (R := fun x => x = V.int (kk : Int)) (fun _ _ h => by rw [h]; rfl) (fun _ _ h => by rw [h]; rfl) (fun _ _ h => by rw [h]; rfl) (fun _ _ h => by rw [h]; rfl) (fun _ _ h => by rw [h]; rfl)
      refine ⟨_, rfl, p23, _, rfl, dg hd hx, ?_⟩
      clear hp23 np23 e23 s23 e24 s24 hd hx D22 hv hi
      have qR := SqL.of (K := K) F.rows.r
      have h0 := F.rows.h0
      have hfa := F.hf
      have l0 := S.l0
      have en : (((a0.map vn).length : Nat) : Int) = n := by rw [List.length_map, l0]
      have kb := W.blk
      have kpos := kb.pos
      have kk4 : kk ≤ 4 := by cases W <;> decide
      walk_at "rd"
      refine ite2 (fun h => ?_) (fun h => ?_)
      · exact ⟨fa, n, a0, a1, a2, fr, _, _, _, _, _, _, _, _, rfl, F, S, hnm, D24.up (by omega)⟩
      have hk : n + kk ≤ most := by
        by_cases q : n + kk ≤ most
        · exact q
        · exact absurd (decide_eq_true (by rw [en]; omega)) h
      walk_at "rd"
      refine ite2 (fun h1 => ?_) (fun h1 => ?_)
      · have npos : 0 < n := by
          have := of_decide_eq_true h1
          omega
        walk_at "rd"
        intro p25 np25
        generalize e25 : upd H24 p25 _ = H25
        have hp25 := updE e25
        have s25 := updS np25 e25
        first | replace D24 := s25 _ _ D24 | replace D24 := s25.seq D24 | replace D24 := sameSqt s25 D24 | replace D24 := sameDr s25 D24 | replace D24 := Rows.same s25 D24 | replace D24 := Sq.same s25 D24
        replace F := F.same s25
        refine rEqLN (ys := []) (SqL.of F.hf) (SqL.of hp25) ?_
        walk_at "rd"
        refine ite2 (fun h2 => ?_) (fun h2 => ?_)
        · exact ⟨fa, n, a0, a1, a2, fr, _, _, _, _, _, _, _, _, rfl, F, S, hnm, D24.up (by omega)⟩
        have hne : fr ≠ [] := fun q => h2 (decide_eq_true q)
        walk_at "rd"
        refine ⟨p4, p1, p2, p3, a0, a1, a2, b0, b2, wo, kk, n, rfl, F.rows, W, l0, S.l1, S.l2, by omega, fun H26 W26 fr26 => ?_⟩
        have F26 := F.put W26 fr26
        have D26 := F.drp D24 fr26
        clear s25 e25 np25 hp25 qR h0 hfa
        walk_at "rd"
        refine ite2 (fun _ => ?_) (fun q => absurd (decide_eq_true (by omega)) q)
        walk_at "rd"
        refine ⟨_, _, _, _, _, rfl, D26, by omega, F26.hf, by rw [List.length_map]; exact List.length_pos_iff.mpr hne, by rw [List.length_map]; have := S.lf; omega, fun i v H27 hi hv D27 st27 => ?_⟩
        obtain ⟨l, rfl, hl⟩ := vn_item hv
        have lm : l ∈ fr := List.mem_of_getElem? hl
        have F27 := F26.sto st27
        have slf := S.lf
        have sl1 := S.l1
        obtain ⟨S0, S1, S2⟩ : 0 < n ∧ Fr a0 a1 a2 n ∧ Free fr a1 n := by
          rcases S with ⟨q, _⟩ | q
          · omega
          · exact q
        obtain ⟨ln, el⟩ := S2.ok l lm
        have la : (ap a1 (List.range kk) n).length = n + kk := by
          unfold ap
          rw [List.length_append, List.length_map, List.length_range, sl1]
        clear hv hi st27 F26 D26 W26 fr26
        have qR := SqL.of (K := K) F27.rows.r
        refine ⟨_, rfl, _, rfl, _, _, _, _, rfl, rfl, qR, atI_nat (j := 1) rfl, _, rfl, _, _, _, l, rfl, rfl, F27.rows.h1, ixN_nat (by rw [List.length_map, la]; omega), ?_⟩
        have es : ((ap a1 (List.range kk) n).map vn).set l (V.int (((a0.map vn).length : Nat) : Int)) = ((ap a1 (List.range kk) n).set l n).map vn := by
          rw [en, List.map_set]
          rfl
        rw [es]
        generalize e28 : upd H27 p2 _ = H28
        have F28 : FI H H28 c p4 p1 p2 p3 fa (ap a0 b0 n) ((ap a1 (List.range kk) n).set l n) (ap a2 b2 n) fr := by rw [← e28]; exact F27.put1
        have D28 : DrAt H28 m c (nd0 + 1 + 2 * j + 1 + 1) := by rw [← e28]; exact D27.put F27.rows.h1 F27.c1
        clear e28 F27 D27 es
        replace qR := SqL.of (K := K) F28.rows.r
        refine ⟨_, rfl, _, rfl, _, _, _, _, rfl, rfl, qR, atI_nat (j := 1) rfl, _, rfl, _, _, _, n, rfl, rfl, F28.rows.h1, by rw [en]; exact ixN_nat (by rw [List.length_map, List.length_set, la]; omega), ?_⟩
        have es : (((ap a1 (List.range kk) n).set l n).map vn).set n (vn l) = (((ap a1 (List.range kk) n).set l n).set n l).map vn := by
          exact List.map_set.symm
        rw [es]
        generalize e29 : upd H28 p2 _ = H29
        have F29 : FI H H29 c p4 p1 p2 p3 fa (ap a0 b0 n) (((ap a1 (List.range kk) n).set l n).set n l) (ap a2 b2 n) fr := by rw [← e29]; exact F28.put1
        have D29 : DrAt H29 m c (nd0 + 1 + 2 * j + 1 + 1) := by rw [← e29]; exact D28.put F28.rows.h1 F28.c1
        clear e29 F28 D28 es
        refine ⟨_, rfl, _, rfl, ⟨_, SqL.of F29.hf⟩, fun Df nDf => lc_fm (K := K) (xs := fr.map vn) (fun x => !decide (x = vn l)) id (SqL.of F29.hf) nDf (by rw [List.length_map]; omega) (fun _ => rfl) ?_ ?_ ?_⟩
        · intro x H' R' hx sm r
          obtain ⟨z, hz, rfl⟩ := List.mem_map.mp hx
          exact ⟨_, rfl, _, rfl, rfl, _, rfl, r⟩
        · intro x H' R' hx _ sm r
          exact ⟨_, rfl, r⟩
        intro H30 s30 hDf
        rw [filt] at hDf
        have F30 := F29.free s30 nDf hDf
        have D30 := sameDr s30 D29
        have wf : Nw H Df := Nw.of F29.st nDf
        have cf : c ≠ Df := by
          obtain ⟨xc, hxc⟩ := D29.cell
          exact ne_of_none hxc nDf
        clear F29 D29 s30 nDf
        refine ⟨_, rfl, .inl ⟨rfl, _, SqL.of F30.hf⟩, _, rfl, _, _, rfl, ⟨by omega, by omega, by omega, by omega⟩, fun D1 nD1 => lc_fmr (lo := 1) (fun j : Nat => V.int ((((a0.map vn).length : Nat) : Int) + (1 + (j : Int)))) nD1 (by omega) (fun _ => rfl) ?_ ?_⟩
        · intro j H' R' hj sm r
          exact ⟨_, rfl, _, rfl, _, _, rfl, rfl, r⟩
        intro H31 s31 hD1
        rw [ext_rng1 (k := kk - 1) en (by omega)] at hD1
        have F31 := F30.same s31
        have D31 := sameDr s31 D30
        refine ⟨_, _, _, _, rfl, rfl, F31.hf, hD1, sz (by simp only [List.length_map, List.length_range]; have := List.length_filter_le (fun f => decide (f ≠ l)) fr; omega), ?_⟩
        rw [← List.map_append]
        generalize e32 : upd H31 Df _ = H32
        have F32 : FI H H32 c p4 p1 p2 p3 Df (ap a0 b0 n) (((ap a1 (List.range kk) n).set l n).set n l) (ap a2 b2 n) (fr.filter (fun f => decide (f ≠ l)) ++ (List.range (kk - 1)).map (fun j => n + (1 + j))) := by rw [← e32]; exact F31.putf wf
        have D32 : DrAt H32 m c (nd0 + 1 + 2 * j + 1 + 1) := by rw [← e32]; exact D31.put F31.hf cf
        exact ⟨Df, n + kk, _, _, _, _, _, _, _, _, _, _, _, _, rfl, F32, .inr ⟨by omega, Fr.link S1 kb ln el, Free.link S2 sl1 ln kpos⟩, hk, D32.up (by omega)⟩
      · have n0 : n = 0 := by
          by_cases q : n = 0
          · exact q
          · exact absurd (decide_eq_true (by rw [en]; omega)) h1
        walk_at "rd"
        refine ⟨p4, p1, p2, p3, a0, a1, a2, b0, b2, wo, kk, n, rfl, F.rows, W, l0, S.l1, S.l2, by omega, fun H26 W26 fr26 => ?_⟩
        have F26 := F.put W26 fr26
        have D26 := F.drp D24 fr26
        clear qR h0 hfa
        walk_at "rd"
        refine ite2 (fun q => absurd (of_decide_eq_true q) (by omega)) (fun _ => ?_)
        refine ⟨_, rfl, _, rfl, by omega, by omega, fun Df nDf => lc_fmr (lo := 0) (fun j : Nat => V.int (0 + (j : Int))) nDf (by omega) (fun _ => rfl) ?_ ?_⟩
        · intro j H' R' hj sm r
          exact ⟨_, rfl, r⟩
        intro H30 s30 hDf
        rw [rng0 (k := kk) (by omega)] at hDf
        have F30 := F26.free s30 nDf hDf
        have D30 := sameDr s30 D26
        have FSn : FS kk (ap a0 b0 n) (ap a1 (List.range kk) n) (ap a2 b2 n) (List.range kk) := by
          rcases S with ⟨q0, q1, q2, q3, q4⟩ | ⟨q, _⟩
          · subst q0 q1 q2 q3 q4
            exact .inr ⟨kpos, Fr.first kb, Free.first kk⟩
          · omega
        exact ⟨Df, kk, _, _, _, _, _, _, _, _, _, _, _, _, rfl, F30, FSn, by omega, D30.up (by omega)⟩
    · rintro σ H' ⟨fa, n, a0, a1, a2, fr, v4, v5, v6, v7, v8, v9, v10, v11, rfl, F, S, hnm, D⟩
      replace D : DrAt H' m c (nd0 + 13) := D.up (by omega)
      clear F0 D6 b62 b63 ra rb
      have qR := SqL.of (K := K) F.rows.r
      refine ⟨_, rfl, _, _, _, _, rfl, rfl, qR, atI_nat (j := 0) rfl, Nat.zero_le _, ?_⟩
      intro p31 np31
      generalize e31 : upd H' p31 _ = H31
      have hp31 := updE e31
      have s31 := updS np31 e31
      first | replace D := s31 _ _ D | replace D := s31.seq D | replace D := sameSqt s31 D | replace D := sameDr s31 D | replace D := Rows.same s31 D | replace D := Sq.same s31 D
      replace F := F.same s31
      refine rEqLN (ys := []) (SqL.of F.rows.h0) (SqL.of hp31) ?_
      refine ⟨_, rfl, ?_⟩
      refine ite2 (fun h => ?_) (fun h => ?_)
      · have ea := of_decide_eq_true h
        have l0 := S.l0
        rw [ea] at l0
        refine ⟨_, rfl, p4, p1, p2, p3, a0, a1, a2, [0], [0], _, 1, n, rfl, F.rows, .one, S.l0, S.l1, S.l2, by omega, fun H32 W32 fr32 => ?_⟩
        have F32 := F.put W32 fr32
        have D32 := F.drp D fr32
        have FSn : Fr (ap a0 [0] n) (ap a1 (List.range 1) n) (ap a2 [0] n) 1 := by
          rcases S with ⟨q0, q1, q2, q3, q4⟩ | ⟨q, _⟩
          · subst q0 q1 q2 q3 q4
            exact Fr.first blk_one
          · have : n = 0 := l0.symm
            omega
        exact ⟨_, rfl, k _ _ _ _ _ _ _ 1 _ (by decide) m0 FSn W32 (D32.up (by omega)) F32.st⟩
      obtain ⟨S0, S1, S2⟩ : 0 < n ∧ Fr a0 a1 a2 n ∧ Free fr a1 n := by
        rcases S with ⟨_, q, _⟩ | q
        · exact absurd (decide_eq_true q) h
        · exact q
      have lf : fr.length ≤ n := nodup_bound S2.nd fun x hx => (S2.ok x hx).1
      have hfa := F.hf
      clear h s31 np31 hp31 e31 qR
      have ef : (((fr.map vn).length : Nat) : Int) = fr.length := by rw [List.length_map]
      refine ⟨_, rfl, _, _, rfl, .inl (SqL.of hfa), _, rfl, by omega, by omega, ?_⟩
      refine for_range (lo := 0) (fun j σ H' => ∃ (fa : Addr) (a1 fr : List Nat) (v4 v5 v6 v7 v8 v9 v10 v11 : Option V), σ = [some (.ref m), some (.int (most : Int)), some (.ref p4), some (.ref fa), v4, v5, v6, v7, v8, v9, v10, v11] ∧
        FI H H' c p4 p1 p2 p3 fa a0 a1 a2 fr ∧ Fr a0 a1 a2 n ∧ Free fr a1 n ∧ DrAt H' m c (nd0 + 13 + 2 * j)) ⟨fa, a1, fr, v4, v5, v6, v7, v8, v9, v10, v11, rfl, F, S1, S2, D⟩ ?_ ?_
      · clear S1 S2 F D hfa ef
        rintro j σ H' hj ⟨fa, a1, fr, v4, v5, v6, v7, v8, v9, v10, v11, rfl, F, A, B, D⟩
        have hj2 : j < 60 := by rw [List.length_map, Int.toNat_natCast] at hj; omega
        have lf : fr.length ≤ n := nodup_bound B.nd fun x hx => (B.ok x hx).1
        have hfa := F.hf
        refine ⟨_, rfl, _, _, rfl, .inl (SqL.of hfa), _, _, rfl, rfl, _, rfl, ?_⟩
        refine ite2 (fun h => ?_) (fun h => ?_)
        · refine ⟨_, rfl, _, _, _, _, rfl, D, by omega, by omega, by omega, fun r2 H41 r2a r2b D41 st41 => ?_⟩
          replace F := F.sto st41
          refine ⟨_, _, rfl, rfl, _, rfl, ?_⟩
          refine ite2 (fun h2 => ?_) (fun h2 => ?_)
          · have h3 := of_decide_eq_true h
            rw [List.length_map] at h3
            obtain ⟨x, r, rfl⟩ : ∃ x r, fr = x :: r := by
              cases fr with
              | nil => simp at h3
              | cons x r => exact ⟨x, r, rfl⟩
            clear D st41 hfa
            refine ⟨_, rfl, _, rfl, _, rfl, _, _, rfl, SqL.of F.hf, ?_⟩
            intro p42 np42
            generalize e42 : upd H41 p42 _ = H42
            have hp42 := updE e42
            have s42 := updS np42 e42
            first | replace D41 := s42 _ _ D41 | replace D41 := s42.seq D41 | replace D41 := sameSqt s42 D41 | replace D41 := sameDr s42 D41 | replace D41 := Rows.same s42 D41 | replace D41 := Sq.same s42 D41
            rw [cut1] at hp42
            replace F := F.same s42
            have sl1 := A.i1.len
            refine ⟨_, _, _, _, _, rfl, D41, by omega, hp42, by rw [List.length_map]; simp only [List.length_cons] at h3 ⊢; show 0 < r.length; omega, by rw [List.length_map]; show r.length ≤ 1000; simp only [List.length_cons] at lf; omega, fun i v H43 hi hv D43 st43 => ?_⟩
            obtain ⟨l, rfl, hl⟩ := vn_item hv
            have lm : l ∈ r := List.mem_of_getElem? hl
            replace F := F.sto st43
            obtain ⟨xn, ex⟩ := B.ok x (List.mem_cons_self ..)
            obtain ⟨ln, el⟩ := B.ok l (List.mem_cons_of_mem _ lm)
            have xl : x ≠ l := fun q => (List.nodup_cons.mp B.nd).1 (by rw [q]; exact lm)
            clear hv hi st43 D41 s42 hp42 np42 e42 h2 h
            have qR := SqL.of (K := K) F.rows.r
            have qf := SqL.of (K := K) F.hf
            refine ⟨_, rfl, _, rfl, _, _, _, _, rfl, rfl, qR, atI_nat (j := 1) rfl, _, rfl, _, _, _, _, rfl, rfl, qf, atI_nat (j := 0) rfl, _, _, _, x, rfl, rfl, F.rows.h1, ixN_nat (by rw [List.length_map, sl1]; omega), ?_⟩
            have es : (a1.map vn).set x (vn l) = (a1.set x l).map vn := List.map_set.symm
            rw [es]
            generalize e44 : upd H43 p2 _ = H44
            have F44 : FI H H44 c p4 p1 p2 p3 fa a0 (a1.set x l) a2 (x :: r) := by rw [← e44]; exact F.put1
            have D44 : DrAt H44 m c (nd0 + 13 + 2 * j + 1 + 1) := by rw [← e44]; exact D43.put F.rows.h1 F.c1
            clear e44 F D43 es qR qf
            have qR := SqL.of (K := K) F44.rows.r
            have qf := SqL.of (K := K) F44.hf
            refine ⟨_, rfl, _, _, _, _, rfl, rfl, qf, atI_nat (j := 0) rfl, _, rfl, _, _, _, _, rfl, rfl, qR, atI_nat (j := 1) rfl, _, rfl, _, _, _, l, rfl, rfl, F44.rows.h1, ixN_nat (by rw [List.length_map, List.length_set, sl1]; omega), ?_⟩
            have es : ((a1.set x l).map vn).set l (vn x) = ((a1.set x l).set l x).map vn := List.map_set.symm
            rw [es]
            generalize e45 : upd H44 p2 _ = H45
            have F45 : FI H H45 c p4 p1 p2 p3 fa a0 ((a1.set x l).set l x) a2 (x :: r) := by rw [← e45]; exact F44.put1
            have D45 : DrAt H45 m c (nd0 + 13 + 2 * j + 1 + 1) := by rw [← e45]; exact D44.put F44.rows.h1 F44.c1
            clear e45 F44 D44 es qR qf
            refine ⟨_, rfl, _, rfl, _, _, rfl, SqL.of F45.hf, ?_⟩
            intro p46 np46
            generalize e46 : upd H45 p46 _ = H46
            have hp46 := updE e46
            have s46 := updS np46 e46
            first | replace D45 := s46 _ _ D45 | replace D45 := s46.seq D45 | replace D45 := sameSqt s46 D45 | replace D45 := sameDr s46 D45 | replace D45 := Rows.same s46 D45 | replace D45 := Sq.same s46 D45
            rw [cut1] at hp46
            have F46 := F45.same s46
            refine ⟨_, rfl, ⟨_, SqL.of hp46⟩, fun Df nDf => lc_fm (K := K) (xs := ((x :: r).drop 1).map vn) (fun y => !decide (y = vn l)) id (SqL.of hp46) nDf (by rw [List.length_map]; show r.length ≤ 1000; simp only [List.length_cons] at lf; omega) (fun _ => rfl) ?_ ?_ ?_⟩
            · intro y H' R' hy sm q
              obtain ⟨z, hz, rfl⟩ := List.mem_map.mp hy
              exact ⟨_, rfl, _, rfl, rfl, _, rfl, q⟩
            · intro y H' R' hy _ sm q
              exact ⟨_, rfl, q⟩
            intro H47 s47 hDf
            rw [filt] at hDf
            have F47 := F46.free s47 nDf hDf
            have D47 := sameDr s47 D45
            exact ⟨Df, (a1.set x l).set l x, r.filter (fun f => decide (f ≠ l)), _, _, _, _, _, _, _, _, rfl, F47, A.swap xn ln xl ex el, B.pair sl1 lm, D47.up (by omega)⟩
          · refine ⟨_, rfl, _, rfl, _, _, rfl, SqL.of F.hf, ?_⟩
            intro p51 np51
            generalize e51 : upd H41 p51 _ = H51
            have hp51 := updE e51
            have s51 := updS np51 e51
            first | replace D41 := s51 _ _ D41 | replace D41 := s51.seq D41 | replace D41 := sameSqt s51 D41 | replace D41 := sameDr s51 D41 | replace D41 := Rows.same s51 D41 | replace D41 := Sq.same s51 D41
            rw [cut1] at hp51
            have F51 := F.free s51 np51 hp51
            exact ⟨p51, a1, fr.drop 1, _, _, _, _, _, _, _, _, rfl, F51, A, B.drop, D41.up (by omega)⟩
        · refine ⟨_, rfl, _, rfl, _, _, rfl, SqL.of F.hf, ?_⟩
          intro p51 np51
          generalize e51 : upd H' p51 _ = H51
          have hp51 := updE e51
          have s51 := updS np51 e51
          first | replace D := s51 _ _ D | replace D := s51.seq D | replace D := sameSqt s51 D | replace D := sameDr s51 D | replace D := Rows.same s51 D | replace D := Sq.same s51 D
          rw [cut1] at hp51
          have F51 := F.free s51 np51 hp51
          exact ⟨p51, a1, fr.drop 1, _, _, _, _, _, _, _, _, rfl, F51, A, B.drop, D.up (by omega)⟩
      · rintro σ H' ⟨fa, a1, fr, v4, v5, v6, v7, v8, v9, v10, v11, rfl, F, A, B, D⟩
        have := lf
        exact ⟨_, rfl, k _ _ _ _ _ _ _ n _ S0 hnm A F.rows (D.up (by rw [List.length_map, Int.toNat_natCast]; omega)) F.st⟩
end

end Toy
namespace Toy
open PySem L2
local macro_rules | `(tactic| walk_at "rd1") => `(tactic| first
  | with_reducible assumption
  | refine ⟨_, rfl, ?_⟩
  | refine ⟨_, _, rfl, rfl, ?_⟩
  | refine ⟨_, _, rfl, ?_⟩
  | refine ⟨_, _, rfl, dg (by assumption) mk_left, ?_⟩
  | refine ⟨_, _, rfl, dg (by assumption) mk_seed, ?_⟩
  | refine ⟨_, _, rfl, dg (by assumption) mk_cells, ?_⟩
  | refine ⟨_, _, rfl, dg (by assumption) mk_spot, ?_⟩
  | refine ⟨_, _, rfl, .inl (SqL.of (by assumption)), ?_⟩
  | refine ⟨_, _, rfl, .inr (SqT.of (by assumption)), ?_⟩
  | refine ⟨_, _, rfl, .inl (by assumption), ?_⟩
  | refine ⟨_, _, rfl, .inr (by assumption), ?_⟩
  | refine ⟨_, _, _, _, rfl, rfl, SqL.of (by assumption), (by assumption), ?_⟩
  | refine ⟨_, _, _, _, rfl, rfl, SqT.of (by assumption), (by assumption), ?_⟩
  | refine ⟨_, _, _, _, rfl, rfl, (by assumption), (atI_nat (j := 0) rfl), ?_⟩
  | refine ⟨_, _, _, _, rfl, rfl, (by assumption), (atI_nat (j := 1) rfl), ?_⟩
  | refine ⟨_, _, _, _, _, rfl, .ty _, .base (.int _), kit_ty (r := true) (by decide +kernel), ?_⟩
  | refine ⟨_, _, _, _, _, rfl, .ty _, .base (.int _), kit_ty (r := false) (by decide +kernel), ?_⟩
  | refine ⟨_, _, _, _, _, rfl, .ty _, .base (.tup (by assumption)), kit_ty (r := true) (by decide +kernel), ?_⟩
  | refine ⟨_, _, _, _, _, rfl, .ty _, .base (.bl _), kit_ty (r := true) (by decide +kernel), ?_⟩
  | refine .inl ⟨_, rfl, ?_⟩
  | refine And.intro (sz (Nat.le_of_ble_eq_true rfl)) ?_
  | refine And.intro rfl ?_
  | refine And.intro (show (_ : Int) < _ from by first | assumption | omega | decide +kernel) ?_
  | refine And.intro (show (_ : Int) ≤ _ from by first | assumption | omega | decide +kernel) ?_
  | refine And.intro (show _ ≠ _ from by first | assumption | omega) ?_
  | refine And.intro ⟨by decide, by decide, by decide⟩ ?_
  | refine And.intro (.inl (show (_ : Int) < _ ∧ (_ : Int) < _ from ⟨by omega, by omega⟩)) ?_
  | refine And.intro (.inr (show (_ : Int) < _ ∧ (_ : Int) < _ from ⟨by omega, by omega⟩)) ?_
  | refine And.intro (show (_ : Int) < _ ∧ _ from ⟨by omega, by omega⟩) ?_
  | refine And.intro (by assumption) ?_
  | refine And.intro (wide_mul (a := 300) (b := 300) (by assumption) (by assumption) (by decide) (by decide) (by decide)) ?_
  | refine ⟨_, _, rfl, (by assumption), ?_⟩
  | refine ⟨_, _, _, _, rfl, rfl, (by assumption), (by assumption), sz (by first | omega | (simp only [List.length_map, List.length_append, List.length_cons, List.length_nil]; omega)), ?_⟩
  | refine iteF ?_
  | refine iteT ?_)
local macro_rules | `(tactic| walk_at "rd") => `(tactic| repeat walk_at "rd1")

/-- a list or a tuple -/
def Sq (K : PySem.W.Frag) (H : Hp) (p : Addr) (xs : List V) : Prop := SqL K H p xs ∨ SqT K H p xs
theorem Sq.same {K : PySem.W.Frag} {H H' : Hp} {p : Addr} {xs : List V} (s : Same H H') (h : Sq K H p xs) : Sq K H' p xs := by
  rcases h with h | h
  · exact .inl (s.seq h)
  · exact .inr (sameSqt s h)
theorem Sq.st {K : PySem.W.Frag} {H H' : Hp} {p : Addr} {xs : List V} (s : St H H') (h : Sq K H p xs) : Sq K H' p xs := by
  rcases h with h | h
  · exact .inl (s.seq h)
  · exact .inr (s.sqt h)
theorem rix {K : PySem.W.Frag} {H : Hp} {p : Addr} {xs : List V} {i : Int} {v : V} {Q : VK} (h : Sq K H p xs) (e : atI xs i = some v) (q : Q v H) : rIx K (.ref p) (.int i) H Q := by
  rcases h with h | h
  · exact .inl ⟨_, _, _, _, rfl, rfl, h, e, q⟩
  · exact .inr (.inl ⟨_, _, _, _, rfl, rfl, h, e, q⟩)
/-- an item at a flag -/
theorem rixf {K : PySem.W.Frag} {H : Hp} {p : Addr} {xs : List Nat} {f n : Nat} {Q : VK} (h : Sq K H p (xs.map vn)) (l : xs.length = n) (hf : f < n) (q : Q (vn (gt xs f)) H) : rIx K (.ref p) (.int (f : Int)) H Q :=
  rix h (vn_at (by omega)) q
/-- ints sorted, as flags -/
theorem perm_nat {ns : List Int} {fs : List Nat} (h : ns.Perm (fs.map (fun n : Nat => (n : Int)))) (u : ns.Pairwise (· ≤ ·)) : ∃ gs : List Nat, ns.map V.int = gs.map vn ∧ gs.Perm fs ∧ gs.Pairwise (· ≤ ·) := by
  have e : (ns.map Int.toNat).map (fun n : Nat => (n : Int)) = ns := by
    rw [List.map_map]
    have : ∀ x, x ∈ ns → ((fun n : Nat => (n : Int)) ∘ Int.toNat) x = id x := fun x hx => by
      obtain ⟨y, _, e⟩ := List.mem_map.mp (h.subset hx)
      show ((x.toNat : Nat) : Int) = x
      rw [← e]
      rfl
    rw [List.map_congr_left this, List.map_id]
  refine ⟨ns.map Int.toNat, ?_, ?_, ?_⟩
  · rw [vn_int, e]
  · have h2 := h.map Int.toNat
    rw [List.map_map] at h2
    have : (Int.toNat ∘ fun n : Nat => (n : Int)) = id := by funext x; exact Int.toNat_natCast x
    rw [this, List.map_id] at h2
    exact h2
  · refine List.pairwise_map.mpr ?_
    exact u.imp fun h => by omega
theorem flatN : ∀ fs : List Nat, (fs.map vn).all flatV = true
  | [] => rfl
  | x :: r => by
    rw [List.map_cons, List.all_cons, flatN r]
    rfl
theorem inN (x : Nat) : ∀ fs : List Nat, inV (vn x) (fs.map vn) = decide (x ∈ fs)
  | [] => rfl
  | y :: r => by
    have ih := inN x r
    unfold inV at ih ⊢
    rw [List.map_cons, List.any_cons, ih]
    show ((y : Int) == (x : Int) || decide (x ∈ r)) = decide (x ∈ y :: r)
    by_cases q : x = y
    · subst q
      simp
    · have : ((y : Int) == (x : Int)) = false := by
        rw [beq_eq_false_iff_ne]
        omega
      rw [this, Bool.false_or]
      by_cases m : x ∈ r
      · rw [decide_eq_true m, decide_eq_true (List.mem_cons_of_mem _ m)]
      · rw [decide_eq_false m, decide_eq_false]
        intro z
        rcases List.mem_cons.mp z with z | z
        · exact q z
        · exact m z
def stp (a b fs : List Nat) (g : Nat) : Nat → List Nat
  | 0 => fs
  | 1 => adj fs (gt a g)
  | _ => adj (adj fs (gt a g)) (gt b g)
def spClass (K : PySem.W.Frag) : Sp := fun vs H Q _ => ∃ (p1 p2 : Addr) (a b : List Nat) (n f : Nat), vs = [.ref p1, .ref p2, .int (f : Int)] ∧ Sq K H p1 (a.map vn) ∧ Sq K H p2 (b.map vn) ∧ Inv a n ∧ Inv b n ∧ f < n ∧ n ≤ 500 ∧
  ∀ (p : Addr) (gs : List Nat) (H' : Hp), H p = none → H' p = some (.lst (gs.map vn)) → IsCls a b f gs → Same H H' → Q (.ref p) H'
def spRound (K : PySem.W.Frag) : Sp := fun vs H Q _ => ∃ (p1 p2 : Addr) (a b : List Nat) (n f : Nat), vs = [.ref p1, .ref p2, .int (f : Int)] ∧ Sq K H p1 (a.map vn) ∧ Sq K H p2 (b.map vn) ∧ Inv a n ∧ Inv b n ∧ f < n ∧ n ≤ 500 ∧
  ∀ (r : Nat), Rnd a b n f r → Q (.int (r : Int)) H
section
variable {P : Program} {w : World} {K : PySem.W.Frag} {mg : Str → Option Value} {base : Heap}
theorem ok_law_class (T : Txt K mg) : FnOk P w K mg base CX0 1 T.a_law_class T.d_law_class ["one", "other", "flag"] (spClass K) := by
  refine T.f_law_class.ok sc_law_class (fun vs H Q E h => ?_) (fun cdv A outer s H vs Q E hr h => ?_)
  · obtain ⟨p1, p2, a, b, n, f, rfl, _⟩ := h
    rfl
  · obtain ⟨p1, p2, a, b, n, f, rfl, q1, q2, ia, ib, hf, hn, k⟩ := h
    have nd := sc_law_class.nd
    have la := ia.len
    have lb := ib.len
    refine ⟨_, (pss_cons (ps_set (i := 3) nd rfl (Or.inl rfl) (pe_lst (pa_cons (pv 2) pa_nil)))
  (pss_cons (ps_for PassesOwn.never rfl (pi_range1 (by rfl) T.n_range (pa_cons (pe_callB call_len_seq (by rfl) T.n_len (by decide +kernel) (pa_cons (pv 0) pa_nil)) pa_nil)) (pg_name (i := 4) nd rfl (Or.inl rfl))
  (pss_cons (ps_if (pt_cmpR op_ge (pv 4) (pe_callB call_len_seq (by rfl) T.n_len (by decide +kernel) (pa_cons (pv 3) pa_nil)) (nomark _)) (pss_one (ps_ret (pe_callB cr_sortedI (by rfl) T.n_sorted (by decide +kernel) (pa_cons (pv 3) pa_nil)))) pss_nil)
  (pss_one (ps_for PassesOwn.never rfl (pi_list (pe_lst (pa_cons (pe_ix ix_seq (pv 0) (pe_ix ix_list (pv 3) (pv 4) (fun _ _ => rfl)) (fun _ _ => rfl)) (pa_cons (pe_ix ix_seq (pv 1) (pe_ix ix_list (pv 3) (pv 4) (fun _ _ => rfl)) (fun _ _ => rfl)) pa_nil)))) (pg_name (i := 5) nd rfl (Or.inl rfl))
  (pss_one (ps_if (pt_cmpR op_notIn_seq (pv 5) (pv 3) (by rfl)) (pss_one (ps_expr (pe_bm PySem.F.plainAttrs_list PySem.F.slot_list_append PySem.F.type_list_append mt_append (pv 3) (pa_cons (pv 5) pa_nil)))) pss_nil))))))
  (pss_one (ps_ret (pe_callB cr_sortedI (by rfl) T.n_sorted (by decide +kernel) (pa_cons (pv 3) pa_nil)))))), ?_⟩
    have q1_ := q1
    have q2_ := q2
    walk_at "rd"
    intro p1_ np1
    generalize e1 : upd H p1_ _ = H1
    have hp1 := updE e1
    have s1 := updS np1 e1
    replace q1 := Sq.same s1 q1
    replace q2 := Sq.same s1 q2
    have e0 : H1 p1_ = some (.lst (([f] : List Nat).map vn)) := hp1
    have ln : (((a.map vn).length : Nat) : Int) = n := by rw [List.length_map, la]
    have fin : ∀ (H' : Hp) (fs : List Nat), H' p1_ = some (.lst (fs.map vn)) → (∀ g, g ∈ fs ↔ Rc a b f g) → fs.Nodup → Same H H' → rSortedI K [.ref p1_] H' Q := by
      intro H' fs hp al nn sm
      refine ⟨p1_, fs.map (fun n : Nat => (n : Int)), rfl, by rw [← vn_int]; exact SqL.of hp, fun ns' p pm up np => ?_⟩
      obtain ⟨gs, e, pg, ug⟩ := perm_nat pm up
      rw [e]
      exact k p gs _ (sm.free np) upd_same ⟨(pg.nodup_iff).mpr nn, ug, fun g => (pg.mem_iff).trans (al g)⟩ (fun c o h => sameApp sm (sm.free np) c o h)
    refine ⟨_, rfl, _, _, rfl, q1, _, rfl, by omega, by omega, ?_⟩
    refine for_range (lo := 0) (fun j σ H' => ∃ (fs : List Nat) (v4 v5 : Option V), σ = [some (.ref p1), some (.ref p2), some (.int (f : Int)), some (.ref p1_), v4, v5] ∧ H' p1_ = some (.lst (fs.map vn)) ∧ Cl a b n f j fs ∧ Same H H')
      ⟨[f], none, none, rfl, e0, Cl.first a b n f, s1⟩ ?_ ?_
    · rintro j σ H' hj ⟨fs, v4, v5, rfl, hp, C, sm⟩
      have fl := C.len ia ib hf
      refine ⟨_, rfl, _, rfl, _, _, rfl, .inl (SqL.of hp), _, _, rfl, rfl, _, rfl, ?_⟩
      refine ite2 (fun h => ?_) (fun h => ?_)
      · have hk : fs.length ≤ j := by
          have := of_decide_eq_true h
          rw [List.length_map] at this
          omega
        exact ⟨_, rfl, fin H' fs hp (C.all hk) C.nd sm⟩
      · have hk : j < fs.length := by
          apply Classical.byContradiction
          intro q
          exact h (decide_eq_true (by rw [List.length_map]; omega))
        obtain ⟨g, hg⟩ : ∃ g, fs[j]? = some g := ⟨fs[j], List.getElem?_eq_getElem hk⟩
        have hgn : g < n := (C.rc g (List.mem_of_getElem? hg)).lt ia ib hf
        have eg : atI (fs.map vn) (0 + (j : Int)) = some (vn g) := by
          rw [Int.zero_add]
          refine atI_nat ?_
          rw [List.getElem?_map, hg]
          rfl
        have w1 := Sq.same sm q1_
        have w2 := Sq.same sm q2_
        refine ⟨_, rfl, _, rfl, _, rfl, _, _, _, _, rfl, rfl, SqL.of hp, eg, rixf w1 la hgn ⟨_, rfl, _, rfl, _, rfl, _, _, _, _, rfl, rfl, SqL.of hp, eg, rixf w2 lb hgn ⟨sz (Nat.le_of_ble_eq_true rfl), ?_⟩⟩⟩
        intro L nL
        generalize eL : upd H' L _ = H2
        have hL := updE eL
        have s2 := updS nL eL
        have np : p1_ ≠ L := ne_of_none hp nL
        have hp2 := s2 _ _ hp
        have sm2 : Same H H2 := fun c o h => s2 _ _ (sm _ _ h)
        have D := C.step hg
        refine ⟨_, rfl, ⟨_, SqL.of hL⟩, for_list (K := K) (a := L) (xs := [vn (gt a g), vn (gt b g)]) (fun i σ H3 => ∃ v5 : Option V, σ = [some (.ref p1), some (.ref p2), some (.int (f : Int)), some (.ref p1_), some (.int (0 + (j : Int))), v5] ∧ H3 p1_ = some (.lst ((stp a b fs g i).map vn)) ∧ H3 L = some (.lst [vn (gt a g), vn (gt b g)]) ∧ Same H H3)
          ⟨_, rfl, hp2, hL, sm2⟩ (fun i σ H3 _ ⟨_, _, _, h, _⟩ => SqL.of h) ?_ ?_⟩
        · rintro i x σ H3 hi ⟨v5, rfl, hp3, hL3, sm3⟩
          match i, hi with
          | 0, hi =>
            have ex := (Option.some.inj hi).symm
            subst ex
            have l9 : (fs).length ≤ 900 := by omega
            refine ⟨_, rfl, _, rfl, p1_, _, rfl, .inl (SqL.of hp3), rfl, flatN (fs), _, rfl, ?_⟩
            show (if (!inV (vn (gt a g)) ((fs).map vn)) = true then _ else _)
            rw [inN]
            by_cases m : gt a g ∈ fs
            · rw [decide_eq_true m]
              refine iteF ?_
              refine ⟨_, rfl, ?_, hL3, sm3⟩
              have ea : adj (fs) (gt a g) = fs := by
                show (if _ then _ else _) = _
                rw [if_pos m]
              show H3 p1_ = some (HO.lst ((adj (fs) (gt a g)).map vn))
              rw [ea]
              exact hp3
            · rw [decide_eq_false m]
              refine iteT ?_
              refine ⟨_, rfl, .inl ⟨rfl, _, SqL.of hp3⟩, _, rfl, p1_, _, _, rfl, rfl, hp3, small1000 (by rw [List.length_map]; show (fs).length ≤ 1000; omega), ?_⟩
              refine ⟨_, rfl, ?_, (upd_ne np.symm).trans hL3, sameApp sm3 np1⟩
              have ea : adj (fs) (gt a g) = (fs) ++ [gt a g] := by
                show (if _ then _ else _) = _
                rw [if_neg m]
              show _ = some (HO.lst ((adj (fs) (gt a g)).map vn))
              rw [ea, List.map_append]
              exact upd_same
          | 1, hi =>
            have ex := (Option.some.inj hi).symm
            subst ex
            have l9 : (adj fs (gt a g)).length ≤ 900 := by 
              have : ∀ (xs : List Nat) (z : Nat), (adj xs z).length ≤ xs.length + 1 := fun xs z => by unfold adj; split <;> simp
              have := this fs (gt a g)
              omega
            refine ⟨_, rfl, _, rfl, p1_, _, rfl, .inl (SqL.of hp3), rfl, flatN (adj fs (gt a g)), _, rfl, ?_⟩
            show (if (!inV (vn (gt b g)) ((adj fs (gt a g)).map vn)) = true then _ else _)
            rw [inN]
            by_cases m : gt b g ∈ adj fs (gt a g)
            · rw [decide_eq_true m]
              refine iteF ?_
              refine ⟨_, rfl, ?_, hL3, sm3⟩
              have ea : adj (adj fs (gt a g)) (gt b g) = adj fs (gt a g) := by
                show (if _ then _ else _) = _
                rw [if_pos m]
              show H3 p1_ = some (HO.lst ((adj (adj fs (gt a g)) (gt b g)).map vn))
              rw [ea]
              exact hp3
            · rw [decide_eq_false m]
              refine iteT ?_
              refine ⟨_, rfl, .inl ⟨rfl, _, SqL.of hp3⟩, _, rfl, p1_, _, _, rfl, rfl, hp3, small1000 (by rw [List.length_map]; show (adj fs (gt a g)).length ≤ 1000; omega), ?_⟩
              refine ⟨_, rfl, ?_, (upd_ne np.symm).trans hL3, sameApp sm3 np1⟩
              have ea : adj (adj fs (gt a g)) (gt b g) = (adj fs (gt a g)) ++ [gt b g] := by
                show (if _ then _ else _) = _
                rw [if_neg m]
              show _ = some (HO.lst ((adj (adj fs (gt a g)) (gt b g)).map vn))
              rw [ea, List.map_append]
              exact upd_same
          | i + 2, hi => simp at hi
        · rintro σ H3 ⟨v5, rfl, hp3, hL3, sm3⟩
          exact ⟨_, _, _, rfl, hp3, D, sm3⟩
    · rintro σ H' ⟨fs, v4, v5, rfl, hp, C, sm⟩
      have fl := C.len ia ib hf
      exact ⟨_, rfl, fin H' fs hp (C.all (by rw [ln, Int.toNat_natCast]; exact fl)) C.nd sm⟩
theorem ok_law_round (T : Txt K mg) : FnOk P w K mg base CX0 1 T.a_law_round T.d_law_round ["one", "other", "flag"] (spRound K) := by
  refine T.f_law_round.ok sc_law_round (fun vs H Q E h => ?_) (fun cdv A outer s H vs Q E hr h => ?_)
  · obtain ⟨p1, p2, a, b, n, f, rfl, _⟩ := h
    rfl
  · obtain ⟨p1, p2, a, b, n, f, rfl, q1, q2, ia, ib, hf, hn, k⟩ := h
    have nd := sc_law_round.nd
    have la := ia.len
    have lb := ib.len
    refine ⟨_, (pss_cons (ps_par (i := 3) (j := 4) (by rfl) nd rfl rfl (by decide) rfl rfl (pa_cons (pe_ix ix_seq (pv 1) (pe_ix ix_seq (pv 0) (pv 2) (fun _ _ => rfl)) (fun _ _ => rfl)) (pa_cons pe_int pa_nil)) (by rfl))
  (pss_cons (ps_for PassesOwn.never rfl (pi_range1 (by rfl) T.n_range (pa_cons (pe_callB call_len_seq (by rfl) T.n_len (by decide +kernel) (pa_cons (pv 0) pa_nil)) pa_nil)) (pg_name (i := 5) nd rfl (Or.inl rfl))
  (pss_cons (ps_if (pt_cmpR op_eq (pv 3) (pv 2) (nomark _)) (pss_one (ps_ret (pv 4))) pss_nil)
  (pss_cons (ps_set (i := 3) nd rfl (Or.inl rfl) (pe_ix ix_seq (pv 1) (pe_ix ix_seq (pv 0) (pv 3) (fun _ _ => rfl)) (fun _ _ => rfl)))
  (pss_one (ps_set (i := 4) nd rfl (Or.inl rfl) (pe_op op_add (pv 4) pe_int))))))
  (pss_one (ps_ret (pv 4))))), ?_⟩
    refine ⟨_, rfl, _, rfl, _, rfl, rixf q1 la hf (rixf q2 lb (ia.lt f hf) ?_)⟩
    have ln : (((a.map vn).length : Nat) : Int) = n := by rw [List.length_map, la]
    refine ⟨_, _, rfl, _, rfl, _, _, rfl, q1, _, rfl, by omega, by omega, ?_⟩
    refine for_range (lo := 0) (fun j σ H' => H' = H ∧ (∀ t, 1 ≤ t → t ≤ j → itr (two a b) t f ≠ f) ∧ ∃ v : Option V, σ = [some (.ref p1), some (.ref p2), some (.int (f : Int)), some (vn (itr (two a b) (j + 1) f)), some (.int ((j : Int) + 1)), v])
      ⟨rfl, fun t h1 h2 => absurd h1 (by omega), none, rfl⟩ ?_ ?_
    · rintro j σ H' hj ⟨rfl, no, v, rfl⟩
      have lt1 : ∀ k, itr (two a b) k f < n := fun k => by
        induction k with
        | zero => exact hf
        | succ k ih => rw [itr_succ]; exact two_lt ia ib _ ih
      refine ⟨_, rfl, _, rfl, rfl, _, rfl, ?_⟩
      refine ite2 (fun h => ?_) (fun h => ?_)
      · have e : itr (two a b) (j + 1) f = f := by
          have := V.int.inj (of_decide_eq_true h)
          omega
        have hj2 : j + 1 ≤ n := by
          have := hj
          rw [ln, Int.toNat_natCast] at this
          omega
        have := k (j + 1) ⟨by omega, hj2, e, fun t t1 t2 => no t t1 (by omega)⟩
        exact ⟨_, rfl, this⟩
      · have ne : itr (two a b) (j + 1) f ≠ f := fun q => h (decide_eq_true (by rw [q]; rfl))
        refine ⟨_, rfl, _, rfl, _, rfl, rixf q1 la (lt1 _) (rixf q2 lb (ia.lt _ (lt1 _)) ?_)⟩
        refine ⟨_, rfl, _, _, rfl, rfl, rfl, fun t t1 t2 => ?_, some (.int (0 + (j : Int))), ?_⟩
        · by_cases q : t = j + 1
          · rw [q]; exact ne
          · exact no t t1 (by omega)
        · rw [itr_succ (two a b) (j + 1) f]
          rfl
    · rintro σ H' ⟨rfl, no, v, rfl⟩
      exfalso
      obtain ⟨r, R⟩ := rnd_ex ia ib hf
      exact no r R.pos (by rw [ln, Int.toNat_natCast]; exact R.le) R.back
end

end Toy
namespace Toy
open PySem L2
local macro_rules | `(tactic| walk_at "rd1") => `(tactic| first
  | with_reducible assumption
  | refine ⟨_, rfl, ?_⟩
  | refine ⟨_, _, rfl, rfl, ?_⟩
  | refine ⟨_, _, rfl, ?_⟩
  | refine ⟨_, _, rfl, dg (by assumption) mk_left, ?_⟩
  | refine ⟨_, _, rfl, dg (by assumption) mk_seed, ?_⟩
  | refine ⟨_, _, rfl, dg (by assumption) mk_cells, ?_⟩
  | refine ⟨_, _, rfl, dg (by assumption) mk_spot, ?_⟩
  | refine ⟨_, _, rfl, .inl (SqL.of (by assumption)), ?_⟩
  | refine ⟨_, _, rfl, .inr (SqT.of (by assumption)), ?_⟩
  | refine ⟨_, _, rfl, .inl (by assumption), ?_⟩
  | refine ⟨_, _, rfl, .inr (by assumption), ?_⟩
  | refine ⟨_, _, _, _, rfl, rfl, SqL.of (by assumption), (by assumption), ?_⟩
  | refine ⟨_, _, _, _, rfl, rfl, SqT.of (by assumption), (by assumption), ?_⟩
  | refine ⟨_, _, _, _, rfl, rfl, (by assumption), (atI_nat (j := 0) rfl), ?_⟩
  | refine ⟨_, _, _, _, rfl, rfl, (by assumption), (atI_nat (j := 1) rfl), ?_⟩
  | refine ⟨_, _, _, _, _, rfl, .ty _, .base (.int _), kit_ty (r := true) (by decide +kernel), ?_⟩
  | refine ⟨_, _, _, _, _, rfl, .ty _, .base (.int _), kit_ty (r := false) (by decide +kernel), ?_⟩
  | refine ⟨_, _, _, _, _, rfl, .ty _, .base (.tup (by assumption)), kit_ty (r := true) (by decide +kernel), ?_⟩
  | refine ⟨_, _, _, _, _, rfl, .ty _, .base (.bl _), kit_ty (r := true) (by decide +kernel), ?_⟩
  | refine .inl ⟨_, rfl, ?_⟩
  | refine And.intro (sz (Nat.le_of_ble_eq_true rfl)) ?_
  | refine And.intro rfl ?_
  | refine And.intro (show (_ : Int) < _ from by first | assumption | omega | decide +kernel) ?_
  | refine And.intro (show (_ : Int) ≤ _ from by first | assumption | omega | decide +kernel) ?_
  | refine And.intro (show _ ≠ _ from by first | assumption | omega) ?_
  | refine And.intro ⟨by decide, by decide, by decide⟩ ?_
  | refine And.intro (.inl (show (_ : Int) < _ ∧ (_ : Int) < _ from ⟨by omega, by omega⟩)) ?_
  | refine And.intro (.inr (show (_ : Int) < _ ∧ (_ : Int) < _ from ⟨by omega, by omega⟩)) ?_
  | refine And.intro (show (_ : Int) < _ ∧ _ from ⟨by omega, by omega⟩) ?_
  | refine And.intro (by assumption) ?_
  | refine And.intro (wide_mul (a := 300) (b := 300) (by assumption) (by assumption) (by decide) (by decide) (by decide)) ?_
  | refine ⟨_, _, rfl, (by assumption), ?_⟩
  | refine ⟨_, _, _, _, rfl, rfl, (by assumption), (by assumption), sz (by first | omega | (simp only [List.length_map, List.length_append, List.length_cons, List.length_nil]; omega)), ?_⟩
  | refine iteF ?_
  | refine iteT ?_)
local macro_rules | `(tactic| walk_at "rd") => `(tactic| repeat walk_at "rd1")

def spOrders (K : PySem.W.Frag) : Sp := fun vs H Q _ => ∃ (m c p1 p2 : Addr) (a b : List Nat) (n n0 wide : Nat), vs = [.ref m, .ref p1, .ref p2, .int (wide : Int)] ∧ DrAt H m c n0 ∧ n0 ≤ 100000 ∧ SqL K H p1 (a.map vn) ∧ SqL K H p2 (b.map vn) ∧ Inv a n ∧ Inv b n ∧ n ≤ 60 ∧ 1 ≤ wide ∧ wide ≤ 10000 ∧
  ∀ (p : Addr) (ps : List Nat) (H' : Hp), H' p = some (.tup (ps.map vn)) → ps.length = n → DrAt H' m c (n0 + n) → St H H' → Q (.ref p) H'
/-- a pattern at p -/
structure Pt (H : Hp) (p : Addr) (a0 a1 a2 ps qs : List Nat) (n : Nat) : Prop where
  ex : ∃ t0 t1 t2 t3 t4 : Addr, H p = some (.tup [.ref t0, .ref t1, .ref t2, .ref t3, .ref t4]) ∧ H t0 = some (.tup (a0.map vn)) ∧ H t1 = some (.tup (a1.map vn)) ∧ H t2 = some (.tup (a2.map vn)) ∧ H t3 = some (.tup (ps.map vn)) ∧ H t4 = some (.tup (qs.map vn))
  fr : Fr a0 a1 a2 n
  lp : ps.length = n
  lq : qs.length = n
theorem Pt.st {H H' : Hp} {p : Addr} {a0 a1 a2 ps qs : List Nat} {n : Nat} (s : St H H') (h : Pt H p a0 a1 a2 ps qs n) : Pt H' p a0 a1 a2 ps qs n := by
  obtain ⟨t0, t1, t2, t3, t4, h0, h1, h2, h3, h4, h5⟩ := h.ex
  exact ⟨⟨t0, t1, t2, t3, t4, s _ _ h0 rfl, s _ _ h1 rfl, s _ _ h2 rfl, s _ _ h3 rfl, s _ _ h4 rfl, s _ _ h5 rfl⟩, h.fr, h.lp, h.lq⟩
def spPattern : Sp := fun vs H Q _ => ∃ (m c : Addr) (n0 most wide : Nat), vs = [.ref m, .int (most : Int), .int (wide : Int)] ∧ DrAt H m c n0 ∧ n0 ≤ 10000 ∧ 1 ≤ most ∧ most ≤ 60 ∧ 1 ≤ wide ∧ wide ≤ 10000 ∧
  ∀ (p : Addr) (a0 a1 a2 ps qs : List Nat) (n : Nat) (H' : Hp), Pt H' p a0 a1 a2 ps qs n → 0 < n → n ≤ most → DrAt H' m c (n0 + 320) → St H H' → Q (.ref p) H'
theorem zeros (a : List Nat) : (((a.map vn).filter (fun _ => true)).map (fun _ => vn 0)) = (a.map (fun _ => 0)).map vn := by
  rw [List.filter_eq_self.mpr (fun _ _ => rfl), List.map_map, List.map_map]
  rfl
section
variable {P : Program} {w : World} {K : PySem.W.Frag} {mg : Str → Option Value} {base : Heap}
theorem ok_law_orders (T : Txt K mg) : FnOk P w K mg base CX0 3 T.a_law_orders T.d_law_orders ["m", "one", "other", "wide"] (spOrders K) := by
  refine T.f_law_orders.ok sc_law_orders (fun vs H Q E h => ?_) (fun cdv A outer s H vs Q E hr h => ?_)
  · obtain ⟨m, c, p1, p2, a, b, n, n0, wide, rfl, _⟩ := h
    rfl
  · obtain ⟨m, c, p1, p2, a, b, n, n0, wide, rfl, D, hn0, q1, q2, ia, ib, hn, w0, w1, k⟩ := h
    have nd := sc_law_orders.nd
    have la := ia.len
    have lb := ib.len
    have ln : (((a.map vn).length : Nat) : Int) = n := by rw [List.length_map, la]
    obtain ⟨xc, hc⟩ := D.cell
    refine ⟨_, (pss_cons (ps_setLc (i := 4) (own := [("flag", 5)]) (g := gName 5) (tt := tYes) rfl nd rfl rfl (sw_true rfl rfl rfl (by decide +kernel)) (pi_list (pv 1)) (blkOk_by (own := [("flag", 5)]) (N := ["m", "one", "other", "wide", "found", "flag", "order", "far"]) (sc := defScope s_law_orders) (by decide +kernel)) (fun _ _ _ _ _ => pg_name (i := 5) nd rfl (Or.inl rfl)) (fun _ _ _ _ _ => pts_nil) (fun _ _ _ _ _ => pe_int))
  (pss_cons (ps_for PassesOwn.never rfl (pi_range1 (by rfl) T.n_range (pa_cons (pe_callB call_len_seq (by rfl) T.n_len (by decide +kernel) (pa_cons (pv 1) pa_nil)) pa_nil)) (pg_name (i := 5) nd rfl (Or.inl rfl))
  (pss_one (ps_if (pt_cmpR op_eq (pe_ix ix_list (pv 4) (pv 5) (fun _ _ => rfl)) pe_int (nomark _)) (pss_cons (ps_set (i := 6) nd rfl (Or.inl rfl) (pe_op op_mul (pe_call (ok_law_round T) (hr.mono (by decide)) rfl T.g_law_round T.k_law_round T.b_law_round .nil pass0 (pa_cons (pv 1) (pa_cons (pv 2) (pa_cons (pv 5) pa_nil)))) (pe_op op_add pe_int (pe_call (ok_law_draw T) (hr.mono (by decide)) rfl T.g_law_draw T.k_law_draw T.b_law_draw .nil pass0 (pa_cons (pv 0) (pa_cons (pv 3) pa_nil))))))
  (pss_one (ps_for PassesOwn.never rfl (pi_list (pe_call (ok_law_class T) (hr.mono (by decide)) rfl T.g_law_class T.k_law_class T.b_law_class .nil pass0 (pa_cons (pv 1) (pa_cons (pv 2) (pa_cons (pv 5) pa_nil))))) (pg_name (i := 7) nd rfl (Or.inl rfl))
  (pss_one (ps_asg (pv 6) (pg_sub (pv 4) (pv 7) set_list)))))) pss_nil)))
  (pss_one (ps_ret (pe_callTy call_tuple_of (by rfl) T.n_tuple (by decide +kernel) (pa_cons (pv 4) pa_nil)))))), ?_⟩
    refine ⟨_, rfl, _, rfl, ⟨_, q1⟩, fun Df nDf => lc_fm (K := K) (xs := a.map vn) (fun _ => true) (fun _ => vn 0) q1 nDf (by rw [List.length_map]; omega) (fun _ => rfl) (fun _ _ _ _ _ r => r) (fun _ _ _ _ _ _ r => r) ?_⟩
    intro H1 s1 hD
    rw [zeros] at hD
    have cD : c ≠ Df := ne_of_none hc nDf
    have wD : Nw H Df := Nw.of (St.refl H) nDf
    refine ⟨_, rfl, _, _, rfl, .inl (s1.seq q1), _, rfl, by omega, by omega, ?_⟩
    refine for_range (lo := 0) (fun j σ H' => ∃ (ps : List Nat) (v5 v6 v7 : Option V), σ = [some (.ref m), some (.ref p1), some (.ref p2), some (.int (wide : Int)), some (.ref Df), v5, v6, v7] ∧ H' Df = some (.lst (ps.map vn)) ∧ ps.length = n ∧ DrAt H' m c (n0 + j) ∧ St H H')
      ⟨a.map (fun _ => 0), none, none, none, rfl, hD, by rw [List.length_map, la], sameDr s1 D, Same.st s1⟩ ?_ ?_
    · rintro j σ H' hj ⟨ps, v5, v6, v7, rfl, hp, lp, D', st⟩
      have hjn : j < n := by
        rw [ln, Int.toNat_natCast] at hj
        exact hj
      rw [show (0 : Int) + (j : Int) = (j : Int) from Int.zero_add _]
      refine ⟨_, rfl, _, rfl, _, _, _, _, rfl, rfl, SqL.of hp, vn_at (by omega), rfl, _, rfl, ?_⟩
      refine ite2 (fun h => ?_) (fun h => ?_)
      · refine ⟨_, rfl, _, rfl, _, rfl, p1, p2, a, b, n, j, rfl, .inl (st.seq q1), .inl (st.seq q2), ia, ib, hjn, by omega, fun r R => ?_⟩
        have r1 := R.pos
        have r2 := R.le
        refine ⟨_, rfl, _, rfl, _, _, _, _, rfl, D', by omega, by omega, by omega, fun d H2 d0 d1 D2 st2 => ?_⟩
        obtain ⟨d, rfl⟩ : ∃ z : Nat, d = (z : Int) := ⟨d.toNat, by omega⟩
        refine ⟨_, _, rfl, rfl, _, _, rfl, rfl, .inl ⟨by omega, by omega⟩, ?_⟩
        have st3 := st.trans st2
        have hp2 := st2 _ _ hp rfl
        refine ⟨_, rfl, _, rfl, _, rfl, p1, p2, a, b, n, j, rfl, .inl (st3.seq q1), .inl (st3.seq q2), ia, ib, hjn, by omega, fun pc gs H3 npc hpc C s3 => ?_⟩
        have eo : ((r : Int) * (1 + (d : Int))) = ((r * (1 + d) : Nat) : Int) := by
          rw [Int.natCast_mul, Int.natCast_add]
          rfl
        have hp3 := s3 _ _ hp2
        have dpc : Df ≠ pc := ne_of_none hp2 npc
        refine ⟨_, rfl, ⟨_, SqL.of hpc⟩, for_list (K := K) (a := pc) (xs := gs.map vn) (fun i σ H4 => ∃ (ps : List Nat) (v7 : Option V), σ = [some (.ref m), some (.ref p1), some (.ref p2), some (.int (wide : Int)), some (.ref Df), some (.int (j : Int)), some (.int ((r : Int) * (1 + (d : Int)))), v7] ∧ H4 Df = some (.lst (ps.map vn)) ∧ ps.length = n ∧ H4 pc = some (.lst (gs.map vn)) ∧ DrAt H4 m c (n0 + j + 1) ∧ St H H4)
          ⟨ps, _, rfl, hp3, lp, hpc, sameDr s3 D2, st3.trans (Same.st s3)⟩ (fun i σ H4 _ ⟨_, _, _, _, _, h, _⟩ => SqL.of h) ?_ ?_⟩
        · rintro i x σ H4 hi ⟨ps, v7, rfl, hp4, lp4, hpc4, D4, st4⟩
          obtain ⟨g, rfl, hg⟩ := vn_item hi
          have gn : g < n := ((C.all g).mp (List.mem_of_getElem? hg)).lt ia ib hjn
          refine ⟨_, rfl, _, rfl, _, rfl, _, _, _, g, rfl, rfl, hp4, ixN_nat (by rw [List.length_map, lp4]; exact gn), ?_⟩
          refine ⟨ps.set g (r * (1 + d)), _, rfl, ?_, by rw [List.length_set, lp4], (upd_ne dpc.symm).trans hpc4, D4.put hp4 cD, fun b o q e => (upd_ne (wD b o q e)).trans (st4 b o q e)⟩
          rw [List.map_set]
          have ev : vn (r * (1 + d)) = V.int ((r : Int) * (1 + (d : Int))) := by
            show V.int _ = _
            rw [eo]
          rw [ev]
          exact upd_same
        · rintro σ H4 ⟨ps, v7, rfl, hp4, lp4, hpc4, D4, st4⟩
          exact ⟨ps, _, _, _, rfl, hp4, lp4, D4.up (by omega), st4⟩
      · exact ⟨ps, _, _, _, rfl, hp, lp, D'.up (by omega), st⟩
    · rintro σ H' ⟨ps, v5, v6, v7, rfl, hp, lp, D', st⟩
      refine ⟨_, rfl, _, _, rfl, .inl ⟨SqL.of hp, ?_⟩⟩
      intro p9 np9
      generalize e9 : upd H' p9 _ = H9
      have hp9 := updE e9
      have s9 := updS np9 e9
      first | replace D' := s9 _ _ D' | replace D' := s9.seq D' | replace D' := sameSqt s9 D' | replace D' := sameDr s9 D' | replace D' := Rows.same s9 D' | replace D' := Sq.same s9 D'
      exact k _ ps _ hp9 lp (D'.up (by rw [ln, Int.toNat_natCast]; exact Nat.le_refl _)) (st.trans (Same.st s9))
theorem ok_law_pattern (T : Txt K mg) : FnOk P w K mg base CX0 4 T.a_law_pattern T.d_law_pattern ["m", "most", "wide"] spPattern := by
  refine T.f_law_pattern.ok sc_law_pattern (fun vs H Q E h => ?_) (fun cdv A outer s H vs Q E hr h => ?_)
  · obtain ⟨m, c, n0, most, wide, rfl, _⟩ := h
    rfl
  · obtain ⟨m, c, n0, most, wide, rfl, D, hn0, m0, m1, w0, w1, k⟩ := h
    have nd := sc_law_pattern.nd
    refine ⟨_, (pss_cons (ps_asg (pe_call (ok_law_frame T) (hr.mono (by decide)) rfl T.g_law_frame T.k_law_frame T.b_law_frame .nil pass0 (pa_cons (pv 0) (pa_cons (pv 1) pa_nil))) (pg_unl rfl (pgs_cons (pg_name (i := 3) nd rfl (Or.inl rfl)) (pgs_cons (pg_name (i := 4) nd rfl (Or.inl rfl)) (pgs_cons (pg_name (i := 5) nd rfl (Or.inl rfl)) pgs_nil)))))
  (pss_cons (ps_set (i := 6) nd rfl (Or.inl rfl) (pe_call (ok_law_orders T) (hr.mono (by decide)) rfl T.g_law_orders T.k_law_orders T.b_law_orders .nil pass0 (pa_cons (pv 0) (pa_cons (pv 3) (pa_cons (pv 4) (pa_cons (pv 2) pa_nil))))))
  (pss_one (ps_ret (pe_tup (pa_cons (pe_callTy call_tuple_of (by rfl) T.n_tuple (by decide +kernel) (pa_cons (pv 3) pa_nil)) (pa_cons (pe_callTy call_tuple_of (by rfl) T.n_tuple (by decide +kernel) (pa_cons (pv 4) pa_nil)) (pa_cons (pe_callTy call_tuple_of (by rfl) T.n_tuple (by decide +kernel) (pa_cons (pv 5) pa_nil)) (pa_cons (pv 6) (pa_cons (pe_call (ok_law_orders T) (hr.mono (by decide)) rfl T.g_law_orders T.k_law_orders T.b_law_orders .nil pass0 (pa_cons (pv 0) (pa_cons (pv 4) (pa_cons (pv 5) (pa_cons (pv 2) pa_nil))))) pa_nil)))))))))), ?_⟩
    refine ⟨_, rfl, _, rfl, _, _, _, _, rfl, D, hn0, m0, m1, fun R r0 r1 r2 a0 a1 a2 n H1 n0' hn F W D1 st1 => ?_⟩
    refine ⟨_, _, rfl, SqL.of W.r, rfl, _, _, rfl, _, _, rfl, _, _, rfl, rfl, ?_⟩
    refine ⟨_, rfl, _, rfl, _, rfl, _, rfl, m, c, r0, r1, a0, a1, n, _, wide, rfl, D1, by omega, SqL.of W.h0, SqL.of W.h1, F.i0, F.i1, by omega, w0, w1, fun p ps H2 hp lp D2 st2 => ?_⟩
    replace W := W.st st2
    refine ⟨_, rfl, _, _, rfl, .inl ⟨SqL.of W.h0, ?_⟩⟩
    intro p3 np3
    generalize e3 : upd H2 p3 _ = H3
    have hp3 := updE e3
    have s3 := updS np3 e3
    first | replace D2 := s3 _ _ D2 | replace D2 := s3.seq D2 | replace D2 := sameSqt s3 D2 | replace D2 := sameDr s3 D2 | replace D2 := Rows.same s3 D2 | replace D2 := Sq.same s3 D2
    first | replace W := s3 _ _ W | replace W := s3.seq W | replace W := sameSqt s3 W | replace W := sameDr s3 W | replace W := Rows.same s3 W | replace W := Sq.same s3 W
    first | replace hp := s3 _ _ hp | replace hp := s3.seq hp | replace hp := sameSqt s3 hp | replace hp := sameDr s3 hp | replace hp := Rows.same s3 hp | replace hp := Sq.same s3 hp
    refine ⟨_, rfl, _, _, rfl, .inl ⟨SqL.of W.h1, ?_⟩⟩
    intro p4 np4
    generalize e4 : upd H3 p4 _ = H4
    have hp4 := updE e4
    have s4 := updS np4 e4
    first | replace D2 := s4 _ _ D2 | replace D2 := s4.seq D2 | replace D2 := sameSqt s4 D2 | replace D2 := sameDr s4 D2 | replace D2 := Rows.same s4 D2 | replace D2 := Sq.same s4 D2
    first | replace W := s4 _ _ W | replace W := s4.seq W | replace W := sameSqt s4 W | replace W := sameDr s4 W | replace W := Rows.same s4 W | replace W := Sq.same s4 W
    first | replace hp := s4 _ _ hp | replace hp := s4.seq hp | replace hp := sameSqt s4 hp | replace hp := sameDr s4 hp | replace hp := Rows.same s4 hp | replace hp := Sq.same s4 hp
    first | replace hp3 := s4 _ _ hp3 | replace hp3 := s4.seq hp3 | replace hp3 := sameSqt s4 hp3 | replace hp3 := sameDr s4 hp3 | replace hp3 := Rows.same s4 hp3 | replace hp3 := Sq.same s4 hp3
    refine ⟨_, rfl, _, _, rfl, .inl ⟨SqL.of W.h2, ?_⟩⟩
    intro p5 np5
    generalize e5 : upd H4 p5 _ = H5
    have hp5 := updE e5
    have s5 := updS np5 e5
    first | replace D2 := s5 _ _ D2 | replace D2 := s5.seq D2 | replace D2 := sameSqt s5 D2 | replace D2 := sameDr s5 D2 | replace D2 := Rows.same s5 D2 | replace D2 := Sq.same s5 D2
    first | replace W := s5 _ _ W | replace W := s5.seq W | replace W := sameSqt s5 W | replace W := sameDr s5 W | replace W := Rows.same s5 W | replace W := Sq.same s5 W
    first | replace hp := s5 _ _ hp | replace hp := s5.seq hp | replace hp := sameSqt s5 hp | replace hp := sameDr s5 hp | replace hp := Rows.same s5 hp | replace hp := Sq.same s5 hp
    first | replace hp3 := s5 _ _ hp3 | replace hp3 := s5.seq hp3 | replace hp3 := sameSqt s5 hp3 | replace hp3 := sameDr s5 hp3 | replace hp3 := Rows.same s5 hp3 | replace hp3 := Sq.same s5 hp3
    first | replace hp4 := s5 _ _ hp4 | replace hp4 := s5.seq hp4 | replace hp4 := sameSqt s5 hp4 | replace hp4 := sameDr s5 hp4 | replace hp4 := Rows.same s5 hp4 | replace hp4 := Sq.same s5 hp4
    refine ⟨_, rfl, _, rfl, _, rfl, _, rfl, _, rfl, m, c, r1, r2, a1, a2, n, _, wide, rfl, D2, by omega, SqL.of W.h1, SqL.of W.h2, F.i1, F.i2, by omega, w0, w1, fun q qs H6 hq lq D6 st6 => ?_⟩
    first | replace hp := st6 _ _ hp rfl | replace hp := st6 _ _ hp | replace hp := st6.seq hp | replace hp := st6.sqt hp | replace hp := sameSqt st6 hp | replace hp := sameDr st6 hp | replace hp := Rows.st st6 hp | replace hp := Rows.same st6 hp | replace hp := Sq.st st6 hp | replace hp := Sq.same st6 hp
    first | replace hp3 := st6 _ _ hp3 rfl | replace hp3 := st6 _ _ hp3 | replace hp3 := st6.seq hp3 | replace hp3 := st6.sqt hp3 | replace hp3 := sameSqt st6 hp3 | replace hp3 := sameDr st6 hp3 | replace hp3 := Rows.st st6 hp3 | replace hp3 := Rows.same st6 hp3 | replace hp3 := Sq.st st6 hp3 | replace hp3 := Sq.same st6 hp3
    first | replace hp4 := st6 _ _ hp4 rfl | replace hp4 := st6 _ _ hp4 | replace hp4 := st6.seq hp4 | replace hp4 := st6.sqt hp4 | replace hp4 := sameSqt st6 hp4 | replace hp4 := sameDr st6 hp4 | replace hp4 := Rows.st st6 hp4 | replace hp4 := Rows.same st6 hp4 | replace hp4 := Sq.st st6 hp4 | replace hp4 := Sq.same st6 hp4
    first | replace hp5 := st6 _ _ hp5 rfl | replace hp5 := st6 _ _ hp5 | replace hp5 := st6.seq hp5 | replace hp5 := st6.sqt hp5 | replace hp5 := sameSqt st6 hp5 | replace hp5 := sameDr st6 hp5 | replace hp5 := Rows.st st6 hp5 | replace hp5 := Rows.same st6 hp5 | replace hp5 := Sq.st st6 hp5 | replace hp5 := Sq.same st6 hp5
    refine ⟨sz (Nat.le_of_ble_eq_true rfl), ?_⟩
    intro p7 np7
    generalize e7 : upd H6 p7 _ = H7
    have hp7 := updE e7
    have s7 := updS np7 e7
    first | replace hp := s7 _ _ hp | replace hp := s7.seq hp | replace hp := sameSqt s7 hp | replace hp := sameDr s7 hp | replace hp := Rows.same s7 hp | replace hp := Sq.same s7 hp
    first | replace hp3 := s7 _ _ hp3 | replace hp3 := s7.seq hp3 | replace hp3 := sameSqt s7 hp3 | replace hp3 := sameDr s7 hp3 | replace hp3 := Rows.same s7 hp3 | replace hp3 := Sq.same s7 hp3
    first | replace hp4 := s7 _ _ hp4 | replace hp4 := s7.seq hp4 | replace hp4 := sameSqt s7 hp4 | replace hp4 := sameDr s7 hp4 | replace hp4 := Rows.same s7 hp4 | replace hp4 := Sq.same s7 hp4
    first | replace hp5 := s7 _ _ hp5 | replace hp5 := s7.seq hp5 | replace hp5 := sameSqt s7 hp5 | replace hp5 := sameDr s7 hp5 | replace hp5 := Rows.same s7 hp5 | replace hp5 := Sq.same s7 hp5
    first | replace hq := s7 _ _ hq | replace hq := s7.seq hq | replace hq := sameSqt s7 hq | replace hq := sameDr s7 hq | replace hq := Rows.same s7 hq | replace hq := Sq.same s7 hq
    first | replace D6 := s7 _ _ D6 | replace D6 := s7.seq D6 | replace D6 := sameSqt s7 D6 | replace D6 := sameDr s7 D6 | replace D6 := Rows.same s7 D6 | replace D6 := Sq.same s7 D6
    exact k p7 a0 a1 a2 ps qs n H7 ⟨⟨_, _, _, _, _, hp7, hp3, hp4, hp5, hp, hq⟩, F, lp, lq⟩ n0' hn (D6.up (by omega)) (fun b o e d => s7 _ _ (st6 _ _ (s5 _ _ (s4 _ _ (s3 _ _ (st2 _ _ (st1 _ _ e d) d)))) d))
end

end Toy
namespace Toy
open PySem L2
local macro_rules | `(tactic| walk_at "rd1") => `(tactic| first
  | with_reducible assumption
  | refine ⟨_, rfl, ?_⟩
  | refine ⟨_, _, rfl, rfl, ?_⟩
  | refine ⟨_, _, rfl, ?_⟩
  | refine ⟨_, _, rfl, dg (by assumption) mk_left, ?_⟩
  | refine ⟨_, _, rfl, dg (by assumption) mk_seed, ?_⟩
  | refine ⟨_, _, rfl, dg (by assumption) mk_cells, ?_⟩
  | refine ⟨_, _, rfl, dg (by assumption) mk_spot, ?_⟩
  | refine ⟨_, _, rfl, .inl (SqL.of (by assumption)), ?_⟩
  | refine ⟨_, _, rfl, .inr (SqT.of (by assumption)), ?_⟩
  | refine ⟨_, _, rfl, .inl (by assumption), ?_⟩
  | refine ⟨_, _, rfl, .inr (by assumption), ?_⟩
  | refine ⟨_, _, _, _, rfl, rfl, SqL.of (by assumption), (by assumption), ?_⟩
  | refine ⟨_, _, _, _, rfl, rfl, SqT.of (by assumption), (by assumption), ?_⟩
  | refine ⟨_, _, _, _, rfl, rfl, (by assumption), (atI_nat (j := 0) rfl), ?_⟩
  | refine ⟨_, _, _, _, rfl, rfl, (by assumption), (atI_nat (j := 1) rfl), ?_⟩
  | refine ⟨_, _, _, _, _, rfl, .ty _, .base (.int _), kit_ty (r := true) (by decide +kernel), ?_⟩
  | refine ⟨_, _, _, _, _, rfl, .ty _, .base (.int _), kit_ty (r := false) (by decide +kernel), ?_⟩
  | refine ⟨_, _, _, _, _, rfl, .ty _, .base (.tup (by assumption)), kit_ty (r := true) (by decide +kernel), ?_⟩
  | refine ⟨_, _, _, _, _, rfl, .ty _, .base (.bl _), kit_ty (r := true) (by decide +kernel), ?_⟩
  | refine .inl ⟨_, rfl, ?_⟩
  | refine And.intro (sz (Nat.le_of_ble_eq_true rfl)) ?_
  | refine And.intro rfl ?_
  | refine And.intro (show (_ : Int) < _ from by first | assumption | omega | decide +kernel) ?_
  | refine And.intro (show (_ : Int) ≤ _ from by first | assumption | omega | decide +kernel) ?_
  | refine And.intro (show _ ≠ _ from by first | assumption | omega) ?_
  | refine And.intro ⟨by decide, by decide, by decide⟩ ?_
  | refine And.intro (.inl (show (_ : Int) < _ ∧ (_ : Int) < _ from ⟨by omega, by omega⟩)) ?_
  | refine And.intro (.inr (show (_ : Int) < _ ∧ (_ : Int) < _ from ⟨by omega, by omega⟩)) ?_
  | refine And.intro (show (_ : Int) < _ ∧ _ from ⟨by omega, by omega⟩) ?_
  | refine And.intro (by assumption) ?_
  | refine And.intro (wide_mul (a := 300) (b := 300) (by assumption) (by assumption) (by decide) (by decide) (by decide)) ?_
  | refine ⟨_, _, rfl, (by assumption), ?_⟩
  | refine ⟨_, _, _, _, rfl, rfl, (by assumption), (by assumption), sz (by first | omega | (simp only [List.length_map, List.length_append, List.length_cons, List.length_nil]; omega)), ?_⟩
  | refine iteF ?_
  | refine iteT ?_)
local macro_rules | `(tactic| walk_at "rd") => `(tactic| repeat walk_at "rd1")

/-- tuples of flags at addresses -/
def Tups (H : Hp) (ts : List Addr) (cs : List (List Nat)) : Prop := ts.length = cs.length ∧ ∀ (i : Nat) (c : List Nat), cs[i]? = some c → ∃ t, ts[i]? = some t ∧ H t = some (.tup (c.map vn))
theorem Tups.same {H H' : Hp} {ts : List Addr} {cs : List (List Nat)} (s : Same H H') (h : Tups H ts cs) : Tups H' ts cs :=
  ⟨h.1, fun i c hc => let ⟨t, ht, e⟩ := h.2 i c hc; ⟨t, ht, s _ _ e⟩⟩
def keysOf (fs : List Nat) : List (Key × V) := fs.map fun x : Nat => ((Sum.inl (x : Int) : Key), V.bl true)
theorem keys_get (y : Nat) : ∀ fs : List Nat, valV (keysOf fs) (Sum.inl (y : Int) : Key) = if y ∈ fs then some (V.bl true) else none
  | [] => rfl
  | x :: r => by
    have ih := keys_get y r
    unfold keysOf at ih ⊢
    rw [List.map_cons]
    by_cases q : x = y
    · rw [valV_pos (by rw [q]), if_pos (by rw [q]; exact List.mem_cons_self ..)]
    · rw [valV_neg (by intro z; have := Sum.inl.inj z; omega), ih]
      by_cases m : y ∈ r
      · rw [if_pos m, if_pos (List.mem_cons_of_mem _ m)]
      · rw [if_neg m, if_neg]
        intro z
        rcases List.mem_cons.mp z with z | z
        · exact q z.symm
        · exact m z
def atOf (σ : L2.St) : Nat := match σ[4]? with
  | some (some (V.int z)) => z.toNat
  | _ => 0
theorem stL_len {cs : List (List Nat)} {fs : List Nat} {g n : Nat} (hI : ∀ c, c ∈ cs → Inv c n) (nd : fs.Nodup) (lt : ∀ x, x ∈ fs → x < n) (hg : g < n) : (stL cs fs g).length ≤ n :=
  nodup_bound (stL_nd nd) fun x hx => by
    rcases stL_of hx with q | ⟨c, hc, q⟩
    · exact lt x q
    · rw [q]; exact (hI c hc).lt g hg
theorem keys_put {fs : List Nat} {y : Nat} (m : ¬ y ∈ fs) : putK (keysOf fs) (Sum.inl (y : Int) : Key) (V.bl true) = keysOf (fs ++ [y]) := by
  rw [putK_new _ (by rw [keys_get, if_neg m])]
  unfold keysOf
  rw [List.map_append]
  rfl
def spReached (K : PySem.W.Frag) : Sp := fun vs H Q _ => ∃ (pc : Addr) (ts : List Addr) (cs : List (List Nat)) (n f : Nat), vs = [.ref pc, .int (f : Int)] ∧ SqT K H pc (ts.map V.ref) ∧ Tups H ts cs ∧ (∀ c, c ∈ cs → Inv c n) ∧ f < n ∧ n ≤ 500 ∧ cs.length ≤ 10 ∧
  ∀ (p : Addr) (H' : Hp), H' p = some (.tup ((wlk cs n f).map vn)) → Same H H' → Q (.ref p) H'
theorem stL_take {cs : List (List Nat)} {fs c : List Nat} {g i : Nat} (h : cs[i]? = some c) : stL (cs.take (i + 1)) fs g = adj (stL (cs.take i) fs g) (gt c g) := by
  unfold stL
  rw [List.take_succ, h, List.foldl_append]
  rfl
section
variable {P : Program} {w : World} {K : PySem.W.Frag} {mg : Str → Option Value} {base : Heap}
theorem ok_reached (T : Txt K mg) : FnOk P w K mg base CX0 1 T.a_reached T.d_reached ["changes", "flag"] (spReached K) := by
  refine T.f_reached.ok sc_reached (fun vs H Q E h => ?_) (fun cdv A outer s H vs Q E hr h => ?_)
  · obtain ⟨pc, ts, cs, n, f, rfl, _⟩ := h
    rfl
  · obtain ⟨pc, ts, cs, n, f, rfl, hpc, ht, hI, hf, hn, hc, k⟩ := h
    have nd := sc_reached.nd
    have hu := hu_of hr
    refine ⟨_, (pss_cons (ps_set (i := 2) nd rfl (Or.inl rfl) (pe_lst (pa_cons (pv 1) pa_nil)))
  (pss_cons (ps_set (i := 3) nd rfl (Or.inl rfl) (pe_disp (pps_cons (pv 1) pe_bl pps_nil) (by rfl) (by rfl) (fun z => by cases z) (by decide)))
  (pss_cons (ps_set (i := 4) nd rfl (Or.inl rfl) pe_int)
  (pss_cons (ps_while PassesOwn.never (pt_cmpR op_lt (pv 4) (pe_callB call_len_seq (by rfl) T.n_len (by decide +kernel) (pa_cons (pv 2) pa_nil)) (nomark _))
  (pss_cons (ps_for PassesOwn.never rfl (pi_tup (pv 0)) (pg_name (i := 5) nd rfl (Or.inl rfl))
  (pss_cons (ps_set (i := 6) nd rfl (Or.inl rfl) (pe_ix ix_tup (pv 5) (pe_ix ix_list (pv 2) (pv 4) (fun _ _ => rfl)) (fun _ _ => rfl)))
  (pss_one (ps_if (pt_cmp (pc_dnotin hu (pv 6) (pv 3))) (pss_cons (ps_dput hu (pv 3) (pv 6) pe_bl rfl)
  (pss_one (ps_expr (pe_bm PySem.F.plainAttrs_list PySem.F.slot_list_append PySem.F.type_list_append mt_append (pv 2) (pa_cons (pv 6) pa_nil))))) pss_nil))))
  (pss_one (ps_aug (i := 4) nd rfl (Or.inl rfl) pe_int ip_add))))
  (pss_one (ps_ret (pe_callTy call_tuple_of (by rfl) T.n_tuple (by decide +kernel) (pa_cons (pv 2) pa_nil)))))))), ?_⟩
    refine ⟨_, rfl, sz (Nat.le_of_ble_eq_true rfl), ?_⟩
    intro p1 np1
    generalize e1 : upd H p1 _ = H1
    have hp1 := updE e1
    have s1 := updS np1 e1
    intro p2 np2
    generalize e2 : upd H1 p2 _ = H2
    have hp2 := updE e2
    have s2 := updS np2 e2
    first | replace hp1 := s2 _ _ hp1 | replace hp1 := s2.seq hp1 | replace hp1 := sameSqt s2 hp1 | replace hp1 := sameDr s2 hp1 | replace hp1 := Rows.same s2 hp1 | replace hp1 := Sq.same s2 hp1
    refine ⟨_, rfl, hp2, [(Sum.inl (f : Int), .bl true)], rfl, Nat.le_of_ble_eq_true rfl, ?_⟩
    rw [show mergeK [] [((Sum.inl (f : Int) : Key), V.bl true)] = keysOf [f] from rfl]
    generalize e3 : upd H2 p2 _ = H3
    have hd3 := updE e3
    have hl3 : H3 p1 = some (.lst (([f] : List Nat).map vn)) := Eq.trans (show H3 p1 = H2 p1 from by rw [← e3]; exact upd_ne (ne_of hp1 hp2 (by intro q; cases q))) hp1
    have np2' : H p2 = none := s1.free np2
    have s3 : Same H H3 := by
      rw [← e3]
      exact sameApp (fun b o h => s2 _ _ (s1 _ _ h)) np2'
    have p12 : p1 ≠ p2 := ne_of hp1 hp2 (by intro q; cases q)
    clear e1 e2 e3 hp1 hp2 s1 s2 np2
    refine while_by (fun σ H' => ∃ (at' : Nat) (v5 v6 : Option V), σ = [some (.ref pc), some (.int (f : Int)), some (.ref p1), some (.ref p2), some (.int (at' : Int)), v5, v6] ∧ at' ≤ n ∧ H' p1 = some (.lst ((bf cs f at').map vn)) ∧ H' p2 = some (.dK (keysOf (bf cs f at'))) ∧ Same H H')
      (fun σ _ => n + 1 - atOf σ) ⟨0, none, none, rfl, Nat.zero_le _, hl3, hd3, s3⟩ ?_ ?_
    · rintro σ H' ⟨at', v5, v6, rfl, han, hl, hd, sm⟩
      refine ⟨_, rfl, _, rfl, _, _, rfl, .inl (SqL.of hl), _, _, rfl, rfl, _, rfl, ?_⟩
      refine ite2 (fun h => ?_) (fun h => ?_)
      · have hk : at' < (bf cs f at').length := by
          have := of_decide_eq_true h
          rw [List.length_map] at this
          omega
        obtain ⟨g, hg⟩ : ∃ g, (bf cs f at')[at']? = some g := ⟨_, List.getElem?_eq_getElem hk⟩
        have lts := bf_lt hI hf at'
        have gn : g < n := lts g (List.mem_of_getElem? hg)
        have lfs := bf_len hI hf at'
        have nds := bf_nd cs f at'
        have eb := bf_succ_some hg
        refine ⟨_, rfl, _, rfl, ⟨_, sameSqt sm hpc⟩, for_tup (K := K) (a := pc) (xs := ts.map V.ref) (fun i σ H2 => ∃ v5 v6 : Option V, σ = [some (.ref pc), some (.int (f : Int)), some (.ref p1), some (.ref p2), some (.int (at' : Int)), v5, v6] ∧ H2 p1 = some (.lst ((stL (cs.take i) (bf cs f at') g).map vn)) ∧ H2 p2 = some (.dK (keysOf (stL (cs.take i) (bf cs f at') g))) ∧ Same H H2)
          ⟨v5, v6, rfl, hl, hd, sm⟩ (fun i σ H2 _ ⟨_, _, _, _, _, s2⟩ => sameSqt s2 hpc) ?_ ?_⟩
        · rintro i x σ H2 hi ⟨v5, v6, rfl, hl2, hd2, s2⟩
          have hi2 : i < ts.length := by
            have := (List.getElem?_eq_some_iff.mp hi).1
            rw [List.length_map] at this
            exact this
          obtain ⟨c, hci⟩ : ∃ c, cs[i]? = some c := ⟨_, List.getElem?_eq_getElem (by rw [← ht.1]; exact hi2)⟩
          obtain ⟨t, et, ht2⟩ := ht.2 i _ hci
          have ex : x = V.ref t := by
            rw [List.getElem?_map, et] at hi
            exact (Option.some.inj hi).symm
          subst ex
          have Ic := hI _ (List.mem_of_getElem? hci)
          have len2 := stL_len (cs := cs.take i) (fs := bf cs f at') (g := g) (n := n) (fun c hc => hI c (List.mem_of_mem_take hc)) nds lts gn
          have eg : atI ((stL (cs.take i) (bf cs f at') g).map vn) (at' : Int) = some (vn g) := by
            refine atI_nat ?_
            rw [List.getElem?_map, stL_get hg]
            rfl
          have st := stL_take (fs := bf cs f at') (g := g) hci
          generalize hfs : stL (cs.take i) (bf cs f at') g = fs2 at *
          refine ⟨_, rfl, _, rfl, _, rfl, _, _, _, _, rfl, rfl, SqL.of hl2, eg, _, _, _, _, rfl, rfl, SqT.of (s2 _ _ ht2), vn_at (by rw [Ic.len]; exact gn), ?_⟩
          refine ⟨_, rfl, _, rfl, p2, _, rfl, DGet.k (k := (Sum.inl (gt c g : Int) : Key)) hd2, _, rfl, ?_⟩
          rw [keys_get]
          by_cases m : gt c g ∈ fs2
          · rw [if_pos m]
            refine iteF ?_
            refine ⟨_, _, rfl, ?_, ?_, s2⟩
            · rw [st]
              unfold adj
              rw [if_pos m]
              exact hl2
            · rw [st]
              unfold adj
              rw [if_pos m]
              exact hd2
          · rw [if_neg m]
            refine iteT ?_
            refine ⟨_, rfl, _, rfl, p2, _, rfl, DPut.k (k := (Sum.inl (gt c g : Int) : Key)) hd2 (small1000 (by unfold keysOf; rw [List.length_map]; omega)), ?_⟩
            rw [keys_put m]
            have hl3 : (upd H2 p2 (.dK (keysOf (fs2 ++ [gt c g])))) p1 = some (.lst (fs2.map vn)) := (upd_ne p12).trans hl2
            have hd3 : (upd H2 p2 (.dK (keysOf (fs2 ++ [gt c g])))) p2 = some (.dK (keysOf (fs2 ++ [gt c g]))) := upd_same
            have s3 : Same H (upd H2 p2 (.dK (keysOf (fs2 ++ [gt c g])))) := sameApp s2 np2'
            generalize upd H2 p2 (.dK (keysOf (fs2 ++ [gt c g]))) = H3 at hl3 hd3 s3
            refine ⟨_, rfl, .inl ⟨rfl, _, SqL.of hl3⟩, _, rfl, p1, _, _, rfl, rfl, hl3, small1000 (by rw [List.length_map]; omega), ?_⟩
            refine ⟨_, _, rfl, ?_, ?_, sameApp s3 np1⟩
            · rw [st]
              unfold adj
              rw [if_neg m, List.map_append]
              exact upd_same
            · rw [st]
              unfold adj
              rw [if_neg m]
              exact (upd_ne p12.symm).trans hd3
        · rintro σ H2 ⟨v5, v6, rfl, hl2, hd2, s2⟩
          have e1 : stL (cs.take (ts.map V.ref).length) (bf cs f at') g = bf cs f (at' + 1) := by
            rw [List.length_map, ht.1, List.take_length, eb]
          rw [e1] at hl2 hd2
          refine ⟨_, rfl, _, _, rfl, rfl, ⟨at' + 1, _, _, rfl, by omega, hl2, hd2, s2⟩, ?_⟩
          show n + 1 - (((at' : Int) + 1).toNat) < n + 1 - ((at' : Int).toNat)
          omega
      · have hk : (bf cs f at').length ≤ at' := by
          apply Classical.byContradiction
          intro q
          exact h (decide_eq_true (by rw [List.length_map]; omega))
        refine ⟨_, rfl, _, _, rfl, .inl ⟨SqL.of hl, ?_⟩⟩
        intro p9 np9
        refine k p9 _ ?_ (fun b o h => ?_)
        · rw [← wlk_at han hk]
          exact upd_same
        · rw [upd_ne (ne_of_none (sm _ _ h) np9)]
          exact sm _ _ h
    · rintro σ H Q Q' hq ⟨v, e, w, e2, p, ys, e3, e4, i, j, e5, e6, b, e7, q⟩
      exact ⟨v, e, w, e2, p, ys, e3, e4, i, j, e5, e6, b, e7, hq _ _ q⟩
end

end Toy
namespace Toy
open PySem L2
local macro_rules | `(tactic| walk_at "rd1") => `(tactic| first
  | with_reducible assumption
  | refine ⟨_, rfl, ?_⟩
  | refine ⟨_, _, rfl, rfl, ?_⟩
  | refine ⟨_, _, rfl, ?_⟩
  | refine ⟨_, _, rfl, dg (by assumption) mk_left, ?_⟩
  | refine ⟨_, _, rfl, dg (by assumption) mk_seed, ?_⟩
  | refine ⟨_, _, rfl, dg (by assumption) mk_cells, ?_⟩
  | refine ⟨_, _, rfl, dg (by assumption) mk_spot, ?_⟩
  | refine ⟨_, _, rfl, .inl (SqL.of (by assumption)), ?_⟩
  | refine ⟨_, _, rfl, .inr (SqT.of (by assumption)), ?_⟩
  | refine ⟨_, _, rfl, .inl (by assumption), ?_⟩
  | refine ⟨_, _, rfl, .inr (by assumption), ?_⟩
  | refine ⟨_, _, _, _, rfl, rfl, SqL.of (by assumption), (by assumption), ?_⟩
  | refine ⟨_, _, _, _, rfl, rfl, SqT.of (by assumption), (by assumption), ?_⟩
  | refine ⟨_, _, _, _, rfl, rfl, (by assumption), (atI_nat (j := 0) rfl), ?_⟩
  | refine ⟨_, _, _, _, rfl, rfl, (by assumption), (atI_nat (j := 1) rfl), ?_⟩
  | refine ⟨_, _, _, _, _, rfl, .ty _, .base (.int _), kit_ty (r := true) (by decide +kernel), ?_⟩
  | refine ⟨_, _, _, _, _, rfl, .ty _, .base (.int _), kit_ty (r := false) (by decide +kernel), ?_⟩
  | refine ⟨_, _, _, _, _, rfl, .ty _, .base (.tup (by assumption)), kit_ty (r := true) (by decide +kernel), ?_⟩
  | refine ⟨_, _, _, _, _, rfl, .ty _, .base (.bl _), kit_ty (r := true) (by decide +kernel), ?_⟩
  | refine .inl ⟨_, rfl, ?_⟩
  | refine And.intro (sz (Nat.le_of_ble_eq_true rfl)) ?_
  | refine And.intro rfl ?_
  | refine And.intro (show (_ : Int) < _ from by first | assumption | omega | decide +kernel) ?_
  | refine And.intro (show (_ : Int) ≤ _ from by first | assumption | omega | decide +kernel) ?_
  | refine And.intro (show _ ≠ _ from by first | assumption | omega) ?_
  | refine And.intro ⟨by decide, by decide, by decide⟩ ?_
  | refine And.intro (.inl (show (_ : Int) < _ ∧ (_ : Int) < _ from ⟨by omega, by omega⟩)) ?_
  | refine And.intro (.inr (show (_ : Int) < _ ∧ (_ : Int) < _ from ⟨by omega, by omega⟩)) ?_
  | refine And.intro (show (_ : Int) < _ ∧ _ from ⟨by omega, by omega⟩) ?_
  | refine And.intro (by assumption) ?_
  | refine And.intro (wide_mul (a := 300) (b := 300) (by assumption) (by assumption) (by decide) (by decide) (by decide)) ?_
  | refine ⟨_, _, rfl, (by assumption), ?_⟩
  | refine ⟨_, _, _, _, rfl, rfl, (by assumption), (by assumption), sz (by first | omega | (simp only [List.length_map, List.length_append, List.length_cons, List.length_nil]; omega)), ?_⟩
  | refine iteF ?_
  | refine iteT ?_)
local macro_rules | `(tactic| walk_at "rd") => `(tactic| repeat walk_at "rd1")

theorem lc_fmT {K : PySem.W.Frag} {a : Addr} {xs : List V} {i : Nat} {tt : TT} {te : TE} {vs : List Nat} {σ : L2.St} {H1 : Hp} {D : Addr} {Qd : Hp → Prop} (p : V → Bool) (f : V → V)
    (hS : SqT K H1 a xs) (nD : H1 D = none) (hl : xs.length ≤ 1000) (hw : ∀ x, wipe ((wipe σ vs).set i (some x)) vs = wipe σ vs)
    (ht : ∀ x H' (R : Bool → Hp → Prop), x ∈ xs → Same H1 H' → R (p x) H' → tt ((wipe σ vs).set i (some x)) H' R)
    (he : ∀ x H' (R : VK), x ∈ xs → p x = true → Same H1 H' → R (f x) H' → te ((wipe σ vs).set i (some x)) H' R)
    (hd : ∀ H', Same H1 H' → H' D = some (.lst ((xs.filter p).map f)) → Qd H') :
    ∃ W : Nat → Nat → Hp → Prop, (∃ m, W 0 m (upd H1 D (.lst []))) ∧ ∀ i_1 m H, W i_1 m H →
      ((Itt K a).stop i_1 H ∧ Qd H) ∨ ((Itt K a).go i_1 H ∧ ∃ Nx : Hp → Prop, (∀ H', Nx H' → ∃ m', m' < m ∧ W (i_1 + 1) m' H') ∧ ∀ x H', (Itt K a).yld i_1 H x H' → gName i x (wipe σ vs) H' fun σ2 H2 => wipe σ2 vs = wipe σ vs ∧ tt σ2 H2 fun b H3 =>
        if b = true then te σ2 H3 fun y H4 => ∃ acc, H4 D = some (.lst acc) ∧ acc.length < sizeLine ∧ Nx (upd H4 D (.lst (acc ++ [y]))) else Nx H3) := by
  refine lc_tup (K := K) (a := a) (xs := xs) (fun j H' => Same H1 H' ∧ H' D = some (.lst (((xs.take j).filter p).map f))) ⟨sameNew nD, upd_same⟩ (fun j H' _ h => sameSqt h.1 hS) ?_ ?_
  · rintro j x H' hx ⟨sm, hD⟩
    have hj : j < xs.length := (List.getElem?_eq_some_iff.mp hx).1
    have mem : x ∈ xs := List.mem_of_getElem? hx
    have et : xs.take (j + 1) = xs.take j ++ [x] := by
      rw [List.take_succ, hx]
      rfl
    refine ⟨hw x, ht x H' _ mem sm ?_⟩
    by_cases q : p x = true
    · rw [q]
      refine iteT ?_
      refine he x H' _ mem q sm ?_
      refine ⟨_, hD, small1000 ?_, sameApp sm nD, ?_⟩
      · rw [List.length_map]
        exact Nat.le_trans (List.length_filter_le _ _) (by rw [List.length_take]; omega)
      · rw [et, List.filter_append, List.map_append]
        have : [x].filter p = [x] := by rw [List.filter_cons, if_pos q]; rfl
        rw [this]
        exact upd_same
    · have q' : p x = false := by
        cases h : p x with
        | true => exact absurd h q
        | false => rfl
      rw [q']
      refine iteF ?_
      refine ⟨sm, ?_⟩
      rw [et, List.filter_append]
      have : [x].filter p = [] := by rw [List.filter_cons, if_neg q]; rfl
      rw [this, List.append_nil]
      exact hD
  · rintro H' ⟨sm, hD⟩
    rw [List.take_length] at hD
    exact hd H' sm hD

/-- the five rows of a pattern at p -/
def PtH (H : Hp) (p : Addr) (a0 a1 a2 ps qs : List Nat) : Prop := ∃ t0 t1 t2 t3 t4 : Addr, H p = some (.tup [.ref t0, .ref t1, .ref t2, .ref t3, .ref t4]) ∧ H t0 = some (.tup (a0.map vn)) ∧ H t1 = some (.tup (a1.map vn)) ∧ H t2 = some (.tup (a2.map vn)) ∧ H t3 = some (.tup (ps.map vn)) ∧ H t4 = some (.tup (qs.map vn))
theorem PtH.same {H H' : Hp} {p : Addr} {a0 a1 a2 ps qs : List Nat} (s : Same H H') (h : PtH H p a0 a1 a2 ps qs) : PtH H' p a0 a1 a2 ps qs := by
  obtain ⟨t0, t1, t2, t3, t4, h0, h1, h2, h3, h4, h5⟩ := h
  exact ⟨t0, t1, t2, t3, t4, s _ _ h0, s _ _ h1, s _ _ h2, s _ _ h3, s _ _ h4, s _ _ h5⟩
theorem PtH.st {H H' : Hp} {p : Addr} {a0 a1 a2 ps qs : List Nat} (s : St H H') (h : PtH H p a0 a1 a2 ps qs) : PtH H' p a0 a1 a2 ps qs := by
  obtain ⟨t0, t1, t2, t3, t4, h0, h1, h2, h3, h4, h5⟩ := h
  exact ⟨t0, t1, t2, t3, t4, s _ _ h0 rfl, s _ _ h1 rfl, s _ _ h2 rfl, s _ _ h3 rfl, s _ _ h4 rfl, s _ _ h5 rfl⟩
def spWlk : Sp := fun vs H Q _ => ∃ (p : Addr) (a0 a1 a2 ps qs : List Nat) (n f : Nat), vs = [.ref p, .int (f : Int)] ∧ PtH H p a0 a1 a2 ps qs ∧ Inv a0 n ∧ Inv a1 n ∧ Inv a2 n ∧ f < n ∧ n ≤ 500 ∧
  ∀ (q : Addr) (H' : Hp), H' q = some (.tup ((wlk [a0, a1, a2] n f).map vn)) → Same H H' → Q (.ref q) H'
def spRen (K : PySem.W.Frag) : Sp := fun vs H Q _ => ∃ (p q : Addr) (a0 a1 a2 ps qs ls : List Nat) (n : Nat), vs = [.ref p, .ref q] ∧ PtH H p a0 a1 a2 ps qs ∧ Inv a0 n ∧ Inv a1 n ∧ Inv a2 n ∧ ps.length = n ∧ qs.length = n ∧ SqT K H q (ls.map vn) ∧ Prm ls n ∧ n ≤ 500 ∧
  ∀ (r : Addr) (nb : List Nat) (H' : Hp), Und ls nb n → PtH H' r (rn ls nb a0) (rn ls nb a1) (rn ls nb a2) (pr ls ps) (pr ls qs) → Same H H' → Q (.ref r) H'
theorem rep_zero (n : Nat) : (List.replicate n [V.int 0]).flatten = (List.replicate n 0).map vn := by
  induction n with
  | zero => rfl
  | succ n ih =>
    rw [List.replicate_succ, List.replicate_succ, List.flatten_cons, ih]
    rfl
theorem map_fm {ls : List Nat} {f : V → V} {g : Nat → Nat} (h : ∀ x, x ∈ ls → f (vn x) = vn (g x)) : ((ls.map vn).filter (fun _ => true)).map f = (ls.map g).map vn := by
  rw [List.filter_eq_self.mpr (fun _ _ => rfl), List.map_map, List.map_map]
  exact List.map_congr_left h
def toN : V → Nat
  | .int z => z.toNat
  | _ => 0
theorem toN_vn (x : Nat) : toN (vn x) = x := Int.toNat_natCast x
section
variable {P : Program} {w : World} {K : PySem.W.Frag} {mg : Str → Option Value} {base : Heap}
theorem ok_walk (T : Txt K mg) : FnOk P w K mg base CX0 2 T.a_walk T.d_walk ["pattern", "flag"] spWlk := by
  refine T.f_walk.ok sc_walk (fun vs H Q E h => ?_) (fun cdv A outer s H vs Q E hr h => ?_)
  · obtain ⟨p, a0, a1, a2, ps, qs, n, f, rfl, _⟩ := h
    rfl
  · obtain ⟨p, a0, a1, a2, ps, qs, n, f, rfl, ⟨t0, t1, t2, t3, t4, h0, h1, h2, h3, h4, h5⟩, i0, i1, i2, hf, hn, k⟩ := h
    have nd := sc_walk.nd
    refine ⟨_, (pss_one (ps_ret (pe_call (ok_reached T) (hr.mono (by decide)) rfl T.g_reached T.k_reached T.b_reached .nil pass0 (pa_cons (pe_slice sl_tupA (pv 0) po_none (po_some pe_int)) (pa_cons (pv 1) pa_nil))))), ?_⟩
    refine ⟨_, rfl, _, rfl, _, _, rfl, SqT.of h0, fun q => absurd (show (3 : Nat) = 5 from q.2) (by decide), fun _ => ?_⟩
    intro p1 np1
    generalize e1 : upd H p1 _ = H1
    have hp1 := updE e1
    have s1 := updS np1 e1
    refine ⟨_, rfl, p1, [t0, t1, t2], [a0, a1, a2], n, f, rfl, SqT.of hp1, ⟨rfl, fun i c hc => ?_⟩, fun c hc => ?_, hf, hn, by show 3 ≤ 10; decide, fun q H' hq s2 => k q H' hq (fun b o h => s2 _ _ (s1 _ _ h))⟩
    · match i, hc with
      | 0, hc => exact ⟨t0, rfl, by rw [← Option.some.inj hc]; exact s1 _ _ h1⟩
      | 1, hc => exact ⟨t1, rfl, by rw [← Option.some.inj hc]; exact s1 _ _ h2⟩
      | 2, hc => exact ⟨t2, rfl, by rw [← Option.some.inj hc]; exact s1 _ _ h3⟩
      | i + 3, hc => simp at hc
    · simp only [List.mem_cons, List.not_mem_nil, or_false] at hc
      rcases hc with rfl | rfl | rfl
      · exact i0
      · exact i1
      · exact i2
theorem ok_renumbered (T : Txt K mg) : FnOk P w K mg base CX0 1 T.a_renumbered T.d_renumbered ["pattern", "listing"] (spRen K) := by
  refine T.f_renumbered.ok sc_renumbered (fun vs H Q E h => ?_) (fun cdv A outer s H vs Q E hr h => ?_)
  · obtain ⟨p, q, a0, a1, a2, ps, qs, ls, n, rfl, _⟩ := h
    rfl
  · obtain ⟨p, q, a0, a1, a2, ps, qs, ls, n, rfl, ⟨t0, t1, t2, t3, t4, h0, h1, h2, h3, h4, h5⟩, i0, i1, i2, lp, lq, hq, hL, hn, k⟩ := h
    have nd := sc_renumbered.nd
    have ll := hL.len
    have ln : (((ls.map vn).length : Nat) : Int) = n := by rw [List.length_map, ll]
    refine ⟨_, (pss_cons (ps_set (i := 2) nd rfl (Or.inr rfl) (pe_op op_rep (pe_lst (pa_cons pe_int pa_nil)) (pe_callB call_len_seq (by rfl) T.n_len (by decide +kernel) (pa_cons (pv 1) pa_nil))))
  (pss_cons (ps_for PassesOwn.never rfl (pi_enumT (by rfl) T.n_enumerate (pa_cons (pv 1) pa_nil)) (pg_tup rfl (pgs_cons (pg_name (i := 3) nd rfl (Or.inl rfl)) (pgs_cons (pg_name (i := 4) nd rfl (Or.inl rfl)) pgs_nil)))
  (pss_one (ps_asg (pv 3) (pg_sub (pv 2) (pv 4) set_list))))
  (pss_cons (ps_asg (pv 0) (pg_tup rfl (pgs_cons (pg_name (i := 5) nd rfl (Or.inr rfl)) (pgs_cons (pg_name (i := 6) nd rfl (Or.inr rfl)) (pgs_cons (pg_name (i := 7) nd rfl (Or.inr rfl)) (pgs_cons (pg_name (i := 8) nd rfl (Or.inr rfl)) (pgs_cons (pg_name (i := 9) nd rfl (Or.inr rfl)) pgs_nil)))))))
  (pss_one (ps_ret (pe_tup (pa_cons (pe_callTy call_tuple_of (by rfl) T.n_tuple (by decide +kernel) (pa_cons (pe_lc (own := [("f", 10)]) (g := gName 10) (tt := tYes) rfl nd (pi_tup (pv 1)) (blkOk_by (own := [("f", 10)]) (N := ["pattern", "listing", "numbers", "number", "flag", "s0", "s1", "s2", "p", "q", "f"]) (sc := defScope s_renumbered) (by decide +kernel)) (fun _ _ _ _ _ => pg_name (i := 10) nd rfl (Or.inl rfl)) (fun _ _ _ _ _ => pts_nil) (fun _ _ _ _ _ => (pe_ix (show IxR _ (rIxL K) from ix_list) (pv 2) (pe_ix (show IxR _ (rIxT K) from ix_tup) (pv 5) (pv 10) (fun _ _ => rfl)) (fun _ _ => rfl)))) pa_nil)) (pa_cons (pe_callTy call_tuple_of (by rfl) T.n_tuple (by decide +kernel) (pa_cons (pe_lc (own := [("f", 10)]) (g := gName 10) (tt := tYes) rfl nd (pi_tup (pv 1)) (blkOk_by (own := [("f", 10)]) (N := ["pattern", "listing", "numbers", "number", "flag", "s0", "s1", "s2", "p", "q", "f"]) (sc := defScope s_renumbered) (by decide +kernel)) (fun _ _ _ _ _ => pg_name (i := 10) nd rfl (Or.inl rfl)) (fun _ _ _ _ _ => pts_nil) (fun _ _ _ _ _ => (pe_ix (show IxR _ (rIxL K) from ix_list) (pv 2) (pe_ix (show IxR _ (rIxT K) from ix_tup) (pv 6) (pv 10) (fun _ _ => rfl)) (fun _ _ => rfl)))) pa_nil)) (pa_cons (pe_callTy call_tuple_of (by rfl) T.n_tuple (by decide +kernel) (pa_cons (pe_lc (own := [("f", 10)]) (g := gName 10) (tt := tYes) rfl nd (pi_tup (pv 1)) (blkOk_by (own := [("f", 10)]) (N := ["pattern", "listing", "numbers", "number", "flag", "s0", "s1", "s2", "p", "q", "f"]) (sc := defScope s_renumbered) (by decide +kernel)) (fun _ _ _ _ _ => pg_name (i := 10) nd rfl (Or.inl rfl)) (fun _ _ _ _ _ => pts_nil) (fun _ _ _ _ _ => (pe_ix (show IxR _ (rIxL K) from ix_list) (pv 2) (pe_ix (show IxR _ (rIxT K) from ix_tup) (pv 7) (pv 10) (fun _ _ => rfl)) (fun _ _ => rfl)))) pa_nil)) (pa_cons (pe_callTy call_tuple_of (by rfl) T.n_tuple (by decide +kernel) (pa_cons (pe_lc (own := [("f", 10)]) (g := gName 10) (tt := tYes) rfl nd (pi_tup (pv 1)) (blkOk_by (own := [("f", 10)]) (N := ["pattern", "listing", "numbers", "number", "flag", "s0", "s1", "s2", "p", "q", "f"]) (sc := defScope s_renumbered) (by decide +kernel)) (fun _ _ _ _ _ => pg_name (i := 10) nd rfl (Or.inl rfl)) (fun _ _ _ _ _ => pts_nil) (fun _ _ _ _ _ => (pe_ix (show IxR _ (rIxT K) from ix_tup) (pv 8) (pv 10) (fun _ _ => rfl)))) pa_nil)) (pa_cons (pe_callTy call_tuple_of (by rfl) T.n_tuple (by decide +kernel) (pa_cons (pe_lc (own := [("f", 10)]) (g := gName 10) (tt := tYes) rfl nd (pi_tup (pv 1)) (blkOk_by (own := [("f", 10)]) (N := ["pattern", "listing", "numbers", "number", "flag", "s0", "s1", "s2", "p", "q", "f"]) (sc := defScope s_renumbered) (by decide +kernel)) (fun _ _ _ _ _ => pg_name (i := 10) nd rfl (Or.inl rfl)) (fun _ _ _ _ _ => pts_nil) (fun _ _ _ _ _ => (pe_ix (show IxR _ (rIxT K) from ix_tup) (pv 9) (pv 10) (fun _ _ => rfl)))) pa_nil)) pa_nil))))))))))), ?_⟩
    refine ⟨sz (Nat.le_of_ble_eq_true rfl), ?_⟩
    intro p1 np1
    generalize e1 : upd H p1 _ = H1
    have hp1 := updE e1
    have s1 := updS np1 e1
    refine ⟨_, rfl, _, _, rfl, .inr (sameSqt s1 hq), _, _, _, rfl, rfl, hp1, by omega, by omega, sz (by show 1 * _ ≤ 1000; omega), ?_⟩
    intro p2 np2
    generalize e2 : upd H1 p2 _ = H2
    have hp2 := updE e2
    have s2 := updS np2 e2
    have z2 : H p2 = none := s1.free np2
    have s12 : Same H H2 := fun b o h => s2 _ _ (s1 _ _ h)
    rw [ln, Int.toNat_natCast, rep_zero] at hp2
    refine ⟨_, rfl, _, _, rfl, sameSqt s12 hq, for_enumT (K := K) (a := q) (xs := ls.map vn) (fun i σ H' => ∃ (nb : List Nat) (v3 v4 : Option V), σ = [some (.ref p), some (.ref q), some (.ref p2), v3, v4, none, none, none, none, none, none] ∧ H' p2 = some (.lst (nb.map vn)) ∧ nb.length = n ∧ (∀ k, k < i → gt nb (gt ls k) = k) ∧ Same H H')
      ⟨List.replicate n 0, none, none, rfl, hp2, List.length_replicate, fun k hk => absurd hk (by omega), s12⟩ (fun i σ H' _ ⟨_, _, _, _, _, _, _, sm⟩ => sameSqt sm hq) ?_ ?_⟩
    · rintro i x σ H' TT hi ⟨nb, v3, v4, rfl, hb, lb, und, sm⟩ nT
      obtain ⟨z, rfl, hz⟩ := vn_item hi
      have il : i < n := by
        have := (List.getElem?_eq_some_iff.mp hz).1
        omega
      have ez : gt ls i = z := gt_of hz
      have zn : z < n := by rw [← ez]; exact hL.gt_lt il
      have hT : (upd H' TT (.tup [.int (i : Nat), vn z])) TT = some (.tup [.int (i : Nat), vn z]) := upd_same
      have sT : Same H' (upd H' TT (.tup [.int (i : Nat), vn z])) := sameNew nT
      generalize upd H' TT (.tup [.int (i : Nat), vn z]) = H3 at hT sT
      refine ⟨_, _, rfl, SqT.of hT, rfl, _, _, rfl, _, _, rfl, rfl, ?_⟩
      refine ⟨_, rfl, _, rfl, _, rfl, _, _, _, z, rfl, rfl, sT _ _ hb, ixN_nat (by rw [List.length_map]; omega), ?_⟩
      refine ⟨nb.set z i, _, _, rfl, ?_, by rw [List.length_set, lb], fun k hk => ?_, sameApp (fun b o h => sT _ _ (sm _ _ h)) z2⟩
      · rw [List.map_set]
        exact upd_same
      · have kn : k < n := by omega
        rw [gt_set (by rw [lb]; exact hL.gt_lt kn)]
        by_cases e : k = i
        · rw [if_pos (by rw [e, ez]), e]
        · rw [if_neg (fun q => e (hL.inj kn il (by rw [ez]; exact q.symm)))]
          exact und k (by omega)
    · rintro σ H3 ⟨nb, v3, v4, rfl, hb, lb, und, sm⟩
      rw [List.length_map, ll] at und
      have U := und_of hL lb und
      have hb0 := hb
      refine ⟨_, rfl, _, _, rfl, SqT.of (sm _ _ h0), rfl, _, _, rfl, _, _, rfl, _, _, rfl, _, _, rfl, _, _, rfl, rfl, ?_⟩
      refine ⟨_, rfl, _, rfl, ⟨_, sameSqt sm hq⟩, fun D40 nD40 => lc_fmT (K := K) (xs := ls.map vn) (fun _ => true) (fun x => vn (gt nb (gt a0 (toN x)))) (sameSqt sm hq) nD40 (by rw [List.length_map]; omega) (fun _ => rfl) (fun _ _ _ _ _ r => r) ?_ ?_⟩
      · intro x H' R hx _ s' r
        obtain ⟨z, hz, rfl⟩ := List.mem_map.mp hx
        have zn := hL.lt z hz
        refine ⟨_, rfl, _, rfl, _, rfl, _, _, _, _, rfl, rfl, SqT.of (s' _ _ (sm _ _ h1)), vn_at (by rw [i0.len]; exact zn), _, _, _, _, rfl, rfl, SqL.of (s' _ _ hb), vn_at (by rw [U.len]; exact i0.lt z zn), ?_⟩
        rw [toN_vn] at r
        exact r
      intro H40 s40 hD40
      rw [map_fm (g := fun f => gt nb (gt a0 f)) (fun x _ => by rw [toN_vn])] at hD40
      replace sm : Same H H40 := fun b o h => s40 _ _ (sm _ _ h)
      replace hb := s40 _ _ hb
      refine ⟨_, _, rfl, .inl ⟨SqL.of hD40, ?_⟩⟩
      intro p41 np41
      generalize e41 : upd H40 p41 _ = H41
      have hp41 := updE e41
      have s41 := updS np41 e41
      first | replace hb := s41 _ _ hb | replace hb := s41.seq hb | replace hb := sameSqt s41 hb | replace hb := sameDr s41 hb | replace hb := Rows.same s41 hb | replace hb := Sq.same s41 hb
      replace sm : Same H H41 := fun b o h => s41 _ _ (sm _ _ h)
      clear hD40 nD40 e41 np41 s40 s41
      refine ⟨_, rfl, _, rfl, ⟨_, sameSqt sm hq⟩, fun D42 nD42 => lc_fmT (K := K) (xs := ls.map vn) (fun _ => true) (fun x => vn (gt nb (gt a1 (toN x)))) (sameSqt sm hq) nD42 (by rw [List.length_map]; omega) (fun _ => rfl) (fun _ _ _ _ _ r => r) ?_ ?_⟩
      · intro x H' R hx _ s' r
        obtain ⟨z, hz, rfl⟩ := List.mem_map.mp hx
        have zn := hL.lt z hz
        refine ⟨_, rfl, _, rfl, _, rfl, _, _, _, _, rfl, rfl, SqT.of (s' _ _ (sm _ _ h2)), vn_at (by rw [i1.len]; exact zn), _, _, _, _, rfl, rfl, SqL.of (s' _ _ hb), vn_at (by rw [U.len]; exact i1.lt z zn), ?_⟩
        rw [toN_vn] at r
        exact r
      intro H42 s42 hD42
      rw [map_fm (g := fun f => gt nb (gt a1 f)) (fun x _ => by rw [toN_vn])] at hD42
      replace sm : Same H H42 := fun b o h => s42 _ _ (sm _ _ h)
      replace hb := s42 _ _ hb
      replace hp41 := s42 _ _ hp41
      refine ⟨_, _, rfl, .inl ⟨SqL.of hD42, ?_⟩⟩
      intro p43 np43
      generalize e43 : upd H42 p43 _ = H43
      have hp43 := updE e43
      have s43 := updS np43 e43
      first | replace hb := s43 _ _ hb | replace hb := s43.seq hb | replace hb := sameSqt s43 hb | replace hb := sameDr s43 hb | replace hb := Rows.same s43 hb | replace hb := Sq.same s43 hb
      first | replace hp41 := s43 _ _ hp41 | replace hp41 := s43.seq hp41 | replace hp41 := sameSqt s43 hp41 | replace hp41 := sameDr s43 hp41 | replace hp41 := Rows.same s43 hp41 | replace hp41 := Sq.same s43 hp41
      replace sm : Same H H43 := fun b o h => s43 _ _ (sm _ _ h)
      clear hD42 nD42 e43 np43 s42 s43
      refine ⟨_, rfl, _, rfl, ⟨_, sameSqt sm hq⟩, fun D44 nD44 => lc_fmT (K := K) (xs := ls.map vn) (fun _ => true) (fun x => vn (gt nb (gt a2 (toN x)))) (sameSqt sm hq) nD44 (by rw [List.length_map]; omega) (fun _ => rfl) (fun _ _ _ _ _ r => r) ?_ ?_⟩
      · intro x H' R hx _ s' r
        obtain ⟨z, hz, rfl⟩ := List.mem_map.mp hx
        have zn := hL.lt z hz
        refine ⟨_, rfl, _, rfl, _, rfl, _, _, _, _, rfl, rfl, SqT.of (s' _ _ (sm _ _ h3)), vn_at (by rw [i2.len]; exact zn), _, _, _, _, rfl, rfl, SqL.of (s' _ _ hb), vn_at (by rw [U.len]; exact i2.lt z zn), ?_⟩
        rw [toN_vn] at r
        exact r
      intro H44 s44 hD44
      rw [map_fm (g := fun f => gt nb (gt a2 f)) (fun x _ => by rw [toN_vn])] at hD44
      replace sm : Same H H44 := fun b o h => s44 _ _ (sm _ _ h)
      replace hb := s44 _ _ hb
      replace hp41 := s44 _ _ hp41
      replace hp43 := s44 _ _ hp43
      refine ⟨_, _, rfl, .inl ⟨SqL.of hD44, ?_⟩⟩
      intro p45 np45
      generalize e45 : upd H44 p45 _ = H45
      have hp45 := updE e45
      have s45 := updS np45 e45
      first | replace hb := s45 _ _ hb | replace hb := s45.seq hb | replace hb := sameSqt s45 hb | replace hb := sameDr s45 hb | replace hb := Rows.same s45 hb | replace hb := Sq.same s45 hb
      first | replace hp41 := s45 _ _ hp41 | replace hp41 := s45.seq hp41 | replace hp41 := sameSqt s45 hp41 | replace hp41 := sameDr s45 hp41 | replace hp41 := Rows.same s45 hp41 | replace hp41 := Sq.same s45 hp41
      first | replace hp43 := s45 _ _ hp43 | replace hp43 := s45.seq hp43 | replace hp43 := sameSqt s45 hp43 | replace hp43 := sameDr s45 hp43 | replace hp43 := Rows.same s45 hp43 | replace hp43 := Sq.same s45 hp43
      replace sm : Same H H45 := fun b o h => s45 _ _ (sm _ _ h)
      clear hD44 nD44 e45 np45 s44 s45
      refine ⟨_, rfl, _, rfl, ⟨_, sameSqt sm hq⟩, fun D46 nD46 => lc_fmT (K := K) (xs := ls.map vn) (fun _ => true) (fun x => vn (gt ps (toN x))) (sameSqt sm hq) nD46 (by rw [List.length_map]; omega) (fun _ => rfl) (fun _ _ _ _ _ r => r) ?_ ?_⟩
      · intro x H' R hx _ s' r
        obtain ⟨z, hz, rfl⟩ := List.mem_map.mp hx
        have zn := hL.lt z hz
        refine ⟨_, rfl, _, rfl, _, _, _, _, rfl, rfl, SqT.of (s' _ _ (sm _ _ h4)), vn_at (by rw [lp]; exact zn), ?_⟩
        rw [toN_vn] at r
        exact r
      intro H46 s46 hD46
      rw [map_fm (g := gt ps) (fun x _ => by rw [toN_vn])] at hD46
      replace sm : Same H H46 := fun b o h => s46 _ _ (sm _ _ h)
      replace hp41 := s46 _ _ hp41
      replace hp43 := s46 _ _ hp43
      replace hp45 := s46 _ _ hp45
      refine ⟨_, _, rfl, .inl ⟨SqL.of hD46, ?_⟩⟩
      intro p47 np47
      generalize e47 : upd H46 p47 _ = H47
      have hp47 := updE e47
      have s47 := updS np47 e47
      first | replace hp41 := s47 _ _ hp41 | replace hp41 := s47.seq hp41 | replace hp41 := sameSqt s47 hp41 | replace hp41 := sameDr s47 hp41 | replace hp41 := Rows.same s47 hp41 | replace hp41 := Sq.same s47 hp41
      first | replace hp43 := s47 _ _ hp43 | replace hp43 := s47.seq hp43 | replace hp43 := sameSqt s47 hp43 | replace hp43 := sameDr s47 hp43 | replace hp43 := Rows.same s47 hp43 | replace hp43 := Sq.same s47 hp43
      first | replace hp45 := s47 _ _ hp45 | replace hp45 := s47.seq hp45 | replace hp45 := sameSqt s47 hp45 | replace hp45 := sameDr s47 hp45 | replace hp45 := Rows.same s47 hp45 | replace hp45 := Sq.same s47 hp45
      replace sm : Same H H47 := fun b o h => s47 _ _ (sm _ _ h)
      clear hD46 nD46 e47 np47 s46 s47
      refine ⟨_, rfl, _, rfl, ⟨_, sameSqt sm hq⟩, fun D48 nD48 => lc_fmT (K := K) (xs := ls.map vn) (fun _ => true) (fun x => vn (gt qs (toN x))) (sameSqt sm hq) nD48 (by rw [List.length_map]; omega) (fun _ => rfl) (fun _ _ _ _ _ r => r) ?_ ?_⟩
      · intro x H' R hx _ s' r
        obtain ⟨z, hz, rfl⟩ := List.mem_map.mp hx
        have zn := hL.lt z hz
        refine ⟨_, rfl, _, rfl, _, _, _, _, rfl, rfl, SqT.of (s' _ _ (sm _ _ h5)), vn_at (by rw [lq]; exact zn), ?_⟩
        rw [toN_vn] at r
        exact r
      intro H48 s48 hD48
      rw [map_fm (g := gt qs) (fun x _ => by rw [toN_vn])] at hD48
      replace sm : Same H H48 := fun b o h => s48 _ _ (sm _ _ h)
      replace hp41 := s48 _ _ hp41
      replace hp43 := s48 _ _ hp43
      replace hp45 := s48 _ _ hp45
      replace hp47 := s48 _ _ hp47
      refine ⟨_, _, rfl, .inl ⟨SqL.of hD48, ?_⟩⟩
      intro p49 np49
      generalize e49 : upd H48 p49 _ = H49
      have hp49 := updE e49
      have s49 := updS np49 e49
      first | replace hp41 := s49 _ _ hp41 | replace hp41 := s49.seq hp41 | replace hp41 := sameSqt s49 hp41 | replace hp41 := sameDr s49 hp41 | replace hp41 := Rows.same s49 hp41 | replace hp41 := Sq.same s49 hp41
      first | replace hp43 := s49 _ _ hp43 | replace hp43 := s49.seq hp43 | replace hp43 := sameSqt s49 hp43 | replace hp43 := sameDr s49 hp43 | replace hp43 := Rows.same s49 hp43 | replace hp43 := Sq.same s49 hp43
      first | replace hp45 := s49 _ _ hp45 | replace hp45 := s49.seq hp45 | replace hp45 := sameSqt s49 hp45 | replace hp45 := sameDr s49 hp45 | replace hp45 := Rows.same s49 hp45 | replace hp45 := Sq.same s49 hp45
      first | replace hp47 := s49 _ _ hp47 | replace hp47 := s49.seq hp47 | replace hp47 := sameSqt s49 hp47 | replace hp47 := sameDr s49 hp47 | replace hp47 := Rows.same s49 hp47 | replace hp47 := Sq.same s49 hp47
      replace sm : Same H H49 := fun b o h => s49 _ _ (sm _ _ h)
      clear hD48 nD48 e49 np49 s48 s49
      refine ⟨sz (Nat.le_of_ble_eq_true rfl), ?_⟩
      intro p50 np50
      generalize e50 : upd H49 p50 _ = H50
      have hp50 := updE e50
      have s50 := updS np50 e50
      first | replace hp41 := s50 _ _ hp41 | replace hp41 := s50.seq hp41 | replace hp41 := sameSqt s50 hp41 | replace hp41 := sameDr s50 hp41 | replace hp41 := Rows.same s50 hp41 | replace hp41 := Sq.same s50 hp41
      first | replace hp43 := s50 _ _ hp43 | replace hp43 := s50.seq hp43 | replace hp43 := sameSqt s50 hp43 | replace hp43 := sameDr s50 hp43 | replace hp43 := Rows.same s50 hp43 | replace hp43 := Sq.same s50 hp43
      first | replace hp45 := s50 _ _ hp45 | replace hp45 := s50.seq hp45 | replace hp45 := sameSqt s50 hp45 | replace hp45 := sameDr s50 hp45 | replace hp45 := Rows.same s50 hp45 | replace hp45 := Sq.same s50 hp45
      first | replace hp47 := s50 _ _ hp47 | replace hp47 := s50.seq hp47 | replace hp47 := sameSqt s50 hp47 | replace hp47 := sameDr s50 hp47 | replace hp47 := Rows.same s50 hp47 | replace hp47 := Sq.same s50 hp47
      first | replace hp49 := s50 _ _ hp49 | replace hp49 := s50.seq hp49 | replace hp49 := sameSqt s50 hp49 | replace hp49 := sameDr s50 hp49 | replace hp49 := Rows.same s50 hp49 | replace hp49 := Sq.same s50 hp49
      exact k p50 nb _ U ⟨_, _, _, _, _, hp50, hp41, hp43, hp45, hp47, hp49⟩ (fun b o h => s50 _ _ (sm _ _ h))
end

end Toy
namespace Toy
open PySem L2
local macro_rules | `(tactic| walk_at "rd1") => `(tactic| first
  | with_reducible assumption
  | refine ⟨_, rfl, ?_⟩
  | refine ⟨_, _, rfl, rfl, ?_⟩
  | refine ⟨_, _, rfl, ?_⟩
  | refine ⟨_, _, rfl, dg (by assumption) mk_left, ?_⟩
  | refine ⟨_, _, rfl, dg (by assumption) mk_seed, ?_⟩
  | refine ⟨_, _, rfl, dg (by assumption) mk_cells, ?_⟩
  | refine ⟨_, _, rfl, dg (by assumption) mk_spot, ?_⟩
  | refine ⟨_, _, rfl, .inl (SqL.of (by assumption)), ?_⟩
  | refine ⟨_, _, rfl, .inr (SqT.of (by assumption)), ?_⟩
  | refine ⟨_, _, rfl, .inl (by assumption), ?_⟩
  | refine ⟨_, _, rfl, .inr (by assumption), ?_⟩
  | refine ⟨_, _, _, _, rfl, rfl, SqL.of (by assumption), (by assumption), ?_⟩
  | refine ⟨_, _, _, _, rfl, rfl, SqT.of (by assumption), (by assumption), ?_⟩
  | refine ⟨_, _, _, _, rfl, rfl, (by assumption), (atI_nat (j := 0) rfl), ?_⟩
  | refine ⟨_, _, _, _, rfl, rfl, (by assumption), (atI_nat (j := 1) rfl), ?_⟩
  | refine ⟨_, _, _, _, _, rfl, .ty _, .base (.int _), kit_ty (r := true) (by decide +kernel), ?_⟩
  | refine ⟨_, _, _, _, _, rfl, .ty _, .base (.int _), kit_ty (r := false) (by decide +kernel), ?_⟩
  | refine ⟨_, _, _, _, _, rfl, .ty _, .base (.tup (by assumption)), kit_ty (r := true) (by decide +kernel), ?_⟩
  | refine ⟨_, _, _, _, _, rfl, .ty _, .base (.bl _), kit_ty (r := true) (by decide +kernel), ?_⟩
  | refine .inl ⟨_, rfl, ?_⟩
  | refine And.intro (sz (Nat.le_of_ble_eq_true rfl)) ?_
  | refine And.intro rfl ?_
  | refine And.intro (show (_ : Int) < _ from by first | assumption | omega | decide +kernel) ?_
  | refine And.intro (show (_ : Int) ≤ _ from by first | assumption | omega | decide +kernel) ?_
  | refine And.intro (show _ ≠ _ from by first | assumption | omega) ?_
  | refine And.intro ⟨by decide, by decide, by decide⟩ ?_
  | refine And.intro (.inl (show (_ : Int) < _ ∧ (_ : Int) < _ from ⟨by omega, by omega⟩)) ?_
  | refine And.intro (.inr (show (_ : Int) < _ ∧ (_ : Int) < _ from ⟨by omega, by omega⟩)) ?_
  | refine And.intro (show (_ : Int) < _ ∧ _ from ⟨by omega, by omega⟩) ?_
  | refine And.intro (by assumption) ?_
  | refine And.intro (wide_mul (a := 300) (b := 300) (by assumption) (by assumption) (by decide) (by decide) (by decide)) ?_
  | refine ⟨_, _, rfl, (by assumption), ?_⟩
  | refine ⟨_, _, _, _, rfl, rfl, (by assumption), (by assumption), sz (by first | omega | (simp only [List.length_map, List.length_append, List.length_cons, List.length_nil]; omega)), ?_⟩
  | refine iteF ?_
  | refine iteT ?_)
local macro_rules | `(tactic| walk_at "rd") => `(tactic| repeat walk_at "rd1")

def rTupOf (K : PySem.W.Frag) : List V → Hp → VK → Prop := fun xs H Q => ∃ p ys, xs = [.ref p] ∧ ((SqL K H p ys ∧ ∀ l, H l = none → Q (.ref l) (upd H l (.tup ys))) ∨ (SqT K H p ys ∧ Q (.ref p) H))
def valOf : Stmt → Expr
  | .Assign _ v _ => v
  | _ => .Constant .none 0 ⟨0, 0, 0, 0⟩
def scOf : Expr → Scope
  | .ListComp _ _ sc _ => sc
  | _ => { kind := .function, names := [], isGenerator := false, isCoroutine := false }
/-- the rows' block as it stands in the def: what it borrows is a cell -/
abbrev sc_rows0 : Scope := scOf (valOf ((defBody s_law_listed).getD 2 (.Pass ⟨0, 0, 0, 0⟩)))
abbrev sc_rows : Scope := { sc_rows0 with names := sc_rows0.names.map fun (n, k) => if k == .free then (n, .cell) else (n, k) }
theorem Tups.st {H H' : Hp} {ts : List Addr} {cs : List (List Nat)} (s : St H H') (h : Tups H ts cs) : Tups H' ts cs :=
  ⟨h.1, fun i c hc => let ⟨t, ht, e⟩ := h.2 i c hc; ⟨t, ht, s _ _ e rfl⟩⟩
theorem Tups.putD {H : Hp} {ts : List Addr} {cs : List (List Nat)} {D : Addr} {xs ys : List V} (h : Tups H ts cs) (hD : H D = some (.lst xs)) : Tups (upd H D (.lst ys)) ts cs :=
  ⟨h.1, fun i c hc => let ⟨t, ht, e⟩ := h.2 i c hc; ⟨t, ht, (upd_ne (ne_of e hD (by intro q; cases q))).trans e⟩⟩
theorem Tups.snoc {H : Hp} {ts : List Addr} {cs : List (List Nat)} {t : Addr} {c : List Nat} (h : Tups H ts cs) (e : H t = some (.tup (c.map vn))) : Tups H (ts ++ [t]) (cs ++ [c]) := by
  refine ⟨by rw [List.length_append, List.length_append, h.1]; rfl, fun i d hd => ?_⟩
  by_cases q : i < cs.length
  · rw [List.getElem?_append_left q] at hd
    obtain ⟨t', ht', e'⟩ := h.2 i d hd
    exact ⟨t', by rw [List.getElem?_append_left (by rw [h.1]; exact q)]; exact ht', e'⟩
  · rw [List.getElem?_append_right (by omega)] at hd
    have hi : i - cs.length = 0 := by
      have := (List.getElem?_eq_some_iff.mp hd).1
      rw [List.length_singleton] at this
      omega
    rw [hi] at hd
    refine ⟨t, ?_, by rw [← Option.some.inj hd]; exact e⟩
    rw [List.getElem?_append_right (by rw [h.1]; omega), h.1, hi]
    rfl
section
variable {P : Program} {w : World} {K : PySem.W.Frag} {mg : Str → Option Value} {base : Heap}
theorem ok_law_listed (T : Txt K mg) : FnOk P w K mg base CX0 1 T.a_law_listed T.d_law_listed ["value", "listing"] (spRen K) := by
  refine T.f_law_listed.ok sc_law_listed (fun vs H Q E h => ?_) (fun cdv A outer s H vs Q E hr h => ?_)
  · obtain ⟨p, q, a0, a1, a2, ps, qs, ls, n, rfl, _⟩ := h
    rfl
  · obtain ⟨p, q, a0, a1, a2, ps, qs, ls, n, rfl, ⟨t0, t1, t2, t3, t4, h0, h1, h2, h3, h4, h5⟩, i0, i1, i2, lp, lq, hq, hL, hn, k⟩ := h
    have nd := sc_law_listed.nd
    have ll := hL.len
    have ln : (((ls.map vn).length : Nat) : Int) = n := by rw [List.length_map, ll]
    refine ⟨_, (pss_cons (ps_set (i := 2) nd rfl (Or.inr rfl) (pe_lc (own := [("flag", 3)]) (g := gName 3) (tt := tYes) rfl nd (pi_tup (pv 1)) (blkOk_by (own := [("flag", 3)]) (N := ["value", "listing", "places", "flag", "k", "rows", "s", "p", "q"]) (sc := defScope s_law_listed) (by decide +kernel)) (fun _ _ _ _ _ => pg_name (i := 3) nd rfl (Or.inl rfl)) (fun _ _ _ _ _ => pts_nil) (fun _ _ _ _ _ => pe_int)))
  (pss_cons (ps_for PassesOwn.never rfl (pi_range1 (by rfl) T.n_range (pa_cons (pe_callB call_len_seq (by rfl) T.n_len (by decide +kernel) (pa_cons (pv 1) pa_nil)) pa_nil)) (pg_name (i := 4) nd rfl (Or.inl rfl))
  (pss_one (ps_asg (pv 4) (pg_sub (pv 2) (pe_ix ix_tup (pv 1) (pv 4) (fun _ _ => rfl)) set_list))))
  (pss_cons (ps_setLc (i := 5) (own := [("s", 6)]) (g := gName 6) (tt := tYes) rfl nd rfl rfl (sw_true rfl rfl rfl (by decide +kernel)) (pi_tup (pe_slice sl_tupA (pv 0) po_none (po_some pe_int))) (blkOk_by (own := [("s", 6)]) (N := ["value", "listing", "places", "flag", "k", "rows", "s", "p", "q"]) (sc := defScope s_law_listed) (by decide +kernel)) (fun _ _ _ _ _ => pg_name (i := 6) nd rfl (Or.inr rfl)) (fun _ _ _ _ _ => pts_nil) (fun _ _ _ _ _ => (pe_callTy (show CallR _ (.type "tuple") (rTupOf K) from call_tuple_of) (by rfl) T.n_tuple (by decide +kernel) (pa_cons (pe_lc (own := [("flag", 3)]) (g := gName 3) (tt := tYes) rfl nd (show PI _ _ _ (iTup K _) from pi_tup (pv 1)) (blkOk_by (own := [("flag", 3)]) (N := ["value", "listing", "places", "flag", "k", "rows", "s", "p", "q"]) (sc := sc_rows) (by decide +kernel)) (fun _ _ _ _ _ => pg_name (i := 3) nd rfl (Or.inl rfl)) (fun _ _ _ _ _ => pts_nil) (fun _ _ _ _ _ => (pe_ix (show IxR _ (rIxL K) from ix_list) (pv 2) (pe_ix (show IxR _ (rIxT K) from ix_tup) (pv 6) (pv 3) (fun _ _ => rfl)) (fun _ _ => rfl)))) pa_nil))))
  (pss_cons (ps_par (i := 7) (j := 8) (by rfl) nd rfl rfl (by decide) rfl rfl (pa_cons (pe_callTy call_tuple_of (by rfl) T.n_tuple (by decide +kernel) (pa_cons (pe_lc (own := [("flag", 3)]) (g := gName 3) (tt := tYes) rfl nd (pi_tup (pv 1)) (blkOk_by (own := [("flag", 3)]) (N := ["value", "listing", "places", "flag", "k", "rows", "s", "p", "q"]) (sc := defScope s_law_listed) (by decide +kernel)) (fun _ _ _ _ _ => pg_name (i := 3) nd rfl (Or.inl rfl)) (fun _ _ _ _ _ => pts_nil) (fun _ _ _ _ _ => (pe_ix (show IxR _ (rIxT K) from ix_tup) (pe_ix (show IxR _ (rIxT K) from ix_tup) (pv 0) pe_int (fun _ _ => rfl)) (pv 3) (fun _ _ => rfl)))) pa_nil)) (pa_cons (pe_callTy call_tuple_of (by rfl) T.n_tuple (by decide +kernel) (pa_cons (pe_lc (own := [("flag", 3)]) (g := gName 3) (tt := tYes) rfl nd (pi_tup (pv 1)) (blkOk_by (own := [("flag", 3)]) (N := ["value", "listing", "places", "flag", "k", "rows", "s", "p", "q"]) (sc := defScope s_law_listed) (by decide +kernel)) (fun _ _ _ _ _ => pg_name (i := 3) nd rfl (Or.inl rfl)) (fun _ _ _ _ _ => pts_nil) (fun _ _ _ _ _ => (pe_ix (show IxR _ (rIxT K) from ix_tup) (pe_ix (show IxR _ (rIxT K) from ix_tup) (pv 0) pe_int (fun _ _ => rfl)) (pv 3) (fun _ _ => rfl)))) pa_nil)) pa_nil)) (by rfl))
  (pss_one (ps_ret (pe_tup (pa_cons (pe_ix ix_list (pv 5) pe_int (fun _ _ => rfl)) (pa_cons (pe_ix ix_list (pv 5) pe_int (fun _ _ => rfl)) (pa_cons (pe_ix ix_list (pv 5) pe_int (fun _ _ => rfl)) (pa_cons (pv 7) (pa_cons (pv 8) pa_nil)))))))))))), ?_⟩
    refine ⟨_, rfl, _, rfl, ⟨_, hq⟩, fun D nD => lc_fmT (K := K) (xs := ls.map vn) (fun _ => true) (fun _ => vn 0) hq nD (by rw [List.length_map]; omega) (fun _ => rfl) (fun _ _ _ _ _ r => r) (fun _ _ _ _ _ _ r => r) ?_⟩
    intro H1 s1 hD
    rw [zeros] at hD
    refine ⟨_, rfl, _, _, rfl, .inr (sameSqt s1 hq), _, rfl, by omega, by omega, ?_⟩
    refine for_range (lo := 0) (fun i σ H' => ∃ (nb : List Nat) (v4 : Option V), σ = [some (.ref p), some (.ref q), some (.ref D), none, v4, none, none, none, none] ∧ H' D = some (.lst (nb.map vn)) ∧ nb.length = n ∧ (∀ k, k < i → gt nb (gt ls k) = k) ∧ Same H H')
      ⟨ls.map (fun _ => 0), none, rfl, hD, by rw [List.length_map, ll], fun k hk => absurd hk (by omega), s1⟩ ?_ ?_
    · rintro i σ H' hi ⟨nb, v4, rfl, hb, lb, und, sm⟩
      have il : i < n := by
        rw [ln, Int.toNat_natCast] at hi
        exact hi
      have zn : gt ls i < n := hL.gt_lt il
      rw [show (0 : Int) + (i : Int) = (i : Int) from Int.zero_add _]
      refine ⟨_, rfl, _, rfl, _, rfl, _, rfl, _, _, _, _, rfl, rfl, sameSqt sm hq, vn_at (by rw [ll]; exact il), _, _, _, gt ls i, rfl, rfl, hb, ixN_nat (by rw [List.length_map, lb]; exact zn), ?_⟩
      refine ⟨nb.set (gt ls i) i, _, rfl, ?_, by rw [List.length_set, lb], fun k hk => ?_, sameApp sm nD⟩
      · rw [List.map_set]
        exact upd_same
      · have kn : k < n := by omega
        rw [gt_set (by rw [lb]; exact hL.gt_lt kn)]
        by_cases e : k = i
        · rw [if_pos (by rw [e]), e]
        · rw [if_neg (fun q => e (hL.inj kn il q.symm))]
          exact und k (by omega)
    · rintro σ H3 ⟨nb, v4, rfl, hb, lb, und, sm⟩
      rw [ln, Int.toNat_natCast] at und
      have U := und_of hL lb und
      -- the three changes
      refine ⟨_, rfl, _, rfl, _, _, rfl, SqT.of (sm _ _ h0), fun q => absurd (show (3 : Nat) = 5 from q.2) (by decide), fun _ => ?_⟩
      intro p4 np4
      generalize e4 : upd H3 p4 _ = H4
      have hp4 := updE e4
      have s4 := updS np4 e4
      first | replace hb := s4 _ _ hb | replace hb := s4.seq hb | replace hb := sameSqt s4 hb | replace hb := sameDr s4 hb | replace hb := Rows.same s4 hb | replace hb := Sq.same s4 hb
      replace sm : Same H H4 := fun b o h => s4 _ _ (sm _ _ h)
      have hI : ∀ c, c ∈ [a0, a1, a2] → Inv c n := fun c hc => by
        simp only [List.mem_cons, List.not_mem_nil, or_false] at hc
        rcases hc with rfl | rfl | rfl
        · exact i0
        · exact i1
        · exact i2
      have tp : Tups H [t0, t1, t2] [a0, a1, a2] := ⟨rfl, fun i c hc => by
        match i, hc with
        | 0, hc => exact ⟨t0, rfl, by rw [← Option.some.inj hc]; exact h1⟩
        | 1, hc => exact ⟨t1, rfl, by rw [← Option.some.inj hc]; exact h2⟩
        | 2, hc => exact ⟨t2, rfl, by rw [← Option.some.inj hc]; exact h3⟩
        | i + 3, hc => simp at hc⟩
      have hp4' : H4 p4 = some (.tup ([t0, t1, t2].map V.ref)) := hp4
      refine ⟨_, rfl, ⟨_, SqT.of hp4'⟩, fun E nE => lc_tup (K := K) (a := p4) (xs := [t0, t1, t2].map V.ref) (fun i H' => ∃ rs : List Addr, H' E = some (.lst (rs.map V.ref)) ∧ Tups H' rs (([a0, a1, a2].map (rn ls nb)).take i) ∧ Same H4 H')
        ⟨[], upd_same, ⟨rfl, fun i c hc => by simp at hc⟩, sameNew nE⟩ (fun i H' _ ⟨_, _, _, s'⟩ => SqT.of (s' _ _ hp4')) ?_ ?_⟩
      · rintro i x H' hx ⟨rs, hE, tr, s'⟩
        obtain ⟨t, c, rfl, hc, ht, i3⟩ : ∃ t c, x = .ref t ∧ [a0, a1, a2][i]? = some c ∧ H t = some (.tup (c.map vn)) ∧ i < 3 := by
          match i, hx with
          | 0, hx => exact ⟨t0, a0, (Option.some.inj hx).symm, rfl, h1, by decide⟩
          | 1, hx => exact ⟨t1, a1, (Option.some.inj hx).symm, rfl, h2, by decide⟩
          | 2, hx => exact ⟨t2, a2, (Option.some.inj hx).symm, rfl, h3, by decide⟩
          | i + 3, hx => simp at hx
        have ic := hI c (List.mem_of_getElem? hc)
        have sm' : Same H H' := fun b o h => s' _ _ (sm _ _ h)
        have hb' := s' _ _ hb
        refine ⟨rfl, ?_⟩
        dsimp only [tYes]
        rw [if_pos rfl]
        refine ⟨_, rfl, _, rfl, ⟨_, sameSqt sm' hq⟩, fun D40 nD40 => lc_fmT (K := K) (xs := ls.map vn) (fun _ => true) (fun x => vn (gt nb (gt c (toN x)))) (sameSqt sm' hq) nD40 (by rw [List.length_map]; omega) (fun _ => rfl) (fun _ _ _ _ _ r => r) ?_ ?_⟩
        · intro x H2 R hx2 _ s2 r
          obtain ⟨z, hz, rfl⟩ := List.mem_map.mp hx2
          have zn := hL.lt z hz
          refine ⟨_, rfl, _, rfl, _, rfl, _, _, _, _, rfl, rfl, SqT.of (s2 _ _ (sm' _ _ ht)), vn_at (by rw [ic.len]; exact zn), _, _, _, _, rfl, rfl, SqL.of (s2 _ _ hb'), vn_at (by rw [U.len]; exact ic.lt z zn), ?_⟩
          rw [toN_vn] at r
          exact r
        intro H40 s40 hD40
        rw [map_fm (g := fun f => gt nb (gt c f)) (fun x _ => by rw [toN_vn])] at hD40
        refine ⟨_, _, rfl, .inl ⟨SqL.of hD40, ?_⟩⟩
        intro p41 np41
        generalize e41 : upd H40 p41 _ = H41
        have hp41 := updE e41
        have s41 := updS np41 e41
        have s'' : Same H' H41 := fun b o h => s41 _ _ (s40 _ _ h)
        have hE41 := s'' _ _ hE
        have rl : rs.length ≤ 3 := by
          rw [tr.1, List.length_take, List.length_map]
          show min i 3 ≤ 3
          omega
        refine ⟨_, hE41, small1000 (by rw [List.length_map]; omega), rs ++ [p41], ?_, ?_, sameApp (fun b o h => s'' _ _ (s' _ _ h)) nE⟩
        · rw [List.map_append]
          exact upd_same
        · have et : ([a0, a1, a2].map (rn ls nb)).take (i + 1) = ([a0, a1, a2].map (rn ls nb)).take i ++ [rn ls nb c] := by
            rw [List.take_succ, List.getElem?_map, hc]
            rfl
          rw [et]
          have tr' : Tups H41 rs (([a0, a1, a2].map (rn ls nb)).take i) := ⟨tr.1, fun j d hd => let ⟨t, ht, e⟩ := tr.2 j d hd; ⟨t, ht, s'' _ _ e⟩⟩
          exact (tr'.snoc hp41).putD hE41
      · rintro H5 ⟨rs, hE, tr, s5⟩
        have sm5 : Same H H5 := fun b o h => s5 _ _ (sm _ _ h)
        have rl : rs.length = 3 := by rw [tr.1]; rfl
        obtain ⟨r0, r1, r2, rfl⟩ : ∃ r0 r1 r2, rs = [r0, r1, r2] := by
          match rs, rl with
          | [r0, r1, r2], _ => exact ⟨r0, r1, r2, rfl⟩
        obtain ⟨_, e0, hr0⟩ := tr.2 0 _ rfl
        obtain ⟨_, e1, hr1⟩ := tr.2 1 _ rfl
        obtain ⟨_, e2, hr2⟩ := tr.2 2 _ rfl
        rw [← Option.some.inj e0] at hr0
        rw [← Option.some.inj e1] at hr1
        rw [← Option.some.inj e2] at hr2
        clear tr e0 e1 e2 rl
        refine ⟨_, rfl, _, rfl, ⟨_, sameSqt sm5 hq⟩, fun D46 nD46 => lc_fmT (K := K) (xs := ls.map vn) (fun _ => true) (fun x => vn (gt ps (toN x))) (sameSqt sm5 hq) nD46 (by rw [List.length_map]; omega) (fun _ => rfl) (fun _ _ _ _ _ r => r) ?_ ?_⟩
        · intro x H' R hx _ s' r
          obtain ⟨z, hz, rfl⟩ := List.mem_map.mp hx
          have zn := hL.lt z hz
          refine ⟨_, rfl, _, _, _, _, rfl, rfl, SqT.of (s' _ _ (sm5 _ _ h0)), rfl, _, rfl, _, _, _, _, rfl, rfl, SqT.of (s' _ _ (sm5 _ _ h4)), vn_at (by rw [lp]; exact zn), ?_⟩
          rw [toN_vn] at r
          exact r
        intro H46 s46 hD46
        rw [map_fm (g := gt ps) (fun x _ => by rw [toN_vn])] at hD46
        replace sm5 : Same H H46 := fun b o h => s46 _ _ (sm5 _ _ h)
        replace hr0 := s46 _ _ hr0
        replace hr1 := s46 _ _ hr1
        replace hr2 := s46 _ _ hr2
        replace hE := s46 _ _ hE
        refine ⟨_, _, rfl, .inl ⟨SqL.of hD46, ?_⟩⟩
        intro p47 np47
        generalize e47 : upd H46 p47 _ = H47
        have hp47 := updE e47
        have s47 := updS np47 e47
        first | replace hr0 := s47 _ _ hr0 | replace hr0 := s47.seq hr0 | replace hr0 := sameSqt s47 hr0 | replace hr0 := sameDr s47 hr0 | replace hr0 := Rows.same s47 hr0 | replace hr0 := Sq.same s47 hr0
        first | replace hr1 := s47 _ _ hr1 | replace hr1 := s47.seq hr1 | replace hr1 := sameSqt s47 hr1 | replace hr1 := sameDr s47 hr1 | replace hr1 := Rows.same s47 hr1 | replace hr1 := Sq.same s47 hr1
        first | replace hr2 := s47 _ _ hr2 | replace hr2 := s47.seq hr2 | replace hr2 := sameSqt s47 hr2 | replace hr2 := sameDr s47 hr2 | replace hr2 := Rows.same s47 hr2 | replace hr2 := Sq.same s47 hr2
        first | replace hE := s47 _ _ hE | replace hE := s47.seq hE | replace hE := sameSqt s47 hE | replace hE := sameDr s47 hE | replace hE := Rows.same s47 hE | replace hE := Sq.same s47 hE
        replace sm5 : Same H H47 := fun b o h => s47 _ _ (sm5 _ _ h)
        clear hD46 nD46 e47 np47 s46 s47
        refine ⟨_, rfl, _, rfl, ⟨_, sameSqt sm5 hq⟩, fun D48 nD48 => lc_fmT (K := K) (xs := ls.map vn) (fun _ => true) (fun x => vn (gt qs (toN x))) (sameSqt sm5 hq) nD48 (by rw [List.length_map]; omega) (fun _ => rfl) (fun _ _ _ _ _ r => r) ?_ ?_⟩
        · intro x H' R hx _ s' r
          obtain ⟨z, hz, rfl⟩ := List.mem_map.mp hx
          have zn := hL.lt z hz
          refine ⟨_, rfl, _, _, _, _, rfl, rfl, SqT.of (s' _ _ (sm5 _ _ h0)), rfl, _, rfl, _, _, _, _, rfl, rfl, SqT.of (s' _ _ (sm5 _ _ h5)), vn_at (by rw [lq]; exact zn), ?_⟩
          rw [toN_vn] at r
          exact r
        intro H48 s48 hD48
        rw [map_fm (g := gt qs) (fun x _ => by rw [toN_vn])] at hD48
        replace sm5 : Same H H48 := fun b o h => s48 _ _ (sm5 _ _ h)
        replace hr0 := s48 _ _ hr0
        replace hr1 := s48 _ _ hr1
        replace hr2 := s48 _ _ hr2
        replace hE := s48 _ _ hE
        replace hp47 := s48 _ _ hp47
        refine ⟨_, _, rfl, .inl ⟨SqL.of hD48, ?_⟩⟩
        intro p49 np49
        generalize e49 : upd H48 p49 _ = H49
        have hp49 := updE e49
        have s49 := updS np49 e49
        first | replace hr0 := s49 _ _ hr0 | replace hr0 := s49.seq hr0 | replace hr0 := sameSqt s49 hr0 | replace hr0 := sameDr s49 hr0 | replace hr0 := Rows.same s49 hr0 | replace hr0 := Sq.same s49 hr0
        first | replace hr1 := s49 _ _ hr1 | replace hr1 := s49.seq hr1 | replace hr1 := sameSqt s49 hr1 | replace hr1 := sameDr s49 hr1 | replace hr1 := Rows.same s49 hr1 | replace hr1 := Sq.same s49 hr1
        first | replace hr2 := s49 _ _ hr2 | replace hr2 := s49.seq hr2 | replace hr2 := sameSqt s49 hr2 | replace hr2 := sameDr s49 hr2 | replace hr2 := Rows.same s49 hr2 | replace hr2 := Sq.same s49 hr2
        first | replace hE := s49 _ _ hE | replace hE := s49.seq hE | replace hE := sameSqt s49 hE | replace hE := sameDr s49 hE | replace hE := Rows.same s49 hE | replace hE := Sq.same s49 hE
        first | replace hp47 := s49 _ _ hp47 | replace hp47 := s49.seq hp47 | replace hp47 := sameSqt s49 hp47 | replace hp47 := sameDr s49 hp47 | replace hp47 := Rows.same s49 hp47 | replace hp47 := Sq.same s49 hp47
        replace sm5 : Same H H49 := fun b o h => s49 _ _ (sm5 _ _ h)
        clear hD48 nD48 e49 np49 s48 s49
        refine ⟨_, _, rfl, ?_⟩
        refine ⟨_, rfl, _, _, _, _, rfl, rfl, SqL.of hE, rfl, _, rfl, _, _, _, _, rfl, rfl, SqL.of hE, rfl, _, rfl, _, _, _, _, rfl, rfl, SqL.of hE, rfl, _, rfl, _, rfl, sz (Nat.le_of_ble_eq_true rfl), ?_⟩
        intro p50 np50
        generalize e50 : upd H49 p50 _ = H50
        have hp50 := updE e50
        have s50 := updS np50 e50
        first | replace hr0 := s50 _ _ hr0 | replace hr0 := s50.seq hr0 | replace hr0 := sameSqt s50 hr0 | replace hr0 := sameDr s50 hr0 | replace hr0 := Rows.same s50 hr0 | replace hr0 := Sq.same s50 hr0
        first | replace hr1 := s50 _ _ hr1 | replace hr1 := s50.seq hr1 | replace hr1 := sameSqt s50 hr1 | replace hr1 := sameDr s50 hr1 | replace hr1 := Rows.same s50 hr1 | replace hr1 := Sq.same s50 hr1
        first | replace hr2 := s50 _ _ hr2 | replace hr2 := s50.seq hr2 | replace hr2 := sameSqt s50 hr2 | replace hr2 := sameDr s50 hr2 | replace hr2 := Rows.same s50 hr2 | replace hr2 := Sq.same s50 hr2
        first | replace hp47 := s50 _ _ hp47 | replace hp47 := s50.seq hp47 | replace hp47 := sameSqt s50 hp47 | replace hp47 := sameDr s50 hp47 | replace hp47 := Rows.same s50 hp47 | replace hp47 := Sq.same s50 hp47
        first | replace hp49 := s50 _ _ hp49 | replace hp49 := s50.seq hp49 | replace hp49 := sameSqt s50 hp49 | replace hp49 := sameDr s50 hp49 | replace hp49 := Rows.same s50 hp49 | replace hp49 := Sq.same s50 hp49
        exact k p50 nb _ U ⟨_, _, _, _, _, hp50, hr0, hr1, hr2, hp47, hp49⟩ (fun b o h => s50 _ _ (sm5 _ _ h))
end

end Toy
namespace Toy
open PySem L2
local macro_rules | `(tactic| walk_at "rd1") => `(tactic| first
  | with_reducible assumption
  | refine ⟨_, rfl, ?_⟩
  | refine ⟨_, _, rfl, rfl, ?_⟩
  | refine ⟨_, _, rfl, ?_⟩
  | refine ⟨_, _, rfl, dg (by assumption) mk_left, ?_⟩
  | refine ⟨_, _, rfl, dg (by assumption) mk_seed, ?_⟩
  | refine ⟨_, _, rfl, dg (by assumption) mk_cells, ?_⟩
  | refine ⟨_, _, rfl, dg (by assumption) mk_spot, ?_⟩
  | refine ⟨_, _, rfl, .inl (SqL.of (by assumption)), ?_⟩
  | refine ⟨_, _, rfl, .inr (SqT.of (by assumption)), ?_⟩
  | refine ⟨_, _, rfl, .inl (by assumption), ?_⟩
  | refine ⟨_, _, rfl, .inr (by assumption), ?_⟩
  | refine ⟨_, _, _, _, rfl, rfl, SqL.of (by assumption), (by assumption), ?_⟩
  | refine ⟨_, _, _, _, rfl, rfl, SqT.of (by assumption), (by assumption), ?_⟩
  | refine ⟨_, _, _, _, rfl, rfl, (by assumption), (atI_nat (j := 0) rfl), ?_⟩
  | refine ⟨_, _, _, _, rfl, rfl, (by assumption), (atI_nat (j := 1) rfl), ?_⟩
  | refine ⟨_, _, _, _, _, rfl, .ty _, .base (.int _), kit_ty (r := true) (by decide +kernel), ?_⟩
  | refine ⟨_, _, _, _, _, rfl, .ty _, .base (.int _), kit_ty (r := false) (by decide +kernel), ?_⟩
  | refine ⟨_, _, _, _, _, rfl, .ty _, .base (.tup (by assumption)), kit_ty (r := true) (by decide +kernel), ?_⟩
  | refine ⟨_, _, _, _, _, rfl, .ty _, .base (.bl _), kit_ty (r := true) (by decide +kernel), ?_⟩
  | refine .inl ⟨_, rfl, ?_⟩
  | refine And.intro (sz (Nat.le_of_ble_eq_true rfl)) ?_
  | refine And.intro rfl ?_
  | refine And.intro (show (_ : Int) < _ from by first | assumption | omega | decide +kernel) ?_
  | refine And.intro (show (_ : Int) ≤ _ from by first | assumption | omega | decide +kernel) ?_
  | refine And.intro (show _ ≠ _ from by first | assumption | omega) ?_
  | refine And.intro ⟨by decide, by decide, by decide⟩ ?_
  | refine And.intro (.inl (show (_ : Int) < _ ∧ (_ : Int) < _ from ⟨by omega, by omega⟩)) ?_
  | refine And.intro (.inr (show (_ : Int) < _ ∧ (_ : Int) < _ from ⟨by omega, by omega⟩)) ?_
  | refine And.intro (show (_ : Int) < _ ∧ _ from ⟨by omega, by omega⟩) ?_
  | refine And.intro (by assumption) ?_
  | refine And.intro (wide_mul (a := 300) (b := 300) (by assumption) (by assumption) (by decide) (by decide) (by decide)) ?_
  | refine ⟨_, _, rfl, (by assumption), ?_⟩
  | refine ⟨_, _, _, _, rfl, rfl, (by assumption), (by assumption), sz (by first | omega | (simp only [List.length_map, List.length_append, List.length_cons, List.length_nil]; omega)), ?_⟩
  | refine iteF ?_
  | refine iteT ?_)
local macro_rules | `(tactic| walk_at "rd") => `(tactic| repeat walk_at "rd1")

def spPlain : Sp := fun vs H Q _ => ∃ (p q : Addr) (xs ys : List Nat), vs = [.ref p, .ref q] ∧ H p = some (.tup (xs.map vn)) ∧ H q = some (.tup (ys.map vn)) ∧ xs.length ≤ 500 ∧ xs = ys ∧ Q (.bl true) H
def spLst : Sp := fun vs H Q _ => ∃ (m c : Addr) (n0 n : Nat), vs = [.ref m, .int (n : Int)] ∧ DrAt H m c n0 ∧ n0 ≤ 10000 ∧ n ≤ 60 ∧
  ∀ (p : Addr) (ls : List Nat) (H' : Hp), Bare H' p (ls.map vn) → Prm ls n → DrAt H' m c (n0 + n) → St H H' → Q (.ref p) H'
theorem vn_ints (l : List Nat) : l.map vn = (l.map (fun x : Nat => (x : Int))).map V.int := by
  rw [List.map_map]
  rfl
theorem rg_vn (n : Nat) : rgV 0 (n : Int) = (List.range n).map vn := by
  unfold rgV
  rw [show ((n : Int) - 0).toNat = n by omega]
  exact List.map_congr_left fun x _ => by
    show V.int (0 + (x : Int)) = V.int (x : Int)
    rw [Int.zero_add]
/-- what is left of the flags while a listing is drawn -/
structure Lf (lf fs : List Nat) (n j : Nat) : Prop where
  len : fs.length = j
  nd : fs.Nodup
  lt : ∀ x, x ∈ fs → x < n
  ln : lf.Nodup
  lm : ∀ x, x ∈ lf ↔ x < n ∧ ¬ x ∈ fs
theorem Lf.first (n : Nat) : Lf (List.range n) [] n 0 := ⟨rfl, List.nodup_nil, fun x h => by simp at h, List.nodup_range, fun x => by simp⟩
theorem Lf.pos {lf fs : List Nat} {n j : Nat} (h : Lf lf fs n j) (hj : j < n) : 0 < lf.length := by
  cases lf with
  | cons x r => exact Nat.succ_pos _
  | nil =>
    have := len_sub (l := List.range n) (m := fs) List.nodup_range fun x hx => by
      apply Classical.byContradiction
      intro q
      have := (h.lm x).mpr ⟨List.mem_range.mp hx, q⟩
      simp at this
    rw [List.length_range, h.len] at this
    omega
theorem Lf.lelen {lf fs : List Nat} {n j : Nat} (h : Lf lf fs n j) : lf.length ≤ n := nodup_bound h.ln fun x hx => ((h.lm x).mp hx).1
theorem Lf.put {lf fs : List Nat} {n j l : Nat} (h : Lf lf fs n j) (m : l ∈ lf) : Lf (lf.filter (fun f => decide (f ≠ l))) (fs ++ [l]) n (j + 1) := by
  obtain ⟨l1, l2⟩ := (h.lm l).mp m
  refine ⟨by rw [List.length_append, h.len]; rfl, nodup_snoc h.nd l2, fun x hx => ?_, h.ln.filter _, fun x => ?_⟩
  · rcases List.mem_append.mp hx with q | q
    · exact h.lt x q
    · rw [List.mem_singleton.mp q]
      exact l1
  · rw [List.mem_filter, h.lm x, List.mem_append, List.mem_singleton]
    simp only [decide_eq_true_eq, ne_eq]
    constructor
    · rintro ⟨⟨a, b⟩, c⟩
      exact ⟨a, fun q => q.elim b c⟩
    · rintro ⟨a, b⟩
      exact ⟨⟨a, fun q => b (.inl q)⟩, fun q => b (.inr q)⟩
theorem Lf.prm {lf fs : List Nat} {n : Nat} (h : Lf lf fs n n) : Prm fs n := ⟨h.len, h.nd, h.lt⟩
section
variable {P : Program} {w : World} {K : PySem.W.Frag} {mg : Str → Option Value} {base : Heap}
theorem ok_law_is_plain (T : Txt K mg) : FnOk P w K mg base CX0 1 T.a_law_is_plain T.d_law_is_plain ["told", "due"] spPlain := by
  refine T.f_law_is_plain.ok sc_law_is_plain (fun vs H Q E h => ?_) (fun cdv A outer s H vs Q E hr h => ?_)
  · obtain ⟨p, q, xs, ys, rfl, _⟩ := h
    rfl
  · obtain ⟨p, q, xs, ys, rfl, hp, hq, lx, exy, k⟩ := h
    have nd := sc_law_is_plain.nd
    refine ⟨_, (pss_cons (ps_if (pt_not (pt_val (pe_callB call_isi (by rfl) T.n_isinstance (by decide +kernel) (pa_cons (pv 0) (pa_cons (pe_bltn (v := .ty "tuple") (by rfl) T.n_tuple (by decide +kernel) rfl) pa_nil))))) (pss_one (ps_ret pe_bl)) pss_nil)
  (pss_cons (ps_for PassesOwn.never rfl (pi_tup (pv 0)) (pg_name (i := 2) nd rfl (Or.inl rfl))
  (pss_one (ps_if (PW.pt (pw_or (pt_val (pe_callB call_isi (by rfl) T.n_isinstance (by decide +kernel) (pa_cons (pv 2) (pa_cons (pe_bltn (v := .ty "bool") (by rfl) T.n_bool (by decide +kernel) rfl) pa_nil)))) (pw_or1 (pt_not (pt_val (pe_callB call_isi (by rfl) T.n_isinstance (by decide +kernel) (pa_cons (pv 2) (pa_cons (pe_bltn (v := .ty "int") (by rfl) T.n_int (by decide +kernel) rfl) pa_nil)))))))) (pss_one (ps_ret pe_bl)) pss_nil)))
  (pss_one (ps_ret (pe_cmpR (op_eqD hr.units) (pv 0) (pv 1) (nomark _)))))), ?_⟩
    walk_at "rd"
    refine ⟨⟨_, SqT.of hp⟩, for_tup (K := K) (a := p) (xs := xs.map vn) (fun i σ H' => ∃ v2 : Option V, σ = [some (.ref p), some (.ref q), v2] ∧ H' = H) ⟨none, rfl, rfl⟩ (fun i σ H' _ ⟨_, _, e⟩ => by rw [e]; exact SqT.of hp) ?_ ?_⟩
    · rintro i x σ H' hi ⟨v2, rfl, rfl⟩
      obtain ⟨z, rfl, hz⟩ := vn_item hi
      walk_at "rd"
      rfl
    · rintro σ H' ⟨v2, rfl, rfl⟩
      refine ⟨_, rfl, _, rfl, ?_⟩
      have hp' := hp
      have hq' := hq
      rw [vn_ints] at hp' hq'
      refine rEqT (SqT.of hp') (SqT.of hq') ?_
      rw [exy, decide_eq_true rfl]
      exact k
theorem ok_law_listing (T : Txt K mg) : FnOk P w K mg base CX0 3 T.a_law_listing T.d_law_listing ["m", "size"] spLst := by
  refine T.f_law_listing.ok sc_law_listing (fun vs H Q E h => ?_) (fun cdv A outer s H vs Q E hr h => ?_)
  · obtain ⟨m, c, n0, n, rfl, _⟩ := h
    rfl
  · obtain ⟨m, c, n0, n, rfl, D, hn0, hn, k⟩ := h
    have nd := sc_law_listing.nd
    obtain ⟨xc, hc⟩ := D.cell
    refine ⟨_, (pss_cons (ps_par (i := 2) (j := 3) (by rfl) nd rfl rfl (by decide) rfl rfl (pa_cons (pe_listRg (by rfl) (by rfl) T.n_list (prg_1 (by rfl) T.n_range (pv 1))) (pa_cons (pe_lst pa_nil) pa_nil)) (by rfl))
  (pss_cons (ps_for PassesOwn.never rfl (pi_range1 (by rfl) T.n_range (pa_cons (pv 1) pa_nil)) (pg_name (i := 4) nd rfl (Or.inl rfl))
  (pss_cons (ps_set (i := 5) nd rfl (Or.inr rfl) (pe_call (ok_law_of T) (hr.mono (by decide)) rfl T.g_law_of T.k_law_of T.b_law_of .nil pass0 (pa_cons (pv 0) (pa_cons (pv 2) pa_nil))))
  (pss_cons (ps_setLc (i := 2) (own := [("one", 6)]) (g := gName 6) (tt := _) rfl nd rfl rfl (sw_true rfl rfl rfl (by decide +kernel)) (pi_list (pv 2)) (blkOk_by (own := [("one", 6)]) (N := ["m", "size", "left", "found", "k", "flag", "one"]) (sc := defScope s_law_listing) (by decide +kernel)) (fun _ _ _ _ _ => pg_name (i := 6) nd rfl (Or.inl rfl)) (fun _ _ _ _ _ => (pts_one (pt_cmpR op_ne (pv 6) (pv 5) (nomark _)))) (fun _ _ _ _ _ => (pv 6)))
  (pss_one (ps_expr (pe_bm PySem.F.plainAttrs_list PySem.F.slot_list_append PySem.F.type_list_append mt_append (pv 3) (pa_cons (pv 5) pa_nil)))))))
  (pss_one (ps_ret (pe_callTy (show CallR _ (.type "tuple") (rTupBare K) from call_tuple_bare) (by rfl) T.n_tuple (by decide +kernel) (pa_cons (pv 3) pa_nil)))))), ?_⟩
    refine ⟨_, rfl, _, rfl, RgOk.of_le (by omega) (by omega) (by omega) (by omega), ?_⟩
    rw [rg_vn]
    intro p1 np1
    generalize e1 : upd H p1 _ = H1
    have hp1 := updE e1
    have s1 := updS np1 e1
    first | replace D := s1 _ _ D | replace D := s1.seq D | replace D := sameSqt s1 D | replace D := sameDr s1 D | replace D := Rows.same s1 D | replace D := Sq.same s1 D
    refine ⟨sz (Nat.le_of_ble_eq_true rfl), ?_⟩
    intro p2 np2
    generalize e2 : upd H1 p2 _ = H2
    have hp2 := updE e2
    have s2 := updS np2 e2
    first | replace D := s2 _ _ D | replace D := s2.seq D | replace D := sameSqt s2 D | replace D := sameDr s2 D | replace D := Rows.same s2 D | replace D := Sq.same s2 D
    first | replace hp1 := s2 _ _ hp1 | replace hp1 := s2.seq hp1 | replace hp1 := sameSqt s2 hp1 | replace hp1 := sameDr s2 hp1 | replace hp1 := Rows.same s2 hp1 | replace hp1 := Sq.same s2 hp1
    have n12 : p1 ≠ p2 := ne_of_none (updE e1) np2
    have z2 : H p2 = none := s1.free np2
    have w2 : Nw H p2 := Nw.of (St.refl H) z2
    have c2 : c ≠ p2 := ne_of_none hc z2
    have s12 : St H H2 := Same.st fun b o h => s2 _ _ (s1 _ _ h)
    refine ⟨_, _, rfl, ?_⟩
    refine ⟨_, rfl, _, rfl, by omega, by omega, ?_⟩
    rw [Int.toNat_natCast]
    refine for_range (lo := 0) (fun j σ H' => ∃ (la : Addr) (lf fs : List Nat) (v4 v5 v6 : Option V), σ = [some (.ref m), some (.int (n : Int)), some (.ref la), some (.ref p2), v4, v5, v6] ∧ H' la = some (.lst (lf.map vn)) ∧ H' p2 = some (.lst (fs.map vn)) ∧ la ≠ p2 ∧ Lf lf fs n j ∧ DrAt H' m c (n0 + j) ∧ St H H')
      ⟨p1, _, [], none, none, none, rfl, hp1, hp2, n12, Lf.first n, D, s12⟩ ?_ ?_
    · rintro j σ H' hj ⟨la, lf, fs, v4, v5, v6, rfl, hl, hf, nlf, L, D, st⟩
      have ll := L.lelen
      have lp := L.pos hj
      refine ⟨_, rfl, _, rfl, _, _, _, _, _, rfl, D, by omega, hl, by rw [List.length_map]; exact lp, by rw [List.length_map]; omega, fun i v H3 hi hv D3 st3 => ?_⟩
      have hl3 := st3 _ _ hl rfl
      have hf3 := st3 _ _ hf rfl
      obtain ⟨l, rfl, hlv⟩ := vn_item hv
      have lm := List.mem_of_getElem? hlv
      refine ⟨_, rfl, _, rfl, ⟨_, SqL.of hl3⟩, fun Df nDf => lc_fm (K := K) (xs := lf.map vn) (fun x => !decide (x = vn l)) id (SqL.of hl3) nDf (by rw [List.length_map]; omega) (fun _ => rfl) ?_ ?_ ?_⟩
      · intro x H' R' hx sm r
        obtain ⟨z, hz, rfl⟩ := List.mem_map.mp hx
        exact ⟨_, rfl, _, rfl, rfl, _, rfl, r⟩
      · intro x H' R' hx _ sm r
        exact ⟨_, rfl, r⟩
      intro H4 s4 hDf
      rw [filt] at hDf
      have hf4 := s4 _ _ hf3
      have D4 := sameDr s4 D3
      have nf : Df ≠ p2 := (ne_of_none hf3 nDf).symm
      refine ⟨_, rfl, .inl ⟨rfl, _, SqL.of hf4⟩, _, rfl, p2, _, _, rfl, rfl, hf4, small1000 (by rw [List.length_map, L.len]; omega), ?_⟩
      refine ⟨Df, _, fs ++ [l], _, _, _, rfl, (upd_ne nf).trans hDf, ?_, nf, L.put lm, D4.put hf4 c2, fun b o e d => (upd_ne (w2 b o e d)).trans (s4 _ _ (st3 _ _ (st _ _ e d) d))⟩
      rw [List.map_append]
      exact upd_same
    · rintro σ H' ⟨la, lf, fs, v4, v5, v6, rfl, hl, hf, nlf, L, D, st⟩
      refine ⟨_, rfl, _, _, rfl, SqL.of hf, fun l9 H9 _ s9 hb9 => ?_⟩
      exact k l9 fs H9 hb9 L.prm (sameDr s9 D) (fun b o e d => s9 _ _ (st _ _ e d))
end

end Toy
namespace Toy
open PySem L2
local macro_rules | `(tactic| walk_at "rd1") => `(tactic| first
  | with_reducible assumption
  | refine ⟨_, rfl, ?_⟩
  | refine ⟨_, _, rfl, rfl, ?_⟩
  | refine ⟨_, _, rfl, ?_⟩
  | refine ⟨_, _, rfl, dg (by assumption) mk_left, ?_⟩
  | refine ⟨_, _, rfl, dg (by assumption) mk_seed, ?_⟩
  | refine ⟨_, _, rfl, dg (by assumption) mk_cells, ?_⟩
  | refine ⟨_, _, rfl, dg (by assumption) mk_spot, ?_⟩
  | refine ⟨_, _, rfl, .inl (SqL.of (by assumption)), ?_⟩
  | refine ⟨_, _, rfl, .inr (SqT.of (by assumption)), ?_⟩
  | refine ⟨_, _, rfl, .inl (by assumption), ?_⟩
  | refine ⟨_, _, rfl, .inr (by assumption), ?_⟩
  | refine ⟨_, _, _, _, rfl, rfl, SqL.of (by assumption), (by assumption), ?_⟩
  | refine ⟨_, _, _, _, rfl, rfl, SqT.of (by assumption), (by assumption), ?_⟩
  | refine ⟨_, _, _, _, rfl, rfl, (by assumption), (atI_nat (j := 0) rfl), ?_⟩
  | refine ⟨_, _, _, _, rfl, rfl, (by assumption), (atI_nat (j := 1) rfl), ?_⟩
  | refine ⟨_, _, _, _, _, rfl, .ty _, .base (.int _), kit_ty (r := true) (by decide +kernel), ?_⟩
  | refine ⟨_, _, _, _, _, rfl, .ty _, .base (.int _), kit_ty (r := false) (by decide +kernel), ?_⟩
  | refine ⟨_, _, _, _, _, rfl, .ty _, .base (.tup (by assumption)), kit_ty (r := true) (by decide +kernel), ?_⟩
  | refine ⟨_, _, _, _, _, rfl, .ty _, .base (.bl _), kit_ty (r := true) (by decide +kernel), ?_⟩
  | refine .inl ⟨_, rfl, ?_⟩
  | refine And.intro (sz (Nat.le_of_ble_eq_true rfl)) ?_
  | refine And.intro rfl ?_
  | refine And.intro (show (_ : Int) < _ from by first | assumption | omega | decide +kernel) ?_
  | refine And.intro (show (_ : Int) ≤ _ from by first | assumption | omega | decide +kernel) ?_
  | refine And.intro (show _ ≠ _ from by first | assumption | omega) ?_
  | refine And.intro ⟨by decide, by decide, by decide⟩ ?_
  | refine And.intro (.inl (show (_ : Int) < _ ∧ (_ : Int) < _ from ⟨by omega, by omega⟩)) ?_
  | refine And.intro (.inr (show (_ : Int) < _ ∧ (_ : Int) < _ from ⟨by omega, by omega⟩)) ?_
  | refine And.intro (show (_ : Int) < _ ∧ _ from ⟨by omega, by omega⟩) ?_
  | refine And.intro (by assumption) ?_
  | refine And.intro (wide_mul (a := 300) (b := 300) (by assumption) (by assumption) (by decide) (by decide) (by decide)) ?_
  | refine ⟨_, _, rfl, (by assumption), ?_⟩
  | refine ⟨_, _, _, _, rfl, rfl, (by assumption), (by assumption), sz (by first | omega | (simp only [List.length_map, List.length_append, List.length_cons, List.length_nil]; omega)), ?_⟩
  | refine iteF ?_
  | refine iteT ?_)
local macro_rules | `(tactic| walk_at "rd") => `(tactic| repeat walk_at "rd1")

def spWkl : Sp := fun vs H Q _ => ∃ (p : Addr) (a0 a1 a2 ps qs : List Nat) (n f : Nat), vs = [.ref p, .int (f : Int)] ∧ PtH H p a0 a1 a2 ps qs ∧ Inv a0 n ∧ Inv a1 n ∧ Inv a2 n ∧ f < n ∧ n ≤ 500 ∧
  ∀ (q : Addr) (H' : Hp), H' q = some (.lst ((wlk [a0, a1, a2] n f).map vn)) → Same H H' → Q (.ref q) H'
/-- which flags were seen -/
def seenL (n : Nat) (fs : List Nat) : List V := (List.range n).map fun x => V.bl (decide (x ∈ fs))
theorem seen_at {n x : Nat} {fs : List Nat} (h : x < n) : atI (seenL n fs) (x : Int) = some (V.bl (decide (x ∈ fs))) := by
  refine atI_nat ?_
  unfold seenL
  rw [List.getElem?_map, List.getElem?_range h]
  rfl
theorem seen_put {n x : Nat} {fs : List Nat} (h : x < n) : (seenL n fs).set x (V.bl true) = seenL n (fs ++ [x]) := by
  unfold seenL
  refine List.ext_getElem? fun i => ?_
  rw [List.getElem?_set, List.getElem?_map, List.getElem?_map, List.length_map, List.length_range]
  by_cases e : x = i
  · subst e
    rw [if_pos rfl, if_pos h, List.getElem?_range h]
    simp
  · rw [if_neg e]
    by_cases q : i < n
    · rw [List.getElem?_range q]
      have e' : ¬ i = x := fun w => e w.symm
      simp [e']
    · rw [List.getElem?_eq_none (by rw [List.length_range]; omega)]
      rfl
theorem seen_first (n f : Nat) : (List.range n).map (fun j : Nat => V.bl (decide (V.int ((0 : Int) + (j : Int)) = V.int (f : Int)))) = seenL n [f] := by
  unfold seenL
  refine List.map_congr_left fun x _ => ?_
  congr 1
  refine decide_eq_decide.mpr ?_
  rw [List.mem_singleton, V.int.injEq]
  omega
section
variable {P : Program} {w : World} {K : PySem.W.Frag} {mg : Str → Option Value} {base : Heap}
theorem ok_law_walk (T : Txt K mg) : FnOk P w K mg base CX0 1 T.a_law_walk T.d_law_walk ["value", "flag"] spWkl := by
  refine T.f_law_walk.ok sc_law_walk (fun vs H Q E h => ?_) (fun cdv A outer s H vs Q E hr h => ?_)
  · obtain ⟨p, a0, a1, a2, ps, qs, n, f, rfl, _⟩ := h
    rfl
  · obtain ⟨p, a0, a1, a2, ps, qs, n, f, rfl, ⟨t0, t1, t2, t3, t4, h0, h1, h2, h3, h4, h5⟩, i0, i1, i2, hf, hn, k⟩ := h
    have nd := sc_law_walk.nd
    have l0 := i0.len
    refine ⟨_, (pss_cons (ps_par (i := 2) (j := 3) (by rfl) nd rfl rfl (by decide) rfl rfl (pa_cons (pe_lst (pa_cons (pv 1) pa_nil)) (pa_cons (pe_lc (own := [("one", 4)]) (g := gName 4) (tt := tYes) rfl nd (pi_range1 (by rfl) T.n_range (pa_cons (pe_callB call_len_seq (by rfl) T.n_len (by decide +kernel) (pa_cons (pe_ix ix_tup (pv 0) pe_int (fun _ _ => rfl)) pa_nil)) pa_nil)) (blkOk_by (own := [("one", 4)]) (N := ["value", "flag", "found", "seen", "one", "k", "s", "far"]) (sc := defScope s_law_walk) (by decide +kernel)) (fun _ _ _ _ _ => pg_name (i := 4) nd rfl (Or.inl rfl)) (fun _ _ _ _ _ => pts_nil) (fun _ _ _ _ _ => (pe_cmpR op_eq (pv 4) (pv 1) (nomark _)))) pa_nil)) (by rfl))
  (pss_cons (ps_for PassesOwn.never rfl (pi_range1 (by rfl) T.n_range (pa_cons (pe_callB call_len_seq (by rfl) T.n_len (by decide +kernel) (pa_cons (pe_ix ix_tup (pv 0) pe_int (fun _ _ => rfl)) pa_nil)) pa_nil)) (pg_name (i := 5) nd rfl (Or.inl rfl))
  (pss_one (ps_if (pt_cmpR op_lt (pv 5) (pe_callB call_len_seq (by rfl) T.n_len (by decide +kernel) (pa_cons (pv 2) pa_nil)) (nomark _)) (pss_one (ps_for PassesOwn.never rfl (pi_tup (pe_slice sl_tupA (pv 0) po_none (po_some pe_int))) (pg_name (i := 6) nd rfl (Or.inl rfl))
  (pss_cons (ps_set (i := 7) nd rfl (Or.inl rfl) (pe_ix ix_tup (pv 6) (pe_ix ix_list (pv 2) (pv 5) (fun _ _ => rfl)) (fun _ _ => rfl)))
  (pss_one (ps_if (pt_not (pt_val (pe_ix ix_list (pv 3) (pv 7) (fun _ _ => rfl)))) (pss_cons (ps_asg pe_bl (pg_sub (pv 3) (pv 7) set_list))
  (pss_one (ps_expr (pe_bm PySem.F.plainAttrs_list PySem.F.slot_list_append PySem.F.type_list_append mt_append (pv 2) (pa_cons (pv 7) pa_nil))))) pss_nil))))) pss_nil)))
  (pss_one (ps_ret (pv 2))))), ?_⟩
    refine ⟨_, rfl, sz (Nat.le_of_ble_eq_true rfl), ?_⟩
    intro p1 np1
    generalize e1 : upd H p1 _ = H1
    have hp1 := updE e1
    have s1 := updS np1 e1
    have hI : ∀ c, c ∈ [a0, a1, a2] → Inv c n := fun c hc => by
      simp only [List.mem_cons, List.not_mem_nil, or_false] at hc
      rcases hc with rfl | rfl | rfl
      · exact i0
      · exact i1
      · exact i2
    have np1' := np1
    have ln : (((a0.map vn).length : Nat) : Int) = n := by rw [List.length_map, l0]
    refine ⟨_, rfl, _, _, _, _, rfl, rfl, SqT.of (s1 _ _ h0), rfl, _, _, rfl, .inr (SqT.of (s1 _ _ h1)), _, rfl, by omega, by omega, fun D nD => lc_fmr (lo := 0) (fun j : Nat => V.bl (decide (V.int ((0 : Int) + (j : Int)) = V.int (f : Int)))) nD (by omega) (fun _ => rfl) ?_ ?_⟩
    · intro j H' R hj _ r
      exact ⟨_, rfl, _, rfl, rfl, r⟩
    intro H2 s2 hD
    rw [ln, Int.toNat_natCast, seen_first] at hD
    have hl := s2 _ _ hp1
    have pD : p1 ≠ D := ne_of_none hp1 nD
    have zD : H D = none := s1.free nD
    have sm : Same H H2 := fun b o h => s2 _ _ (s1 _ _ h)
    refine ⟨_, _, rfl, ?_⟩
    refine ⟨_, rfl, _, _, _, _, rfl, rfl, SqT.of (sm _ _ h0), rfl, _, _, rfl, .inr (SqT.of (sm _ _ h1)), _, rfl, by omega, by omega, ?_⟩
    rw [ln, Int.toNat_natCast]
    refine for_range (lo := 0) (fun i σ H' => ∃ v5 v6 v7 : Option V, σ = [some (.ref p), some (.int (f : Int)), some (.ref p1), some (.ref D), none, v5, v6, v7] ∧ H' p1 = some (.lst ((bf [a0, a1, a2] f i).map vn)) ∧ H' D = some (.lst (seenL n (bf [a0, a1, a2] f i))) ∧ Same H H')
      ⟨none, none, none, rfl, hl, hD, sm⟩ ?_ ?_
    · rintro i σ H' hi ⟨v5, v6, v7, rfl, hl, hD, sm⟩
      rw [show (0 : Int) + (i : Int) = (i : Int) from Int.zero_add _]
      refine ⟨_, rfl, _, rfl, _, _, rfl, .inl (SqL.of hl), _, _, rfl, rfl, _, rfl, ?_⟩
      refine ite2 (fun h => ?_) (fun h => ?_)
      · have hk : i < (bf [a0, a1, a2] f i).length := by
          have := of_decide_eq_true h
          rw [List.length_map] at this
          omega
        obtain ⟨g, hg⟩ : ∃ g, (bf [a0, a1, a2] f i)[i]? = some g := ⟨_, List.getElem?_eq_getElem hk⟩
        have lts := bf_lt hI hf i
        have gn : g < n := lts g (List.mem_of_getElem? hg)
        have nds := bf_nd [a0, a1, a2] f i
        have eb := bf_succ_some hg
        refine ⟨_, rfl, _, rfl, _, _, rfl, SqT.of (sm _ _ h0), fun q => absurd (show (3 : Nat) = 5 from q.2) (by decide), fun _ => ?_⟩
        intro p5 np5
        generalize e5 : upd H' p5 _ = H5
        have hp5 := updE e5
        have s5 := updS np5 e5
        first | replace hl := s5 _ _ hl | replace hl := s5.seq hl | replace hl := sameSqt s5 hl | replace hl := sameDr s5 hl | replace hl := Rows.same s5 hl | replace hl := Sq.same s5 hl
        first | replace hD := s5 _ _ hD | replace hD := s5.seq hD | replace hD := sameSqt s5 hD | replace hD := sameDr s5 hD | replace hD := Rows.same s5 hD | replace hD := Sq.same s5 hD
        replace sm : Same H H5 := fun b o h => s5 _ _ (sm _ _ h)
        have hp5' : H5 p5 = some (.tup ([t0, t1, t2].map V.ref)) := hp5
        have n51 : p5 ≠ p1 := ne_of hp5 hl (by intro q; cases q)
        have n5D : p5 ≠ D := ne_of hp5 hD (by intro q; cases q)
        refine ⟨_, rfl, ⟨_, SqT.of hp5'⟩, for_tup (K := K) (a := p5) (xs := [t0, t1, t2].map V.ref) (fun j σ H2 => ∃ v6 v7 : Option V, σ = [some (.ref p), some (.int (f : Int)), some (.ref p1), some (.ref D), none, some (.int (i : Int)), v6, v7] ∧ H2 p1 = some (.lst ((stL ([a0, a1, a2].take j) (bf [a0, a1, a2] f i) g).map vn)) ∧ H2 D = some (.lst (seenL n (stL ([a0, a1, a2].take j) (bf [a0, a1, a2] f i) g))) ∧ H2 p5 = some (.tup ([t0, t1, t2].map V.ref)) ∧ Same H H2)
          ⟨v6, v7, rfl, hl, hD, hp5', sm⟩ (fun j σ H2 _ ⟨_, _, _, _, _, e, _⟩ => SqT.of e) ?_ ?_⟩
        · rintro j x σ H2 hx ⟨v6, v7, rfl, hl2, hD2, e5, s2⟩
          obtain ⟨t, c, rfl, hc, ht, j3⟩ : ∃ t c, x = .ref t ∧ [a0, a1, a2][j]? = some c ∧ H t = some (.tup (c.map vn)) ∧ j < 3 := by
            match j, hx with
            | 0, hx => exact ⟨t0, a0, (Option.some.inj hx).symm, rfl, h1, by decide⟩
            | 1, hx => exact ⟨t1, a1, (Option.some.inj hx).symm, rfl, h2, by decide⟩
            | 2, hx => exact ⟨t2, a2, (Option.some.inj hx).symm, rfl, h3, by decide⟩
            | j + 3, hx => simp at hx
          have ic := hI c (List.mem_of_getElem? hc)
          have len2 := stL_len (cs := [a0, a1, a2].take j) (fs := bf [a0, a1, a2] f i) (g := g) (n := n) (fun c hc => hI c (List.mem_of_mem_take hc)) nds lts gn
          have eg : atI ((stL ([a0, a1, a2].take j) (bf [a0, a1, a2] f i) g).map vn) (i : Int) = some (vn g) := by
            refine atI_nat ?_
            rw [List.getElem?_map, stL_get hg]
            rfl
          have st := stL_take (fs := bf [a0, a1, a2] f i) (g := g) hc
          generalize stL ([a0, a1, a2].take j) (bf [a0, a1, a2] f i) g = fs2 at *
          have gc : gt c g < n := ic.lt g gn
          refine ⟨_, rfl, _, rfl, _, rfl, _, _, _, _, rfl, rfl, SqL.of hl2, eg, _, _, _, _, rfl, rfl, SqT.of (s2 _ _ ht), vn_at (by rw [ic.len]; exact gn), ?_⟩
          refine ⟨_, rfl, _, rfl, _, _, _, _, rfl, rfl, SqL.of hD2, seen_at gc, _, rfl, ?_⟩
          rw [st]
          by_cases m : gt c g ∈ fs2
          · rw [decide_eq_true m]
            refine iteF ?_
            have ea : adj fs2 (gt c g) = fs2 := if_pos m
            refine ⟨_, _, rfl, ?_, ?_, e5, s2⟩
            · rw [ea]; exact hl2
            · rw [ea]; exact hD2
          · rw [decide_eq_false m]
            refine iteT ?_
            have ea : adj fs2 (gt c g) = fs2 ++ [gt c g] := if_neg m
            refine ⟨_, rfl, _, rfl, _, _, _, gt c g, rfl, rfl, hD2, ixN_nat (by unfold seenL; rw [List.length_map, List.length_range]; exact gc), ?_⟩
            have hl3 : (upd H2 D (.lst ((seenL n fs2).set (gt c g) (V.bl true)))) p1 = some (.lst (fs2.map vn)) := (upd_ne pD).trans hl2
            refine ⟨_, rfl, .inl ⟨rfl, _, SqL.of hl3⟩, _, rfl, p1, _, _, rfl, rfl, hl3, small1000 (by rw [List.length_map]; omega), ?_⟩
            refine ⟨_, _, rfl, ?_, ?_, (upd_ne n51).trans ((upd_ne n5D).trans e5), sameApp (sameApp s2 zD) np1'⟩
            · rw [ea, List.map_append]
              exact upd_same
            · rw [ea, ← seen_put gc]
              exact (upd_ne pD.symm).trans upd_same
        · rintro σ H3 ⟨v6, v7, rfl, hl3, hD3, e5, s3⟩
          rw [show [a0, a1, a2].take ([t0, t1, t2].map V.ref).length = [a0, a1, a2] from rfl, ← eb] at hl3 hD3
          exact ⟨_, _, _, rfl, hl3, hD3, s3⟩
      · have hk : (bf [a0, a1, a2] f i).length ≤ i := by
          apply Nat.le_of_not_lt
          intro q
          exact h (decide_eq_true (by rw [List.length_map]; omega))
        have eb := bf_succ_none hk
        rw [← eb] at hl hD
        exact ⟨_, _, _, rfl, hl, hD, sm⟩
    · rintro σ H' ⟨v5, v6, v7, rfl, hl, hD, sm⟩
      refine ⟨_, rfl, ?_⟩
      exact k p1 H' hl sm
end

end Toy
namespace Toy
open PySem L2
local macro_rules | `(tactic| walk_at "rd1") => `(tactic| first
  | with_reducible assumption
  | refine ⟨_, rfl, ?_⟩
  | refine ⟨_, _, rfl, rfl, ?_⟩
  | refine ⟨_, _, rfl, ?_⟩
  | refine ⟨_, _, rfl, dg (by assumption) mk_left, ?_⟩
  | refine ⟨_, _, rfl, dg (by assumption) mk_seed, ?_⟩
  | refine ⟨_, _, rfl, dg (by assumption) mk_cells, ?_⟩
  | refine ⟨_, _, rfl, dg (by assumption) mk_spot, ?_⟩
  | refine ⟨_, _, rfl, .inl (SqL.of (by assumption)), ?_⟩
  | refine ⟨_, _, rfl, .inr (SqT.of (by assumption)), ?_⟩
  | refine ⟨_, _, rfl, .inl (by assumption), ?_⟩
  | refine ⟨_, _, rfl, .inr (by assumption), ?_⟩
  | refine ⟨_, _, _, _, rfl, rfl, SqL.of (by assumption), (by assumption), ?_⟩
  | refine ⟨_, _, _, _, rfl, rfl, SqT.of (by assumption), (by assumption), ?_⟩
  | refine ⟨_, _, _, _, rfl, rfl, (by assumption), (atI_nat (j := 0) rfl), ?_⟩
  | refine ⟨_, _, _, _, rfl, rfl, (by assumption), (atI_nat (j := 1) rfl), ?_⟩
  | refine ⟨_, _, _, _, _, rfl, .ty _, .base (.int _), kit_ty (r := true) (by decide +kernel), ?_⟩
  | refine ⟨_, _, _, _, _, rfl, .ty _, .base (.int _), kit_ty (r := false) (by decide +kernel), ?_⟩
  | refine ⟨_, _, _, _, _, rfl, .ty _, .base (.tup (by assumption)), kit_ty (r := true) (by decide +kernel), ?_⟩
  | refine ⟨_, _, _, _, _, rfl, .ty _, .base (.bl _), kit_ty (r := true) (by decide +kernel), ?_⟩
  | refine .inl ⟨_, rfl, ?_⟩
  | refine And.intro (sz (Nat.le_of_ble_eq_true rfl)) ?_
  | refine And.intro rfl ?_
  | refine And.intro (show (_ : Int) < _ from by first | assumption | omega | decide +kernel) ?_
  | refine And.intro (show (_ : Int) ≤ _ from by first | assumption | omega | decide +kernel) ?_
  | refine And.intro (show _ ≠ _ from by first | assumption | omega) ?_
  | refine And.intro ⟨by decide, by decide, by decide⟩ ?_
  | refine And.intro (.inl (show (_ : Int) < _ ∧ (_ : Int) < _ from ⟨by omega, by omega⟩)) ?_
  | refine And.intro (.inr (show (_ : Int) < _ ∧ (_ : Int) < _ from ⟨by omega, by omega⟩)) ?_
  | refine And.intro (show (_ : Int) < _ ∧ _ from ⟨by omega, by omega⟩) ?_
  | refine And.intro (by assumption) ?_
  | refine And.intro (wide_mul (a := 300) (b := 300) (by assumption) (by assumption) (by decide) (by decide) (by decide)) ?_
  | refine ⟨_, _, rfl, (by assumption), ?_⟩
  | refine ⟨_, _, _, _, rfl, rfl, (by assumption), (by assumption), sz (by first | omega | (simp only [List.length_map, List.length_append, List.length_cons, List.length_nil]; omega)), ?_⟩
  | refine iteF ?_
  | refine iteT ?_)
local macro_rules | `(tactic| walk_at "rd") => `(tactic| repeat walk_at "rd1")

def ptD (a0 a1 a2 ps qs : List Nat) : PyData := .tuple [.tuple ((a0.map (fun x : Nat => (x : Int))).map PyData.int), .tuple ((a1.map (fun x : Nat => (x : Int))).map PyData.int), .tuple ((a2.map (fun x : Nat => (x : Int))).map PyData.int), .tuple ((ps.map (fun x : Nat => (x : Int))).map PyData.int), .tuple ((qs.map (fun x : Nat => (x : Int))).map PyData.int)]
theorem ptD_sh (a0 a1 a2 ps qs : List Nat) : SeqAt.shaped (ptD a0 a1 a2 ps qs) = true := by
  unfold SeqAt.shaped ptD
  simp only [PyData.canLay0, PyData.canLayAll0, canInts, PyData.depth, PyData.depthAll, depInts, Bool.true_and]
  decide
theorem ptD_eq (a0 a1 a2 ps qs : List Nat) : PyData.eqv (ptD a0 a1 a2 ps qs) (ptD a0 a1 a2 ps qs) = true := by
  unfold ptD
  simp only [PyData.eqv, PyData.eqvAll, eqvInts, decide_true, Bool.true_and]
theorem PtH.dp {K : PySem.W.Frag} {H : Hp} {p : Addr} {a0 a1 a2 ps qs : List Nat} (h : PtH H p a0 a1 a2 ps qs) : Dp K H (.ref p) (ptD a0 a1 a2 ps qs) := by
  obtain ⟨t0, t1, t2, t3, t4, h0, h1, h2, h3, h4, h5⟩ := h
  rw [vn_ints] at h1 h2 h3 h4 h5
  exact .tup (SqT.of h0) (.cons (.tup (SqT.of h1) (dpInts _)) (.cons (.tup (SqT.of h2) (dpInts _)) (.cons (.tup (SqT.of h3) (dpInts _)) (.cons (.tup (SqT.of h4) (dpInts _)) (.cons (.tup (SqT.of h5) (dpInts _)) .nil)))))
theorem rNePt {K : PySem.W.Frag} {H : Hp} {p q : Addr} {a0 a1 a2 ps qs : List Nat} {Q : VK} (h : PtH H p a0 a1 a2 ps qs) (g : PtH H q a0 a1 a2 ps qs) (k : Q (.bl false) H) : rNeD K (.ref p) (.ref q) H Q :=
  ⟨_, _, h.dp, g.dp, ptD_sh .., ptD_sh .., by rw [ptD_eq]; exact k⟩
theorem Bare.st {H H' : Hp} {p : Addr} {ys : List V} (s : St H H') (h : Bare H p ys) : Bare H' p ys := by
  obtain ⟨o, e, r⟩ := h
  exact ⟨o, s _ _ e rfl, r⟩
theorem und_list {ls nb : List Nat} {n : Nat} (u : Und ls nb n) : (List.range n).map (fun j : Nat => vn (gt nb j)) = nb.map vn := by
  have e : nb = (List.range n).map (gt nb) := by
    refine gt_ext (by rw [List.length_map, List.length_range, u.len]) fun k hk => ?_
    rw [u.len] at hk
    rw [gt_map (by rw [List.length_range]; exact hk), gt_range hk]
  conv => rhs; rw [e, List.map_map]
  rfl
theorem und_range (n : Nat) : Und (List.range n) (List.range n) n := und_of (prm_range n) List.length_range fun k hk => by rw [gt_range hk, gt_range hk]
theorem rn_back {ls nb cb s : List Nat} {n : Nat} (h : Prm ls n) (u : Und ls nb n) (v : Und nb cb n) (i : Inv s n) : rn nb cb (rn ls nb s) = s := by
  have c : Und (nb.map (gt ls)) (List.range n) n := by
    rw [back_id h u]
    exact und_range n
  rw [rn_comp h u (und_prm h u) v c i, back_id h u]
  exact rn_id (und_range n) i
theorem pr_back {ls nb q : List Nat} {n : Nat} (h : Prm ls n) (u : Und ls nb n) (l : q.length = n) : pr nb (pr ls q) = q := by
  rw [pr_comp h (und_prm h u), back_id h u]
  exact pr_id l
theorem pr_len {ls q : List Nat} {n : Nat} (h : Prm ls n) : (pr ls q).length = n := by
  unfold pr
  rw [List.length_map, h.len]
theorem ints_at {ls nb : List Nat} {n j : Nat} (h : Prm ls n) (u : Und ls nb n) (hj : j < n) : (ls.map (fun x : Nat => (x : Int)))[gt nb j]? = some ((0 : Int) + (j : Int)) := by
  have a := u.lt j hj
  rw [List.getElem?_map, gt_some (by rw [h.len]; exact a), u.r j hj]
  show some ((j : Nat) : Int) = _
  rw [Int.zero_add]
theorem ints_no {ls nb : List Nat} {n j : Nat} (h : Prm ls n) (u : Und ls nb n) (hj : j < n) : ∀ k, k < gt nb j → (ls.map (fun x : Nat => (x : Int)))[k]? ≠ some ((0 : Int) + (j : Int)) := by
  intro k hk e
  have kn : k < n := Nat.lt_trans hk (u.lt j hj)
  rw [List.getElem?_map, gt_some (by rw [h.len]; exact kn)] at e
  have e2 : ((gt ls k : Nat) : Int) = 0 + (j : Int) := Option.some.inj e
  have e3 : gt ls k = j := by omega
  have e4 := u.l k kn
  rw [e3] at e4
  omega
def spLaw (K : PySem.W.Frag) : Sp := fun vs H Q _ => ∃ (a : Addr) (ns : List Int), vs = [.ref a] ∧ SqL K H a (ns.map V.int) ∧ ns.length ≤ 63 ∧ ∀ H', Q (.bl true) H'
section
variable {P : Program} {w : World} {K : PySem.W.Frag} {mg : Str → Option Value} {base : Heap}
theorem law_all (T : Txt K mg) {fa : Addr} {fd : FuncData} (F : Fun K "law" "law" s_law fa fd) : FnOk P w K mg base CX0 8 fa fd ["script"] (spLaw K) := by
  refine F.ok sc_law (fun vs H Q E h => ?_) (fun cdv A outer s H vs Q E hr h => ?_)
  · obtain ⟨a, ns, rfl, _⟩ := h
    rfl
  · obtain ⟨p, ns, rfl, hS, hlen, k⟩ := h
    have nd := sc_law.nd
    refine ⟨_, (pss_cons (ps_for PassesOwn.never rfl (pi_range1 (by rfl) T.n_range (pa_cons (pe_callB (call_max2 rfl) (by rfl) T.n_max (by decide +kernel) (pa_cons pe_int (pa_cons (pe_callB (call_min2 rfl) (by rfl) T.n_min (by decide +kernel) (pa_cons (pe_callB call_len_seq (by rfl) T.n_len (by decide +kernel) (pa_cons (pv 0) pa_nil)) (pa_cons pe_int pa_nil))) pa_nil))) pa_nil)) (pg_name (i := 1) nd rfl (Or.inl rfl))
  (pss_cons (ps_set (i := 2) nd rfl (Or.inl rfl) (pe_call (ok_law_begun T) (hr.mono (by decide)) rfl T.g_law_begun T.k_law_begun T.b_law_begun .nil pass0 (pa_cons (pv 0) (pa_cons (pv 1) pa_nil))))
  (pss_cons (ps_set (i := 3) nd rfl (Or.inl rfl) (pe_call (ok_law_pattern T) (hr.mono (by decide)) rfl T.g_law_pattern T.k_law_pattern T.b_law_pattern .nil pass0 (pa_cons (pv 2) (pa_cons pe_int (pa_cons pe_int pa_nil)))))
  (pss_cons (ps_set (i := 4) nd rfl (Or.inl rfl) (pe_callB call_len_seq (by rfl) T.n_len (by decide +kernel) (pa_cons (pe_ix ix_tup (pv 3) pe_int (fun _ _ => rfl)) pa_nil)))
  (pss_cons (ps_asg (pe_tup (pa_cons (pe_call (ok_law_listing T) (hr.mono (by decide)) rfl T.g_law_listing T.k_law_listing T.b_law_listing .nil pass0 (pa_cons (pv 2) (pa_cons (pv 4) pa_nil))) (pa_cons (pe_call (ok_law_listing T) (hr.mono (by decide)) rfl T.g_law_listing T.k_law_listing T.b_law_listing .nil pass0 (pa_cons (pv 2) (pa_cons (pv 4) pa_nil))) pa_nil))) (pg_tup rfl (pgs_cons (pg_name (i := 5) nd rfl (Or.inr rfl)) (pgs_cons (pg_name (i := 6) nd rfl (Or.inl rfl)) pgs_nil))))
  (pss_cons (ps_set (i := 7) nd rfl (Or.inl rfl) (pe_call (ok_renumbered T) (hr.mono (by decide)) rfl T.g_renumbered T.k_renumbered T.b_renumbered .nil pass0 (pa_cons (pv 3) (pa_cons (pv 5) pa_nil))))
  (pss_cons (ps_if (PW.pt (pw_or (pt_not (pt_val (pe_callB call_isi (by rfl) T.n_isinstance (by decide +kernel) (pa_cons (pv 7) (pa_cons (pe_bltn (v := .ty "tuple") (by rfl) T.n_tuple (by decide +kernel) rfl) pa_nil))))) (pw_or1 (pt_cmpR (op_neD hr.units) (pv 7) (pe_call (ok_law_listed T) (hr.mono (by decide)) rfl T.g_law_listed T.k_law_listed T.b_law_listed .nil pass0 (pa_cons (pv 3) (pa_cons (pv 5) pa_nil))) (nomark _))))) (pss_one (ps_ret pe_bl)) pss_nil)
  (pss_cons (ps_set (i := 8) nd rfl (Or.inl rfl) (pe_callTy call_tuple_of (by rfl) T.n_tuple (by decide +kernel) (pa_cons (pe_lc (own := [("place", 9)]) (g := gName 9) (tt := tYes) rfl nd (pi_tup (pv 6)) (blkOk_by (own := [("place", 9)]) (N := ["script", "k", "m", "value", "size", "one", "two", "moved", "both", "place", "back", "flag", "due", "far"]) (sc := defScope s_law) (by decide +kernel)) (fun _ _ _ _ _ => pg_name (i := 9) nd rfl (Or.inl rfl)) (fun _ _ _ _ _ => pts_nil) (fun _ _ _ _ _ => (pe_ix (show IxR _ (rIx K) from ix_seq) (pv 5) (pv 9) (fun _ _ => rfl)))) pa_nil)))
  (pss_cons (ps_if (pt_cmpR (op_neD hr.units) (pe_call (ok_renumbered T) (hr.mono (by decide)) rfl T.g_renumbered T.k_renumbered T.b_renumbered .nil pass0 (pa_cons (pv 7) (pa_cons (pv 6) pa_nil))) (pe_call (ok_renumbered T) (hr.mono (by decide)) rfl T.g_renumbered T.k_renumbered T.b_renumbered .nil pass0 (pa_cons (pv 3) (pa_cons (pv 8) pa_nil))) (nomark _)) (pss_one (ps_ret pe_bl)) pss_nil)
  (pss_cons (ps_set (i := 10) nd rfl (Or.inr rfl) (pe_callTy call_tuple_of (by rfl) T.n_tuple (by decide +kernel) (pa_cons (pe_lc (own := [("flag", 11)]) (g := gName 11) (tt := tYes) rfl nd (pi_range1 (by rfl) T.n_range (pa_cons (pv 4) pa_nil)) (blkOk_by (own := [("flag", 11)]) (N := ["script", "k", "m", "value", "size", "one", "two", "moved", "both", "place", "back", "flag", "due", "far"]) (sc := defScope s_law) (by decide +kernel)) (fun _ _ _ _ _ => pg_name (i := 11) nd rfl (Or.inl rfl)) (fun _ _ _ _ _ => pts_nil) (fun _ _ _ _ _ => (pe_bmf PySem.F.slot_tuple_index PySem.F.type_tuple_index (show MtR _ "tuple.index" (rTI K) from mt_tup_indexI) (pv 5) (pa_cons (pv 11) pa_nil)))) pa_nil)))
  (pss_cons (ps_if (PW.pt (pw_or (pt_cmpR (op_neD hr.units) (pe_call (ok_renumbered T) (hr.mono (by decide)) rfl T.g_renumbered T.k_renumbered T.b_renumbered .nil pass0 (pa_cons (pv 7) (pa_cons (pv 10) pa_nil))) (pv 3) (nomark _)) (pw_or1 (pt_cmpR (op_neD hr.units) (pe_call (ok_renumbered T) (hr.mono (by decide)) rfl T.g_renumbered T.k_renumbered T.b_renumbered .nil pass0 (pa_cons (pv 3) (pa_cons (pe_tupRg (by rfl) (by rfl) T.n_tuple (prg_1 (by rfl) T.n_range (pv 4))) pa_nil))) (pv 3) (nomark _))))) (pss_one (ps_ret pe_bl)) pss_nil)
  (pss_one (ps_for PassesOwn.never rfl (pi_range1 (by rfl) T.n_range (pa_cons (pv 4) pa_nil)) (pg_name (i := 11) nd rfl (Or.inl rfl))
  (pss_cons (ps_set (i := 12) nd rfl (Or.inl rfl) (pe_callTy call_tuple_of (by rfl) T.n_tuple (by decide +kernel) (pa_cons (pe_call (ok_law_walk T) (hr.mono (by decide)) rfl T.g_law_walk T.k_law_walk T.b_law_walk .nil pass0 (pa_cons (pv 3) (pa_cons (pv 11) pa_nil))) pa_nil)))
  (pss_cons (ps_if (pt_not (pt_val (pe_call (ok_law_is_plain T) (hr.mono (by decide)) rfl T.g_law_is_plain T.k_law_is_plain T.b_law_is_plain .nil pass0 (pa_cons (pe_call (ok_walk T) (hr.mono (by decide)) rfl T.g_walk T.k_walk T.b_walk .nil pass0 (pa_cons (pv 3) (pa_cons (pv 11) pa_nil))) (pa_cons (pv 12) pa_nil))))) (pss_one (ps_ret pe_bl)) pss_nil)
  (pss_one (ps_if (pt_cmpR (op_neD hr.units) (pe_call (ok_walk T) (hr.mono (by decide)) rfl T.g_walk T.k_walk T.b_walk .nil pass0 (pa_cons (pv 7) (pa_cons (pe_ix ix_tup (pv 10) (pv 11) (fun _ _ => rfl)) pa_nil))) (pe_callTy call_tuple_of (by rfl) T.n_tuple (by decide +kernel) (pa_cons (pe_lc (own := [("far", 13)]) (g := gName 13) (tt := tYes) rfl nd (pi_tup (pv 12)) (blkOk_by (own := [("far", 13)]) (N := ["script", "k", "m", "value", "size", "one", "two", "moved", "both", "place", "back", "flag", "due", "far"]) (sc := defScope s_law) (by decide +kernel)) (fun _ _ _ _ _ => pg_name (i := 13) nd rfl (Or.inl rfl)) (fun _ _ _ _ _ => pts_nil) (fun _ _ _ _ _ => (pe_ix (show IxR _ (rIxT K) from ix_tup) (pv 10) (pv 13) (fun _ _ => rfl)))) pa_nil)) (nomark _)) (pss_one (ps_ret pe_bl)) pss_nil)))))))))))))))))
  (pss_one (ps_ret pe_bl))), ?_⟩
    have hj : ∃ z : Nat, z ≤ 4 ∧ (if (if (4 : Int) < (((ns.map V.int).length : Nat) : Int) then (4 : Int) else (((ns.map V.int).length : Nat) : Int)) > 2 then (if (4 : Int) < (((ns.map V.int).length : Nat) : Int) then (4 : Int) else (((ns.map V.int).length : Nat) : Int)) else 2) = (z : Int) := by
      rw [List.length_map]
      by_cases h1 : (4 : Int) < ((ns.length : Nat) : Int)
      · rw [if_pos h1]
        exact ⟨4, by omega, by decide⟩
      · rw [if_neg h1]
        by_cases h2 : ((ns.length : Nat) : Int) > 2
        · rw [if_pos h2]
          exact ⟨ns.length, by omega, rfl⟩
        · rw [if_neg h2]
          exact ⟨2, by omega, rfl⟩
    obtain ⟨z, z8, ez⟩ := hj
    refine ⟨_, rfl, _, _, rfl, .inl hS, _, _, rfl, _, _, rfl, _, rfl, ?_⟩
    have hz := congrArg Int.toNat ez
    rw [Int.toNat_natCast] at hz
    refine ⟨by first | (rw [ez]; omega) | (show -(2 ^ 62 : Int) ≤ _; rw [ez]; omega), by first | (rw [ez]; omega) | (show _ < (2 ^ 62 : Int); rw [ez]; omega), ?_⟩
    refine for_range (lo := 0) (fun j σ H' => ∃ v1 v2 v3 v4 v5 v6 v7 v8 v9 v10 v11 v12 v13 : Option V, σ = [some (.ref p), v1, v2, v3, v4, v5, v6, v7, v8, v9, v10, v11, v12, v13] ∧ St H H') ⟨none, none, none, none, none, none, none, none, none, none, none, none, none, rfl, St.refl H⟩ ?_ ?_
    · rintro j σ H' hj ⟨v1, v2, v3, v4, v5, v6, v7, v8, v9, v10, v11, v12, v13, rfl, st0⟩
      have hj2 : j < z := Nat.lt_of_lt_of_eq hj hz
      have hS1 := st0.seq hS
      clear hj ez hz
      refine ⟨_, rfl, _, rfl, _, _, _, rfl, hS1, hlen, by omega, by omega, fun m c H1 D1 st1 => ?_⟩
      refine ⟨_, rfl, m, c, 0, 12, 3, rfl, D1, by omega, by omega, by omega, by omega, by omega, fun pv a0 a1 a2 ps qs n H2 Z n0 n12 D2 st2 => ?_⟩
      have st : St H H2 := (st0.trans st1).trans st2
      clear st0 st1 st2 hS1 D1
      have F := Z.fr
      have i0 := F.i0
      have i1 := F.i1
      have i2 := F.i2
      have la := i0.len
      have lp := Z.lp
      have lq := Z.lq
      have ln : (((a0.map vn).length : Nat) : Int) = n := by rw [List.length_map, la]
      have PV : PtH H2 pv a0 a1 a2 ps qs := Z.ex
      clear Z
      obtain ⟨t0, t1, t2, t3, t4, g0, g1, g2, g3, g4, g5⟩ := PV
      refine ⟨_, rfl, _, _, _, _, rfl, rfl, SqT.of g0, atI_nat (j := 0) rfl, _, _, rfl, .inr (SqT.of g1), ?_⟩
      have PV : PtH H2 pv a0 a1 a2 ps qs := ⟨t0, t1, t2, t3, t4, g0, g1, g2, g3, g4, g5⟩
      clear g0 g1 g2 g3 g4 g5
      rw [ln]
      -- two listings
      refine ⟨_, rfl, _, rfl, m, c, _, n, rfl, D2, by omega, by omega, fun A1 l1 H3 hA1 P1 D3 st3 => ?_⟩
      refine ⟨_, rfl, _, rfl, m, c, _, n, rfl, D3, by omega, by omega, fun A2 l2 H4 hA2 P2 D4 st4 => ?_⟩
      replace PV := (PV.st st3).st st4
      have B1 := hA1.st st4
      have B2 := hA2
      replace st := (st.trans st3).trans st4
      clear st3 st4 hA1 hA2 D2 D3 D4
      refine ⟨sz (Nat.le_of_ble_eq_true rfl), ?_⟩
      intro p14 np14
      generalize e14 : upd H4 p14 _ = H14
      have hp14 := updE e14
      have s14 := updS np14 e14
      replace PV := PV.same s14
      replace B1 := B1.same s14
      replace B2 := B2.same s14
      replace st := st.trans (Same.st s14)
      refine ⟨_, _, rfl, SqT.of hp14, rfl, _, _, rfl, _, _, rfl, rfl, ?_⟩
      clear hp14 s14 np14 e14
      -- moved
      refine ⟨_, rfl, _, rfl, pv, A1, a0, a1, a2, ps, qs, l1, n, rfl, PV, i0, i1, i2, lp, lq, B1.sq, P1, by omega, fun r1 nb1 H15 U1 PM s15 => ?_⟩
      replace PV := PV.same s15
      replace B1 := B1.same s15
      replace B2 := B2.same s15
      replace st := st.trans (Same.st s15)
      clear s15
      obtain ⟨m0, m1, m2, m3, m4, e0, e1, e2, e3, e4, e5⟩ := PM
      refine ⟨_, rfl, _, _, _, _, _, rfl, .ty _, .base (.tup e0), kit_ty (r := true) (by decide +kernel), _, rfl, ?_⟩
      have PM : PtH H15 r1 (rn l1 nb1 a0) (rn l1 nb1 a1) (rn l1 nb1 a2) (pr l1 ps) (pr l1 qs) := ⟨m0, m1, m2, m3, m4, e0, e1, e2, e3, e4, e5⟩
      clear e0 e1 e2 e3 e4 e5
      refine iteF ?_
      refine ⟨_, rfl, _, rfl, _, rfl, pv, A1, a0, a1, a2, ps, qs, l1, n, rfl, PV, i0, i1, i2, lp, lq, B1.sq, P1, by omega, fun r2 nb2 H16 U2 PM2 s16 => ?_⟩
      obtain rfl := U1.one U2
      replace PM := PM.same s16
      refine rNePt PM PM2 ⟨_, rfl, ?_⟩
      refine iteF ?_
      replace PV := PV.same s16
      replace B1 := B1.same s16
      replace B2 := B2.same s16
      replace st := st.trans (Same.st s16)
      clear s16 PM2 U2
      have l1n := P1.len
      have l2n := P2.len
      -- both
      refine ⟨_, rfl, _, rfl, ⟨_, B2.sq⟩, fun D nD => lc_fmT (K := K) (xs := l2.map vn) (fun _ => true) (fun x => vn (gt l1 (toN x))) B2.sq nD (by rw [List.length_map]; omega) (fun _ => rfl) (fun _ _ _ _ _ r => r) ?_ ?_⟩
      · intro x H' R hx _ s' r
        obtain ⟨z, hz, rfl⟩ := List.mem_map.mp hx
        have zn := P2.lt z hz
        refine ⟨_, rfl, _, rfl, .inr (.inl ⟨_, _, _, _, rfl, rfl, (B1.same s').sq, vn_at (by rw [l1n]; exact zn), ?_⟩)⟩
        rw [toN_vn] at r
        exact r
      intro H17 s17 hD
      rw [map_fm (g := gt l1) (fun x _ => by rw [toN_vn])] at hD
      refine ⟨_, _, rfl, .inl ⟨SqL.of hD, ?_⟩⟩
      intro p18 np18
      generalize e18 : upd H17 p18 _ = H18
      have hp18 := updE e18
      have s18 := updS np18 e18
      replace PV := (PV.same s17).same s18
      replace PM := (PM.same s17).same s18
      replace B1 := (B1.same s17).same s18
      replace B2 := (B2.same s17).same s18
      replace st := (st.trans (Same.st s17)).trans (Same.st s18)
      clear s17 s18 hD nD np18 e18
      have j0 := rn_inv P1 U1 i0
      have j1 := rn_inv P1 U1 i1
      have j2 := rn_inv P1 U1 i2
      refine ⟨_, rfl, _, rfl, r1, A2, _, _, _, _, _, l2, n, rfl, PM, j0, j1, j2, pr_len P1, pr_len P1, B2.sq, P2, by omega, fun r3 nb3 H19 U3 PM3 s19 => ?_⟩
      refine ⟨_, rfl, _, rfl, pv, p18, a0, a1, a2, ps, qs, l2.map (gt l1), n, rfl, PV.same s19, i0, i1, i2, lp, lq, SqT.of (s19 _ _ hp18), prm_comp P1 P2, by omega, fun r4 nb4 H20 U4 PM4 s20 => ?_⟩
      rw [← rn_comp P1 U1 P2 U3 U4 i0, ← rn_comp P1 U1 P2 U3 U4 i1, ← rn_comp P1 U1 P2 U3 U4 i2, ← pr_comp (p := ps) P1 P2, ← pr_comp (p := qs) P1 P2] at PM4
      refine rNePt (PM3.same s20) PM4 ⟨_, rfl, ?_⟩
      refine iteF ?_
      replace PV := (PV.same s19).same s20
      replace PM := (PM.same s19).same s20
      replace B1 := (B1.same s19).same s20
      replace st := (st.trans (Same.st s19)).trans (Same.st s20)
      clear s19 s20 PM3 PM4 U3 U4 B2
      -- back
      refine ⟨_, rfl, _, rfl, by omega, by omega, fun D nD => lc_fmr (lo := 0) (fun j : Nat => vn (gt nb1 j)) nD (by omega) (fun _ => rfl) ?_ ?_⟩
      · intro j H' R hj s' r
        have hjn : j < n := by rw [Int.toNat_natCast] at hj; exact hj
        refine ⟨_, rfl, ⟨_, _, rfl, B1.same s'⟩, _, rfl, A1, l1.map (fun x : Nat => (x : Int)), _, gt nb1 j, rfl, rfl, by rw [← vn_ints]; exact (B1.same s').sq, ints_at P1 U1 hjn, ints_no P1 U1 hjn, ?_⟩
        exact r
      intro H21 s21 hD
      rw [Int.toNat_natCast, und_list U1] at hD
      refine ⟨_, _, rfl, .inl ⟨SqL.of hD, ?_⟩⟩
      intro p22 np22
      generalize e22 : upd H21 p22 _ = H22
      have hp22 := updE e22
      have s22 := updS np22 e22
      replace PV := (PV.same s21).same s22
      replace PM := (PM.same s21).same s22
      replace st := (st.trans (Same.st s21)).trans (Same.st s22)
      clear s21 s22 hD nD np22 e22 B1
      have PB := und_prm P1 U1
      refine ⟨_, rfl, _, rfl, r1, p22, _, _, _, _, _, nb1, n, rfl, PM, j0, j1, j2, pr_len P1, pr_len P1, SqT.of hp22, PB, by omega, fun r5 nb5 H23 U5 PM5 s23 => ?_⟩
      rw [rn_back P1 U1 U5 i0, rn_back P1 U1 U5 i1, rn_back P1 U1 U5 i2, pr_back P1 U1 lp, pr_back P1 U1 lq] at PM5
      replace PV := PV.same s23
      refine ⟨_, rfl, rNePt PM5 PV ⟨_, rfl, ?_⟩⟩
      refine iteF ?_
      replace PM := PM.same s23
      replace hp22 := s23 _ _ hp22
      replace st := st.trans (Same.st s23)
      clear s23 PM5 U5
      refine ⟨_, rfl, _, rfl, _, rfl, RgOk.of_le (by omega) (by omega) (by omega) (by omega), ?_⟩
      rw [rg_vn]
      intro p24 np24
      generalize e24 : upd H23 p24 _ = H24
      have hp24 := updE e24
      have s24 := updS np24 e24
      refine ⟨pv, p24, a0, a1, a2, ps, qs, List.range n, n, rfl, PV.same s24, i0, i1, i2, lp, lq, SqT.of hp24, prm_range n, by omega, fun r6 nb6 H25 U6 PM6 s25 => ?_⟩
      rw [rn_id U6 i0, rn_id U6 i1, rn_id U6 i2, pr_id lp, pr_id lq] at PM6
      replace PV := (PV.same s24).same s25
      refine ⟨_, rfl, rNePt PM6 PV ⟨_, rfl, ?_⟩⟩
      refine iteF ?_
      replace PM := (PM.same s24).same s25
      replace hp22 := s25 _ _ (s24 _ _ hp22)
      replace st := (st.trans (Same.st s24)).trans (Same.st s25)
      clear s24 s25 PM6 U6 hp24 np24 e24
      -- the walks
      refine ⟨_, rfl, _, rfl, by omega, by omega, ?_⟩
      rw [Int.toNat_natCast]
      refine for_range (lo := 0) (fun f σ H' => ∃ v11 v12 v13 : Option V, σ = [some (.ref p), some (.int (0 + (j : Int))), some (.ref m), some (.ref pv), some (.int (n : Int)), some (.ref A1), some (.ref A2), some (.ref r1), some (.ref p18), v9, some (.ref p22), v11, v12, v13] ∧ Same H25 H')
        ⟨_, _, _, rfl, Same.refl _⟩ ?_ ?_
      · rintro f σ H' hf ⟨v11, v12, v13, rfl, sm⟩
        rw [show (0 : Int) + (f : Int) = (f : Int) from Int.zero_add _]
        have wl := (wlk_prm F hf).len
        refine ⟨_, rfl, _, rfl, pv, a0, a1, a2, ps, qs, n, f, rfl, PV.same sm, i0, i1, i2, hf, by omega, fun q1 H26 hq1 s26 => ?_⟩
        refine ⟨_, _, rfl, .inl ⟨SqL.of hq1, ?_⟩⟩
        intro p27 np27
        generalize e27 : upd H26 p27 _ = H27
        have hp27 := updE e27
        have s27 := updS np27 e27
        replace sm : Same H25 H27 := fun b o h => s27 _ _ (s26 _ _ (sm _ _ h))
        refine ⟨_, rfl, _, rfl, pv, a0, a1, a2, ps, qs, n, f, rfl, PV.same sm, i0, i1, i2, hf, by omega, fun q2 H28 hq2 s28 => ?_⟩
        refine ⟨_, rfl, q2, p27, _, _, rfl, hq2, s28 _ _ hp27, by omega, rfl, ?_⟩
        refine ⟨_, rfl, ?_⟩
        refine iteF ?_
        replace sm : Same H25 H28 := fun b o h => s28 _ _ (sm _ _ h)
        replace hp27 := s28 _ _ hp27
        have fb := U1.lt f hf
        refine ⟨_, rfl, _, rfl, _, rfl, _, _, _, _, rfl, rfl, SqT.of (sm _ _ hp22), vn_at (by rw [U1.len]; exact hf), ?_⟩
        refine ⟨r1, _, _, _, _, _, n, gt nb1 f, rfl, PM.same sm, j0, j1, j2, fb, by omega, fun q3 H29 hq3 s29 => ?_⟩
        replace sm : Same H25 H29 := fun b o h => s29 _ _ (sm _ _ h)
        replace hp27 := s29 _ _ hp27
        refine ⟨_, rfl, _, rfl, ⟨_, SqT.of hp27⟩, fun D nD => lc_fmT (K := K) (xs := (wlk [a0, a1, a2] n f).map vn) (fun _ => true) (fun x => vn (gt nb1 (toN x))) (SqT.of hp27) nD (by rw [List.length_map]; omega) (fun _ => rfl) (fun _ _ _ _ _ r => r) ?_ ?_⟩
        · intro x H' R hx _ s' r
          obtain ⟨z, hz, rfl⟩ := List.mem_map.mp hx
          have zn := (wlk_prm F hf).lt z hz
          refine ⟨_, rfl, _, rfl, _, _, _, _, rfl, rfl, SqT.of (s' _ _ (sm _ _ hp22)), vn_at (by rw [U1.len]; exact zn), ?_⟩
          rw [toN_vn] at r
          exact r
        intro H30 s30 hD
        rw [map_fm (g := gt nb1) (fun x _ => by rw [toN_vn])] at hD
        refine ⟨_, _, rfl, .inl ⟨SqL.of hD, ?_⟩⟩
        intro p31 np31
        generalize e31 : upd H30 p31 _ = H31
        have hp31 := updE e31
        have s31 := updS np31 e31
        refine rNeTN (SqT.of (s31 _ _ (s30 _ _ hq3))) (SqT.of hp31) ⟨_, rfl, ?_⟩
        have ew := wlk_rn (f := f) P1 U1 (cs := [a0, a1, a2]) (fun c hc => by
          simp only [List.mem_cons, List.not_mem_nil, or_false] at hc
          rcases hc with rfl | rfl | rfl
          · exact i0
          · exact i1
          · exact i2) hf
        rw [decide_eq_true (show wlk [rn l1 nb1 a0, rn l1 nb1 a1, rn l1 nb1 a2] n (gt nb1 f) = (wlk [a0, a1, a2] n f).map (gt nb1) from ew)]
        refine iteF ?_
        exact ⟨_, _, _, rfl, fun b o h => s31 _ _ (s30 _ _ (sm _ _ h))⟩
      · rintro σ H' ⟨v11, v12, v13, rfl, sm⟩
        exact ⟨_, _, _, _, _, _, _, _, _, _, _, _, _, rfl, st.trans (Same.st sm)⟩
    · rintro σ H' ⟨v1, v2, v3, v4, v5, v6, v7, v8, v9, v10, v11, v12, v13, rfl, st⟩
      exact k _
end

end Toy
namespace Toy
open PySem L2
/-- one step of a reading, where nothing is asked -/
local macro_rules | `(tactic| walk_at "rd1") => `(tactic| first
  | with_reducible assumption
  | refine ⟨_, rfl, ?_⟩
  | refine ⟨_, _, rfl, rfl, ?_⟩
  | refine ⟨_, _, rfl, dg (by assumption) mk_left, ?_⟩
  | refine ⟨_, _, rfl, dg (by assumption) mk_seed, ?_⟩
  | refine ⟨_, _, rfl, dg (by assumption) mk_cells, ?_⟩
  | refine ⟨_, _, rfl, dg (by assumption) mk_spot, ?_⟩
  | refine And.intro (by (try dsimp only); first | assumption | omega | decide +kernel) ?_
  | refine And.intro ⟨by decide, by decide, by decide⟩ ?_
  | refine And.intro ⟨by omega, by omega⟩ ?_
  | refine And.intro (.inl ⟨by omega, by omega⟩) ?_
  | refine And.intro (.inr ⟨by omega, by omega⟩) ?_
  | refine ⟨_, _, rfl, ?_⟩
  | refine ⟨_, _, rfl, .inl (SqL.of (by assumption)), ?_⟩
  | refine ⟨_, _, rfl, .inr (SqT.of (by assumption)), ?_⟩
  | refine ⟨_, _, _, _, rfl, rfl, SqL.of (by assumption), (by assumption), ?_⟩
  | refine ⟨_, _, _, _, rfl, rfl, SqT.of (by assumption), (by assumption), ?_⟩
  | refine ⟨_, _, rfl, (by assumption), ?_⟩
  | refine ⟨_, _, _, _, rfl, rfl, (by assumption), (by assumption), sz (by first | omega | (simp only [List.length_map, List.length_append, List.length_cons, List.length_nil]; omega)), ?_⟩
  | refine And.intro (sz (Nat.le_of_ble_eq_true rfl)) ?_
  | refine ⟨_, _, _, _, rfl, rfl, (by assumption), (atI_nat (j := 0) rfl), ?_⟩
  | refine ⟨_, _, _, _, rfl, rfl, (by assumption), (atI_nat (j := 1) rfl), ?_⟩
  | refine And.intro (wide_mul (a := 300) (b := 300) (by assumption) (by assumption) (by decide) (by decide) (by decide)) ?_
  | refine ⟨_, _, _, _, _, rfl, .ty _, .base (.int _), kit_ty (r := true) (by decide +kernel), ?_⟩
  | refine ⟨_, _, _, _, _, rfl, .ty _, .base (.int _), kit_ty (r := false) (by decide +kernel), ?_⟩
  | refine ⟨_, _, _, _, _, rfl, .ty _, .base (.tup (by assumption)), kit_ty (r := true) (by decide +kernel), ?_⟩
  | refine ⟨_, _, _, _, _, rfl, .ty _, .base (.bl _), kit_ty (r := true) (by decide +kernel), ?_⟩
  | refine iteF ?_
  | refine iteT ?_
  | refine .inl ⟨_, rfl, ?_⟩
  | refine ⟨rfl, ?_⟩)
local macro_rules | `(tactic| walk_at "rd") => `(tactic| repeat walk_at "rd1")

--!mac
theorem all_mk {l : PySem.W.OpenLaw} {w : World} {K : PySem.W.Frag} {h : Heap} {mg : Str → Option Value} {fa : Addr} (X : K.In h) (G : h.Ns mainGlobals mg) (hfa : mg "law" = some (.ref fa))
    {f0 : Addr} {od0 an0 : Option Addr} {sl0 : Array (Option Value)} {oc0 kV0 dc0 pm0 cd0 ct0 : Value}
    (a0 : PySem.W.nsIn K mainGlobals "reached" = some (some (.ref f0))) (l0 : K.lookup f0 = some ⟨oc0, od0, .func (PySem.W.fnOf "reached" "reached" (defArgs s_reached) (defBody s_reached) (defScope s_reached) .none kV0 dc0 pm0 an0 cd0 ct0), sl0⟩) (c0 : PySem.W.codeIn K cd0 "reached" = true) (k0 : PySem.W.keepIn K (.ref f0) = true)
    {f1 : Addr} {od1 an1 : Option Addr} {sl1 : Array (Option Value)} {oc1 kV1 dc1 pm1 cd1 ct1 : Value}
    (a1 : PySem.W.nsIn K mainGlobals "renumbered" = some (some (.ref f1))) (l1 : K.lookup f1 = some ⟨oc1, od1, .func (PySem.W.fnOf "renumbered" "renumbered" (defArgs s_renumbered) (defBody s_renumbered) (defScope s_renumbered) .none kV1 dc1 pm1 an1 cd1 ct1), sl1⟩) (c1 : PySem.W.codeIn K cd1 "renumbered" = true) (k1 : PySem.W.keepIn K (.ref f1) = true)
    {f2 : Addr} {od2 an2 : Option Addr} {sl2 : Array (Option Value)} {oc2 kV2 dc2 pm2 cd2 ct2 : Value}
    (a2 : PySem.W.nsIn K mainGlobals "walk" = some (some (.ref f2))) (l2 : K.lookup f2 = some ⟨oc2, od2, .func (PySem.W.fnOf "walk" "walk" (defArgs s_walk) (defBody s_walk) (defScope s_walk) .none kV2 dc2 pm2 an2 cd2 ct2), sl2⟩) (c2 : PySem.W.codeIn K cd2 "walk" = true) (k2 : PySem.W.keepIn K (.ref f2) = true)
    {f3 : Addr} {od3 an3 : Option Addr} {sl3 : Array (Option Value)} {oc3 kV3 dc3 pm3 cd3 ct3 : Value}
    (a3 : PySem.W.nsIn K mainGlobals "_law_begun" = some (some (.ref f3))) (l3 : K.lookup f3 = some ⟨oc3, od3, .func (PySem.W.fnOf "_law_begun" "_law_begun" (defArgs s_law_begun) (defBody s_law_begun) (defScope s_law_begun) .none kV3 dc3 pm3 an3 cd3 ct3), sl3⟩) (c3 : PySem.W.codeIn K cd3 "_law_begun" = true) (k3 : PySem.W.keepIn K (.ref f3) = true)
    {f4 : Addr} {od4 an4 : Option Addr} {sl4 : Array (Option Value)} {oc4 kV4 dc4 pm4 cd4 ct4 : Value}
    (a4 : PySem.W.nsIn K mainGlobals "_law_draw" = some (some (.ref f4))) (l4 : K.lookup f4 = some ⟨oc4, od4, .func (PySem.W.fnOf "_law_draw" "_law_draw" (defArgs s_law_draw) (defBody s_law_draw) (defScope s_law_draw) .none kV4 dc4 pm4 an4 cd4 ct4), sl4⟩) (c4 : PySem.W.codeIn K cd4 "_law_draw" = true) (k4 : PySem.W.keepIn K (.ref f4) = true)
    {f5 : Addr} {od5 an5 : Option Addr} {sl5 : Array (Option Value)} {oc5 kV5 dc5 pm5 cd5 ct5 : Value}
    (a5 : PySem.W.nsIn K mainGlobals "_law_of" = some (some (.ref f5))) (l5 : K.lookup f5 = some ⟨oc5, od5, .func (PySem.W.fnOf "_law_of" "_law_of" (defArgs s_law_of) (defBody s_law_of) (defScope s_law_of) .none kV5 dc5 pm5 an5 cd5 ct5), sl5⟩) (c5 : PySem.W.codeIn K cd5 "_law_of" = true) (k5 : PySem.W.keepIn K (.ref f5) = true)
    {f6 : Addr} {od6 an6 : Option Addr} {sl6 : Array (Option Value)} {oc6 kV6 dc6 pm6 cd6 ct6 : Value}
    (a6 : PySem.W.nsIn K mainGlobals "_law_put" = some (some (.ref f6))) (l6 : K.lookup f6 = some ⟨oc6, od6, .func (PySem.W.fnOf "_law_put" "_law_put" (defArgs s_law_put) (defBody s_law_put) (defScope s_law_put) .none kV6 dc6 pm6 an6 cd6 ct6), sl6⟩) (c6 : PySem.W.codeIn K cd6 "_law_put" = true) (k6 : PySem.W.keepIn K (.ref f6) = true)
    {f7 : Addr} {od7 an7 : Option Addr} {sl7 : Array (Option Value)} {oc7 kV7 dc7 pm7 cd7 ct7 : Value}
    (a7 : PySem.W.nsIn K mainGlobals "_law_frame" = some (some (.ref f7))) (l7 : K.lookup f7 = some ⟨oc7, od7, .func (PySem.W.fnOf "_law_frame" "_law_frame" (defArgs s_law_frame) (defBody s_law_frame) (defScope s_law_frame) .none kV7 dc7 pm7 an7 cd7 ct7), sl7⟩) (c7 : PySem.W.codeIn K cd7 "_law_frame" = true) (k7 : PySem.W.keepIn K (.ref f7) = true)
    {f8 : Addr} {od8 an8 : Option Addr} {sl8 : Array (Option Value)} {oc8 kV8 dc8 pm8 cd8 ct8 : Value}
    (a8 : PySem.W.nsIn K mainGlobals "_law_class" = some (some (.ref f8))) (l8 : K.lookup f8 = some ⟨oc8, od8, .func (PySem.W.fnOf "_law_class" "_law_class" (defArgs s_law_class) (defBody s_law_class) (defScope s_law_class) .none kV8 dc8 pm8 an8 cd8 ct8), sl8⟩) (c8 : PySem.W.codeIn K cd8 "_law_class" = true) (k8 : PySem.W.keepIn K (.ref f8) = true)
    {f9 : Addr} {od9 an9 : Option Addr} {sl9 : Array (Option Value)} {oc9 kV9 dc9 pm9 cd9 ct9 : Value}
    (a9 : PySem.W.nsIn K mainGlobals "_law_round" = some (some (.ref f9))) (l9 : K.lookup f9 = some ⟨oc9, od9, .func (PySem.W.fnOf "_law_round" "_law_round" (defArgs s_law_round) (defBody s_law_round) (defScope s_law_round) .none kV9 dc9 pm9 an9 cd9 ct9), sl9⟩) (c9 : PySem.W.codeIn K cd9 "_law_round" = true) (k9 : PySem.W.keepIn K (.ref f9) = true)
    {f10 : Addr} {od10 an10 : Option Addr} {sl10 : Array (Option Value)} {oc10 kV10 dc10 pm10 cd10 ct10 : Value}
    (a10 : PySem.W.nsIn K mainGlobals "_law_orders" = some (some (.ref f10))) (l10 : K.lookup f10 = some ⟨oc10, od10, .func (PySem.W.fnOf "_law_orders" "_law_orders" (defArgs s_law_orders) (defBody s_law_orders) (defScope s_law_orders) .none kV10 dc10 pm10 an10 cd10 ct10), sl10⟩) (c10 : PySem.W.codeIn K cd10 "_law_orders" = true) (k10 : PySem.W.keepIn K (.ref f10) = true)
    {f11 : Addr} {od11 an11 : Option Addr} {sl11 : Array (Option Value)} {oc11 kV11 dc11 pm11 cd11 ct11 : Value}
    (a11 : PySem.W.nsIn K mainGlobals "_law_pattern" = some (some (.ref f11))) (l11 : K.lookup f11 = some ⟨oc11, od11, .func (PySem.W.fnOf "_law_pattern" "_law_pattern" (defArgs s_law_pattern) (defBody s_law_pattern) (defScope s_law_pattern) .none kV11 dc11 pm11 an11 cd11 ct11), sl11⟩) (c11 : PySem.W.codeIn K cd11 "_law_pattern" = true) (k11 : PySem.W.keepIn K (.ref f11) = true)
    {f12 : Addr} {od12 an12 : Option Addr} {sl12 : Array (Option Value)} {oc12 kV12 dc12 pm12 cd12 ct12 : Value}
    (a12 : PySem.W.nsIn K mainGlobals "_law_walk" = some (some (.ref f12))) (l12 : K.lookup f12 = some ⟨oc12, od12, .func (PySem.W.fnOf "_law_walk" "_law_walk" (defArgs s_law_walk) (defBody s_law_walk) (defScope s_law_walk) .none kV12 dc12 pm12 an12 cd12 ct12), sl12⟩) (c12 : PySem.W.codeIn K cd12 "_law_walk" = true) (k12 : PySem.W.keepIn K (.ref f12) = true)
    {f13 : Addr} {od13 an13 : Option Addr} {sl13 : Array (Option Value)} {oc13 kV13 dc13 pm13 cd13 ct13 : Value}
    (a13 : PySem.W.nsIn K mainGlobals "_law_listed" = some (some (.ref f13))) (l13 : K.lookup f13 = some ⟨oc13, od13, .func (PySem.W.fnOf "_law_listed" "_law_listed" (defArgs s_law_listed) (defBody s_law_listed) (defScope s_law_listed) .none kV13 dc13 pm13 an13 cd13 ct13), sl13⟩) (c13 : PySem.W.codeIn K cd13 "_law_listed" = true) (k13 : PySem.W.keepIn K (.ref f13) = true)
    {f14 : Addr} {od14 an14 : Option Addr} {sl14 : Array (Option Value)} {oc14 kV14 dc14 pm14 cd14 ct14 : Value}
    (a14 : PySem.W.nsIn K mainGlobals "_law_listing" = some (some (.ref f14))) (l14 : K.lookup f14 = some ⟨oc14, od14, .func (PySem.W.fnOf "_law_listing" "_law_listing" (defArgs s_law_listing) (defBody s_law_listing) (defScope s_law_listing) .none kV14 dc14 pm14 an14 cd14 ct14), sl14⟩) (c14 : PySem.W.codeIn K cd14 "_law_listing" = true) (k14 : PySem.W.keepIn K (.ref f14) = true)
    {f15 : Addr} {od15 an15 : Option Addr} {sl15 : Array (Option Value)} {oc15 kV15 dc15 pm15 cd15 ct15 : Value}
    (a15 : PySem.W.nsIn K mainGlobals "_law_is_plain" = some (some (.ref f15))) (l15 : K.lookup f15 = some ⟨oc15, od15, .func (PySem.W.fnOf "_law_is_plain" "_law_is_plain" (defArgs s_law_is_plain) (defBody s_law_is_plain) (defScope s_law_is_plain) .none kV15 dc15 pm15 an15 cd15 ct15), sl15⟩) (c15 : PySem.W.codeIn K cd15 "_law_is_plain" = true) (k15 : PySem.W.keepIn K (.ref f15) = true)
    {f16 : Addr} {od16 an16 : Option Addr} {sl16 : Array (Option Value)} {oc16 kV16 dc16 pm16 cd16 ct16 : Value}
    (a16 : PySem.W.nsIn K mainGlobals "law" = some (some (.ref f16))) (l16 : K.lookup f16 = some ⟨oc16, od16, .func (PySem.W.fnOf "law" "law" (defArgs s_law) (defBody s_law) (defScope s_law) .none kV16 dc16 pm16 an16 cd16 ct16), sl16⟩) (c16 : PySem.W.codeIn K cd16 "law" = true) (k16 : PySem.W.keepIn K (.ref f16) = true)
    (z_bool : PySem.W.nsIn K mainGlobals "bool" = some none)
    (z_enumerate : PySem.W.nsIn K mainGlobals "enumerate" = some none)
    (z_int : PySem.W.nsIn K mainGlobals "int" = some none)
    (z_isinstance : PySem.W.nsIn K mainGlobals "isinstance" = some none)
    (z_len : PySem.W.nsIn K mainGlobals "len" = some none)
    (z_list : PySem.W.nsIn K mainGlobals "list" = some none)
    (z_max : PySem.W.nsIn K mainGlobals "max" = some none)
    (z_min : PySem.W.nsIn K mainGlobals "min" = some none)
    (z_range : PySem.W.nsIn K mainGlobals "range" = some none)
    (z_sorted : PySem.W.nsIn K mainGlobals "sorted" = some none)
    (z_tuple : PySem.W.nsIn K mainGlobals "tuple" = some none)
    : ∃ fd : FuncData, (∀ (s : Shared) (v : Value), BindsTo s fd ⟨[v], []⟩ [("script", v)]) ∧ ∀ base : Heap, K.In base → base.Ns mainGlobals mg → FnOk l.prog w K mg base CX0 8 fa fd ["script"] (spLaw K) := by
  have e := hfa.symm.trans (PySem.W.mg_of X G a16)
  cases e
  have F0 := fun_mk (st := s_reached) l0 c0 k0
  have b0 := F0.binds (ps := ["changes", "flag"]) fun _ _ _ _ _ _ us hl => match us, hl with | [_, _], _ => rfl
  have F1 := fun_mk (st := s_renumbered) l1 c1 k1
  have b1 := F1.binds (ps := ["pattern", "listing"]) fun _ _ _ _ _ _ us hl => match us, hl with | [_, _], _ => rfl
  have F2 := fun_mk (st := s_walk) l2 c2 k2
  have b2 := F2.binds (ps := ["pattern", "flag"]) fun _ _ _ _ _ _ us hl => match us, hl with | [_, _], _ => rfl
  have F3 := fun_mk (st := s_law_begun) l3 c3 k3
  have b3 := F3.binds (ps := ["script", "k"]) fun _ _ _ _ _ _ us hl => match us, hl with | [_, _], _ => rfl
  have F4 := fun_mk (st := s_law_draw) l4 c4 k4
  have b4 := F4.binds (ps := ["m", "below"]) fun _ _ _ _ _ _ us hl => match us, hl with | [_, _], _ => rfl
  have F5 := fun_mk (st := s_law_of) l5 c5 k5
  have b5 := F5.binds (ps := ["m", "some"]) fun _ _ _ _ _ _ us hl => match us, hl with | [_, _], _ => rfl
  have F6 := fun_mk (st := s_law_put) l6 c6 k6
  have b6 := F6.binds (ps := ["rows", "word"]) fun _ _ _ _ _ _ us hl => match us, hl with | [_, _], _ => rfl
  have F7 := fun_mk (st := s_law_frame) l7 c7 k7
  have b7 := F7.binds (ps := ["m", "most"]) fun _ _ _ _ _ _ us hl => match us, hl with | [_, _], _ => rfl
  have F8 := fun_mk (st := s_law_class) l8 c8 k8
  have b8 := F8.binds (ps := ["one", "other", "flag"]) fun _ _ _ _ _ _ us hl => match us, hl with | [_, _, _], _ => rfl
  have F9 := fun_mk (st := s_law_round) l9 c9 k9
  have b9 := F9.binds (ps := ["one", "other", "flag"]) fun _ _ _ _ _ _ us hl => match us, hl with | [_, _, _], _ => rfl
  have F10 := fun_mk (st := s_law_orders) l10 c10 k10
  have b10 := F10.binds (ps := ["m", "one", "other", "wide"]) fun _ _ _ _ _ _ us hl => match us, hl with | [_, _, _, _], _ => rfl
  have F11 := fun_mk (st := s_law_pattern) l11 c11 k11
  have b11 := F11.binds (ps := ["m", "most", "wide"]) fun _ _ _ _ _ _ us hl => match us, hl with | [_, _, _], _ => rfl
  have F12 := fun_mk (st := s_law_walk) l12 c12 k12
  have b12 := F12.binds (ps := ["value", "flag"]) fun _ _ _ _ _ _ us hl => match us, hl with | [_, _], _ => rfl
  have F13 := fun_mk (st := s_law_listed) l13 c13 k13
  have b13 := F13.binds (ps := ["value", "listing"]) fun _ _ _ _ _ _ us hl => match us, hl with | [_, _], _ => rfl
  have F14 := fun_mk (st := s_law_listing) l14 c14 k14
  have b14 := F14.binds (ps := ["m", "size"]) fun _ _ _ _ _ _ us hl => match us, hl with | [_, _], _ => rfl
  have F15 := fun_mk (st := s_law_is_plain) l15 c15 k15
  have b15 := F15.binds (ps := ["told", "due"]) fun _ _ _ _ _ _ us hl => match us, hl with | [_, _], _ => rfl
  have F16 := fun_mk (st := s_law) l16 c16 k16
  have b16 := F16.binds (ps := ["script"]) fun _ _ _ _ _ _ us hl => match us, hl with | [_], _ => rfl
  have T : Txt K mg := ⟨_, _, F0, PySem.W.mg_of X G a0, k0, b0, _, _, F1, PySem.W.mg_of X G a1, k1, b1, _, _, F2, PySem.W.mg_of X G a2, k2, b2, _, _, F3, PySem.W.mg_of X G a3, k3, b3, _, _, F4, PySem.W.mg_of X G a4, k4, b4, _, _, F5, PySem.W.mg_of X G a5, k5, b5, _, _, F6, PySem.W.mg_of X G a6, k6, b6, _, _, F7, PySem.W.mg_of X G a7, k7, b7, _, _, F8, PySem.W.mg_of X G a8, k8, b8, _, _, F9, PySem.W.mg_of X G a9, k9, b9, _, _, F10, PySem.W.mg_of X G a10, k10, b10, _, _, F11, PySem.W.mg_of X G a11, k11, b11, _, _, F12, PySem.W.mg_of X G a12, k12, b12, _, _, F13, PySem.W.mg_of X G a13, k13, b13, _, _, F14, PySem.W.mg_of X G a14, k14, b14, _, _, F15, PySem.W.mg_of X G a15, k15, b15, _, _, F16, PySem.W.mg_of X G a16, k16, b16, PySem.W.mg_none_of X G z_bool, PySem.W.mg_none_of X G z_enumerate, PySem.W.mg_none_of X G z_int, PySem.W.mg_none_of X G z_isinstance, PySem.W.mg_none_of X G z_len, PySem.W.mg_none_of X G z_list, PySem.W.mg_none_of X G z_max, PySem.W.mg_none_of X G z_min, PySem.W.mg_none_of X G z_range, PySem.W.mg_none_of X G z_sorted, PySem.W.mg_none_of X G z_tuple⟩
  exact ⟨PySem.W.fnOf "law" "law" (defArgs s_law) (defBody s_law) (defScope s_law) .none kV16 dc16 pm16 an16 cd16 ct16, fun s v => .of_eq rfl, fun base _ _ => law_all T F16⟩
theorem walk {l : PySem.W.OpenLaw} {q : Program} {loose : List Str} {XP : (Str → Option Value) → Heap → Prop} {YP : World → Heap → Prop} {d : DefRec} {K : Params → PySem.W.Frag} (hn : l.most = some 63) (hdf : d.params.defaults = [])
    (hY : ∀ (w : World) (h : Heap), YP w h → (K w.params).In h)
    (F : ∀ (w : World) (mg : Str → Option Value) (fa : Addr) (h : Heap), (K w.params).In h → h.Ns mainGlobals mg → mg d.name = some (.ref fa) →
      ∃ fd : FuncData, (∀ (s : Shared) (u : Value), BindsTo s fd ⟨[u], []⟩ [("script", u)]) ∧ ∀ base : Heap, (K w.params).In base → base.Ns mainGlobals mg → FnOk l.prog w (K w.params) mg base CX0 8 fa fd ["script"] (spLaw (K w.params))) :
    PySem.W.WalkO q loose XP YP l.row.toRowW d [] (fun f vs => PySem.call f vs) :=
  L2.walk_of (n := 63) (k := 8) (x := "script") (CX := fun _ => CX0) (sp := fun w => spLaw (K w.params)) hn (by decide) hdf ⟨rfl, by decide, by decide⟩ hY F (fun _ _ a ns hl _ hS => ⟨a, ns, rfl, hS, hl, fun _ => rfl⟩) fun _ _ _ _ _ z => z
end Toy
open PySem PySem.W PyProof.Rows in
set_option maxRecDepth 100000 in
set_option maxHeartbeats 0 in
theorem PySem.Challenge.cw_flagfloors_k04_numbered_anew_holds : PySem.Challenge.rw_flagfloors_k04_numbered_anew.Holds := by
  w_on; o_law; k_head; (case hw => w_witness2)
  k_fill
  refine Toy.walk (l := PySem.Challenge.rw_flagfloors_k04_numbered_anew) rfl rfl (fun w h Y => PySem.W.kIn_of Y) ?F
  case F =>
    intro w mg fa h KX G hmg
    refine' Toy.all_mk KX G hmg ?a0 ?l0 ?c0 ?k0 ?a1 ?l1 ?c1 ?k1 ?a2 ?l2 ?c2 ?k2 ?a3 ?l3 ?c3 ?k3 ?a4 ?l4 ?c4 ?k4 ?a5 ?l5 ?c5 ?k5 ?a6 ?l6 ?c6 ?k6 ?a7 ?l7 ?c7 ?k7 ?a8 ?l8 ?c8 ?k8 ?a9 ?l9 ?c9 ?k9 ?a10 ?l10 ?c10 ?k10 ?a11 ?l11 ?c11 ?k11 ?a12 ?l12 ?c12 ?k12 ?a13 ?l13 ?c13 ?k13 ?a14 ?l14 ?c14 ?k14 ?a15 ?l15 ?c15 ?k15 ?a16 ?l16 ?c16 ?k16 ?z_bool ?z_enumerate ?z_int ?z_isinstance ?z_len ?z_list ?z_max ?z_min ?z_range ?z_sorted ?z_tuple
    (case a0 => k_is)
    (case l0 => k_is)
    (case c0 => k_is)
    (case k0 => k_is)
    (case a1 => k_is)
    (case l1 => k_is)
    (case c1 => k_is)
    (case k1 => k_is)
    (case a2 => k_is)
    (case l2 => k_is)
    (case c2 => k_is)
    (case k2 => k_is)
    (case a3 => k_is)
    (case l3 => k_is)
    (case c3 => k_is)
    (case k3 => k_is)
    (case a4 => k_is)
    (case l4 => k_is)
    (case c4 => k_is)
    (case k4 => k_is)
    (case a5 => k_is)
    (case l5 => k_is)
    (case c5 => k_is)
    (case k5 => k_is)
    (case a6 => k_is)
    (case l6 => k_is)
    (case c6 => k_is)
    (case k6 => k_is)
    (case a7 => k_is)
    (case l7 => k_is)
    (case c7 => k_is)
    (case k7 => k_is)
    (case a8 => k_is)
    (case l8 => k_is)
    (case c8 => k_is)
    (case k8 => k_is)
    (case a9 => k_is)
    (case l9 => k_is)
    (case c9 => k_is)
    (case k9 => k_is)
    (case a10 => k_is)
    (case l10 => k_is)
    (case c10 => k_is)
    (case k10 => k_is)
    (case a11 => k_is)
    (case l11 => k_is)
    (case c11 => k_is)
    (case k11 => k_is)
    (case a12 => k_is)
    (case l12 => k_is)
    (case c12 => k_is)
    (case k12 => k_is)
    (case a13 => k_is)
    (case l13 => k_is)
    (case c13 => k_is)
    (case k13 => k_is)
    (case a14 => k_is)
    (case l14 => k_is)
    (case c14 => k_is)
    (case k14 => k_is)
    (case a15 => k_is)
    (case l15 => k_is)
    (case c15 => k_is)
    (case k15 => k_is)
    (case a16 => k_is)
    (case l16 => k_is)
    (case c16 => k_is)
    (case k16 => k_is)
    (case z_bool => k_is)
    (case z_enumerate => k_is)
    (case z_int => k_is)
    (case z_isinstance => k_is)
    (case z_len => k_is)
    (case z_list => k_is)
    (case z_max => k_is)
    (case z_min => k_is)
    (case z_range => k_is)
    (case z_sorted => k_is)
    (case z_tuple => k_is)


