import PyProof.Rows.All
import Wide.All
import OpenK.AllK
import Wide.FinOn
import HandS.ForMost
import HandS.Wide
import HandS.Gcd
import HandS.IsInst
import HandS.Style
import HandS.SortInts
import PySem.Challenge.RW_flagfloors_k00_ratios
set_option Elab.async false
set_option linter.all false
set_option maxRecDepth 100000
set_option maxHeartbeats 4000000
set_option exponentiation.threshold 3000
namespace Toy
/-! ### the Euclid loop of 400 turns -/
def eu : Nat → Nat → Nat → Nat × Nat
  | 0, a, b => (a, b)
  | k + 1, a, b => if b = 0 then (a, b) else eu k b (a % b)
/-- a pair of neighbours in the row 1, 1, 2, 3, .. -/
def fp : Nat → Nat × Nat
  | 0 => (1, 1)
  | k + 1 => ((fp k).2, (fp k).1 + (fp k).2)
theorem eu_big : ∀ (k a b : Nat), (eu k a b).2 ≠ 0 → (fp k).1 ≤ b ∧ (b ≤ a → (fp k).2 ≤ a)
  | 0, a, b, h => by
    have h1 : b ≠ 0 := h
    refine ⟨?_, fun h2 => ?_⟩
    · show 1 ≤ b
      omega
    · show 1 ≤ a
      omega
  | k + 1, a, b, h => by
    by_cases hb : b = 0
    · exfalso
      apply h
      unfold eu
      rw [if_pos hb]
      exact hb
    · have h1 : (eu k b (a % b)).2 ≠ 0 := by
        intro q
        apply h
        unfold eu
        rw [if_neg hb]
        exact q
      obtain ⟨p1, p2⟩ := eu_big k b (a % b) h1
      have lt : a % b < b := Nat.mod_lt _ (by omega)
      have p3 := p2 (Nat.le_of_lt lt)
      refine ⟨p3, fun hle => ?_⟩
      show (fp k).1 + (fp k).2 ≤ a
      have e := Nat.div_add_mod a b
      have d1 : 1 ≤ a / b := (Nat.one_le_div_iff (by omega)).mpr hle
      have d2 : b * 1 ≤ b * (a / b) := Nat.mul_le_mul_left b d1
      omega
theorem eu_gcd : ∀ (k a b : Nat), Nat.gcd (eu k a b).1 (eu k a b).2 = Nat.gcd a b
  | 0, a, b => rfl
  | k + 1, a, b => by
    unfold eu
    by_cases hb : b = 0
    · rw [if_pos hb]
    · rw [if_neg hb, eu_gcd k b (a % b), Nat.gcd_comm a b, Nat.gcd_rec b a, Nat.gcd_comm]
theorem fp_400 : 2 ^ 270 ≤ (fp 400).1 := by decide +kernel
theorem eu_done {a b : Nat} (hb : b < 2 ^ 270) : (eu 400 a b).1 = Nat.gcd a b := by
  have h2 : (eu 400 a b).2 = 0 := by
    by_cases h : (eu 400 a b).2 = 0
    · exact h
    · have h1 := (eu_big 400 a b h).1
      have h3 := fp_400
      omega
  have h := eu_gcd 400 a b
  rw [h2, Nat.gcd_zero_right] at h
  exact h
/-! ### ratios -/
def rat (t b : Int) : Int × Int :=
  if b < 0 then ((-t) / ((Nat.gcd (-t).natAbs (-b).natAbs : Nat) : Int), (-b) / ((Nat.gcd (-t).natAbs (-b).natAbs : Nat) : Int))
  else (t / ((Nat.gcd t.natAbs b.natAbs : Nat) : Int), b / ((Nat.gcd t.natAbs b.natAbs : Nat) : Int))
structure IsRat (t b n d : Int) : Prop where
  pos : 1 ≤ d
  co : Nat.gcd n.natAbs d.natAbs = 1
  eq : n * b = d * t
  nle : n.natAbs ≤ t.natAbs
  dle : d.natAbs ≤ b.natAbs
theorem rat_pos {t b : Int} (hb : 0 < b) : IsRat t b (t / ((Nat.gcd t.natAbs b.natAbs : Nat) : Int)) (b / ((Nat.gcd t.natAbs b.natAbs : Nat) : Int)) := by
  have g0 : 0 < Nat.gcd t.natAbs b.natAbs := Nat.gcd_pos_of_pos_right _ (by omega)
  obtain ⟨x, hx⟩ : ((Nat.gcd t.natAbs b.natAbs : Nat) : Int) ∣ t := Int.ofNat_dvd_left.mpr (Nat.gcd_dvd_left _ _)
  obtain ⟨y, hy⟩ : ((Nat.gcd t.natAbs b.natAbs : Nat) : Int) ∣ b := Int.ofNat_dvd_left.mpr (Nat.gcd_dvd_right _ _)
  generalize hg : Nat.gcd t.natAbs b.natAbs = g at *
  have gz : (g : Int) ≠ 0 := by omega
  have e1 : t / (g : Int) = x := by rw [hx, Int.mul_ediv_cancel_left _ gz]
  have e2 : b / (g : Int) = y := by rw [hy, Int.mul_ediv_cancel_left _ gz]
  rw [e1, e2]
  have yp : 0 < y := by
    have : (0 : Int) < g * y := by rw [← hy]; exact hb
    exact Int.pos_of_mul_pos_right this (by omega) |> fun h => h
  have n1 : t.natAbs = g * x.natAbs := by rw [hx, Int.natAbs_mul, Int.natAbs_natCast]
  have n2 : b.natAbs = g * y.natAbs := by rw [hy, Int.natAbs_mul, Int.natAbs_natCast]
  refine ⟨by omega, ?_, ?_, ?_, ?_⟩
  · rw [n1, n2, Nat.gcd_mul_left] at hg
    exact Nat.eq_of_mul_eq_mul_left g0 (by rw [hg, Nat.mul_one])
  · rw [hx, hy]
    have : x * (g * y) = y * (g * x) := by
      rw [Int.mul_left_comm, Int.mul_left_comm y, Int.mul_comm x y]
    exact this
  · rw [n1]
    exact Nat.le_mul_of_pos_left _ g0
  · rw [n2]
    exact Nat.le_mul_of_pos_left _ g0
theorem rat_is {t b : Int} (hb : b ≠ 0) : IsRat t b (rat t b).1 (rat t b).2 := by
  unfold rat
  by_cases h : b < 0
  · rw [if_pos h]
    have r := rat_pos (t := -t) (b := -b) (by omega)
    refine ⟨r.pos, r.co, ?_, ?_, ?_⟩
    · have := r.eq
      rw [Int.mul_neg, Int.mul_neg] at this
      exact Int.neg_inj.mp this
    · exact Nat.le_trans r.nle (by omega)
    · exact Nat.le_trans r.dle (by omega)
  · rw [if_neg h]
    exact rat_pos (by omega)
theorem rat_zero {d : Int} (hd : 1 ≤ d) : rat 0 d = (0, 1) := by
  unfold rat
  rw [if_neg (by omega)]
  have e : ((Nat.gcd (0 : Int).natAbs d.natAbs : Nat) : Int) = d := by
    rw [Int.natAbs_zero, Nat.gcd_zero_left]
    omega
  rw [e, Int.zero_ediv, Int.ediv_self (by omega)]
theorem nb {x : Int} {k : Nat} (h : x.natAbs < 2 ^ k) : -(2 ^ k : Int) < x ∧ x < 2 ^ k := by
  have h2 : ((x.natAbs : Nat) : Int) < ((2 ^ k : Nat) : Int) := Int.ofNat_lt.mpr h
  rw [Int.natCast_pow] at h2
  have h3 : ((2 : Nat) : Int) = 2 := rfl
  rw [h3] at h2
  omega
theorem mul_lt {x y : Int} {a b : Nat} (ha : x.natAbs < 2 ^ a) (hb : y.natAbs < 2 ^ b) : (x * y).natAbs < 2 ^ (a + b) := by
  rw [Int.natAbs_mul, Nat.pow_add]
  exact Nat.mul_lt_mul'' ha hb
theorem add_lt {x y : Int} {a : Nat} (ha : x.natAbs < 2 ^ a) (hb : y.natAbs < 2 ^ a) : (x + y).natAbs < 2 ^ (a + 1) := by
  have : (x + y).natAbs ≤ x.natAbs + y.natAbs := Int.natAbs_add_le x y
  rw [Nat.pow_succ]
  omega
theorem sub_lt {x y : Int} {a : Nat} (ha : x.natAbs < 2 ^ a) (hb : y.natAbs < 2 ^ a) : (x - y).natAbs < 2 ^ (a + 1) := by
  have : (x - y).natAbs ≤ x.natAbs + y.natAbs := by omega
  rw [Nat.pow_succ]
  omega
/-- the law's own word about the sign -/
def sg (x : Int) : Int := if x > 0 then 1 else if x < 0 then -1 else 0
theorem sg_of {t b n d : Int} (hb : b ≠ 0) (r : IsRat t b n d) : sg n = (if t = 0 then 0 else if decide (t > 0) = decide (b > 0) then 1 else -1) := by
  have e := r.eq
  have hp := r.pos
  unfold sg
  by_cases ht : t = 0
  · rw [if_pos ht]
    have : n * b = 0 := by rw [e, ht, Int.mul_zero]
    rcases Int.mul_eq_zero.mp this with h | h
    · rw [h]; decide
    · exact absurd h hb
  · rw [if_neg ht]
    have nz : n ≠ 0 := by
      intro h
      rw [h, Int.zero_mul] at e
      rcases Int.mul_eq_zero.mp e.symm with h1 | h1
      · omega
      · exact ht h1
    have dt : (0 < d * t ↔ 0 < t) := ⟨fun h => by
        by_cases q : 0 < t
        · exact q
        · have : d * t ≤ 0 := Int.mul_nonpos_of_nonneg_of_nonpos (by omega) (by omega)
          omega, fun h => Int.mul_pos (by omega) h⟩
    rw [← e] at dt
    by_cases hn : 0 < n
    · rw [if_pos hn]
      by_cases hb' : 0 < b
      · have h2 := dt.mp (Int.mul_pos hn hb')
        rw [if_pos]
        rw [decide_eq_true h2, decide_eq_true hb']
      · have h1 : n * b ≤ 0 := Int.mul_nonpos_of_nonneg_of_nonpos (by omega) (by omega)
        have h2 : ¬ (0 < t) := fun q => by have := dt.mpr q; omega
        rw [if_pos]
        rw [decide_eq_false h2, decide_eq_false hb']
    · rw [if_neg hn, if_pos (by omega)]
      by_cases hb' : 0 < b
      · have h1 : n * b ≤ 0 := Int.mul_nonpos_of_nonpos_of_nonneg (by omega) (by omega)
        have h2 : ¬ (0 < t) := fun q => by have := dt.mpr q; omega
        rw [if_neg]
        rw [decide_eq_false h2, decide_eq_true hb']
        decide
      · have h2 := dt.mp (Int.mul_pos_of_neg_of_neg (by omega) (by omega))
        rw [if_neg]
        rw [decide_eq_true h2, decide_eq_false hb']
        decide
end Toy

namespace Toy
open PySem L2
/-! ### heaps: what stays -/
def nD : HO → Bool
  | .dK _ => false
  | _ => true
/-- all but dicts stays -/
def St (H H' : Hp) : Prop := ∀ b o, H b = some o → nD o = true → H' b = some o
theorem St.refl (H : Hp) : St H H := fun _ _ h _ => h
theorem St.trans {H H1 H2 : Hp} (a : St H H1) (b : St H1 H2) : St H H2 := fun c o h n => b c o (a c o h n) n
theorem Same.st {H H' : Hp} (e : Same H H') : St H H' := fun b o h _ => e b o h
theorem sameNew {H : Hp} {p : Addr} {o : HO} (h : H p = none) : Same H (upd H p o) := fun b u e => by
  rw [upd_ne (ne_of_none e h)]
  exact e
theorem St.seq {K : PySem.W.Frag} {H H' : Hp} {a : Addr} {xs : List V} (e : St H H') (h : SqL K H a xs) : SqL K H' a xs := by
  rcases h with (h | ⟨o, h⟩) | h
  · exact .inl (.inl (e _ _ h rfl))
  · exact .inl (.inr ⟨o, e _ _ h rfl⟩)
  · exact .inr h
/-! ### the dict that draws -/
theorem k1 : ¬ ((Sum.inr ("left" : Str) : Key) = Sum.inr ("seed" : Str)) := by decide +kernel
theorem k2 : ¬ ((Sum.inr ("left" : Str) : Key) = Sum.inr ("cells" : Str)) := by decide +kernel
theorem k3 : ¬ ((Sum.inr ("left" : Str) : Key) = Sum.inr ("spot" : Str)) := by decide +kernel
theorem k4 : ¬ ((Sum.inr ("seed" : Str) : Key) = Sum.inr ("cells" : Str)) := by decide +kernel
theorem k5 : ¬ ((Sum.inr ("seed" : Str) : Key) = Sum.inr ("spot" : Str)) := by decide +kernel
theorem k6 : ¬ ((Sum.inr ("cells" : Str) : Key) = Sum.inr ("spot" : Str)) := by decide +kernel
def mk (L S : Int) (c : Addr) (P : Int) : List (Key × V) := [(.inr "left", .int L), (.inr "seed", .int S), (.inr "cells", .ref c), (.inr "spot", .int P)]
theorem mk_left {L S P : Int} {c : Addr} : valV (mk L S c P) (.inr "left") = some (.int L) := valV_pos rfl
theorem mk_seed {L S P : Int} {c : Addr} : valV (mk L S c P) (.inr "seed") = some (.int S) := by
  unfold mk
  rw [valV_neg k1, valV_pos rfl]
theorem mk_cells {L S P : Int} {c : Addr} : valV (mk L S c P) (.inr "cells") = some (.ref c) := by
  unfold mk
  rw [valV_neg k2, valV_neg k4, valV_pos rfl]
theorem mk_spot {L S P : Int} {c : Addr} : valV (mk L S c P) (.inr "spot") = some (.int P) := by
  unfold mk
  rw [valV_neg k3, valV_neg k5, valV_neg k6, valV_pos rfl]
theorem put_left {L S P L' : Int} {c : Addr} : putK (mk L S c P) (.inr "left") (.int L') = mk L' S c P := by
  have a : ¬ ((Sum.inr ("seed" : Str) : Key) = Sum.inr ("left" : Str)) := fun h => k1 h.symm
  have b : ¬ ((Sum.inr ("cells" : Str) : Key) = Sum.inr ("left" : Str)) := fun h => k2 h.symm
  have d : ¬ ((Sum.inr ("spot" : Str) : Key) = Sum.inr ("left" : Str)) := fun h => k3 h.symm
  unfold putK mk
  rw [if_pos (by simp)]
  simp only [List.map_cons, List.map_nil, if_true, if_neg a, if_neg b, if_neg d]
theorem put_spot {L S P P' : Int} {c : Addr} : putK (mk L S c P) (.inr "spot") (.int P') = mk L S c P' := by
  unfold putK mk
  rw [if_pos (by simp)]
  simp only [List.map_cons, List.map_nil, if_true, if_neg k3, if_neg k5, if_neg k6]
theorem made {L S P : Int} {c : Addr} : mergeK [] (mk L S c P) = mk L S c P := by
  unfold mk
  simp only [mergeK, List.foldl_cons, List.foldl_nil, putK, List.any_nil, List.any_cons, List.nil_append, List.cons_append, k1, k2, k3, k4, k5, k6, decide_false, Bool.or_false, Bool.false_eq_true, if_false]
theorem dg {H : Hp} {m : Addr} {kvs : List (Key × V)} {k : Str} {v : V} (h : H m = some (.dK kvs)) (e : valV kvs (Sum.inr k) = some v) : DGet H m (.str k) (some v) := e ▸ DGet.k (k := Sum.inr k) h
theorem dp {H : Hp} {m : Addr} {kvs kvs' : List (Key × V)} {k : Str} {v : V} (h : H m = some (.dK kvs)) (e : putK kvs (Sum.inr k) v = kvs') (l : kvs.length ≤ 1000) : DPut H m (.str k) v (upd H m (.dK kvs')) := e ▸ DPut.k (k := Sum.inr k) h (small1000 l)
theorem nlt {x : Int} {n : Nat} (h0 : 0 < x) (h : x < 2 ^ n) : x.natAbs < 2 ^ n := by
  have e : ((x.natAbs : Nat) : Int) = x := by omega
  have : ((x.natAbs : Nat) : Int) < ((2 ^ n : Nat) : Int) := by rw [e, Int.natCast_pow]; exact h
  exact Int.ofNat_lt.mp this
theorem at_int {cs : List Int} {i : Int} (h0 : 0 ≤ i) (h1 : i < cs.length) : ∃ z, cs[i.toNat]? = some z ∧ atI (cs.map V.int) i = some (.int z) := by
  obtain ⟨j, rfl⟩ : ∃ j : Nat, i = (j : Int) := ⟨i.toNat, by omega⟩
  have hl : j < cs.length := by omega
  refine ⟨cs[j], by rw [Int.toNat_natCast]; exact List.getElem?_eq_getElem hl, atI_nat ?_⟩
  rw [List.getElem?_map, List.getElem?_eq_getElem hl]
  rfl
structure DrAt (H : Hp) (m : Addr) (n : Nat) : Prop where
  ex : ∃ (L S : Int) (c : Addr) (P : Int) (cs : List Int), H m = some (.dK (mk L S c P)) ∧ H c = some (.lst (cs.map V.int)) ∧ 1 ≤ cs.length ∧ cs.length ≤ 1000 ∧ 0 ≤ L ∧ 0 ≤ S ∧ S < 2147483647 ∧ 0 ≤ P ∧ P ≤ n
def spDraw : Sp := fun vs H Q _ => ∃ (m : Addr) (n : Nat) (below : Int), vs = [.ref m, .int below] ∧ DrAt H m n ∧ n ≤ 1000000 ∧ 0 < below ∧ below < 2 ^ 200 ∧
  ∀ (r : Int) (H' : Hp), 0 ≤ r → r < below → DrAt H' m (n + 1) → St H H' → Q (.int r) H'

theorem fresh {H : Hp} {o : HO} {Q : V → Hp → Prop} (h : ∀ p H1, H p = none → H1 p = some o → Same H H1 → Q (.ref p) H1) : ∀ p, H p = none → Q (.ref p) (upd H p o) := fun p np => h p _ np upd_same (sameNew np)
theorem updE {H H1 : Hp} {p : Addr} {o : HO} (e : upd H p o = H1) : H1 p = some o := by subst e; exact upd_same
theorem updS {H H1 : Hp} {p : Addr} {o : HO} (n : H p = none) (e : upd H p o = H1) : Same H H1 := by subst e; exact sameNew n
theorem cut_int (cs : List Int) (lo hi : Option Int) : ∃ ds : List Int, cutV (cs.map V.int) lo hi = ds.map V.int ∧ ds.length ≤ cs.length := by
  refine ⟨(cs.drop (HT.sIx cs.length 0 lo)).take (HT.sIx cs.length cs.length hi - HT.sIx cs.length 0 lo), ?_, ?_⟩
  · unfold cutV
    rw [List.length_map, List.map_take, List.map_drop]
  · rw [List.length_take, List.length_drop]
    omega

theorem sameSqt {K : PySem.W.Frag} {H H' : Hp} {a : Addr} {xs : List V} (e : Same H H') (h : SqT K H a xs) : SqT K H' a xs := by
  rcases h with (h | ⟨o, h⟩) | h
  · exact .inl (.inl (e _ _ h))
  · exact .inl (.inr ⟨o, e _ _ h⟩)
  · exact .inr h
theorem St.sqt {K : PySem.W.Frag} {H H' : Hp} {a : Addr} {xs : List V} (e : St H H') (h : SqT K H a xs) : SqT K H' a xs := by
  rcases h with (h | ⟨o, h⟩) | h
  · exact .inl (.inl (e _ _ h rfl))
  · exact .inl (.inr ⟨o, e _ _ h rfl⟩)
  · exact .inr h
theorem sameDr {H H' : Hp} {m : Addr} {n : Nat} (e : Same H H') (h : DrAt H m n) : DrAt H' m n := by
  obtain ⟨L, S, c, P, cs, h1, h2, r⟩ := h.ex
  exact ⟨L, S, c, P, cs, e _ _ h1, e _ _ h2, r⟩
theorem sz {n : Nat} (h : n ≤ 1000) : n ≤ sizeLine := Nat.le_of_lt (small1000 h)
/-- a list that is made by a comprehension: what stood stays -/
theorem sameApp {H H' : Hp} {D : Addr} {o : HO} (e : Same H H') (n : H D = none) : Same H (upd H' D o) := fun b u h => by
  rw [upd_ne (ne_of_none h n)]
  exact e _ _ h
/-- one item of a list of ints -/
theorem int_item {ns : List Int} {i : Nat} {y : V} (h : (ns.map V.int)[i]? = some y) : ∃ z, y = V.int z ∧ ns[i]? = some z := by
  rw [List.getElem?_map] at h
  cases e : ns[i]? with
  | none => rw [e] at h; cases h
  | some z => rw [e] at h; exact ⟨z, (Option.some.inj h).symm, rfl⟩
/-! ### data of ints, compared -/
theorem dpInts {K : PySem.W.Frag} {H : Hp} : ∀ ns : List Int, DpAll K H (ns.map V.int) (ns.map PyData.int)
  | [] => .nil
  | n :: r => .cons (.int n) (dpInts r)
theorem canInts : ∀ ns : List Int, PyData.canLayAll0 (ns.map PyData.int) = true
  | [] => by simp [PyData.canLayAll0]
  | n :: r => by
    simp only [List.map_cons, PyData.canLayAll0, PyData.canLay0, Bool.true_and]
    exact canInts r
theorem depInts : ∀ ns : List Int, PyData.depthAll (ns.map PyData.int) = 0
  | [] => by simp [PyData.depthAll]
  | n :: r => by
    simp only [List.map_cons, PyData.depthAll, PyData.depth, depInts r]
    rfl
theorem shT (ns : List Int) : SeqAt.shaped (.tuple (ns.map PyData.int)) = true := by
  unfold SeqAt.shaped
  simp only [PyData.canLay0, canInts, PyData.depth, depInts, Bool.true_and]
  decide
theorem shL (ns : List Int) : SeqAt.shaped (.list (ns.map PyData.int)) = true := by
  unfold SeqAt.shaped
  simp only [PyData.canLay0, canInts, PyData.depth, depInts, Bool.true_and]
  decide
theorem eqvInts : ∀ xs ys : List Int, PyData.eqvAll (xs.map PyData.int) (ys.map PyData.int) = decide (xs = ys)
  | [], [] => by simp [PyData.eqvAll]
  | [], y :: ys => by simp [PyData.eqvAll]
  | x :: xs, [] => by simp [PyData.eqvAll]
  | x :: xs, y :: ys => by
    simp only [List.map_cons, PyData.eqvAll, PyData.eqv, eqvInts xs ys]
    by_cases h : x = y <;> by_cases h' : xs = ys <;> simp [h, h']
theorem eqvT (xs ys : List Int) : PyData.eqv (.tuple (xs.map PyData.int)) (.tuple (ys.map PyData.int)) = decide (xs = ys) := by
  simp only [PyData.eqv]
  exact eqvInts xs ys
theorem eqvL (xs ys : List Int) : PyData.eqv (.list (xs.map PyData.int)) (.list (ys.map PyData.int)) = decide (xs = ys) := by
  simp only [PyData.eqv]
  exact eqvInts xs ys
/-- two tuples of ints, two lists of ints: == and != -/
theorem rNeT {K : PySem.W.Frag} {H : Hp} {a b : Addr} {xs ys : List Int} {Q : VK} (h1 : SqT K H a (xs.map V.int)) (h2 : SqT K H b (ys.map V.int)) (q : Q (.bl (!decide (xs = ys))) H) : rNeD K (.ref a) (.ref b) H Q :=
  ⟨_, _, .tup h1 (dpInts xs), .tup h2 (dpInts ys), shT _, shT _, by rw [eqvT]; exact q⟩
theorem rEqT {K : PySem.W.Frag} {H : Hp} {a b : Addr} {xs ys : List Int} {Q : VK} (h1 : SqT K H a (xs.map V.int)) (h2 : SqT K H b (ys.map V.int)) (q : Q (.bl (decide (xs = ys))) H) : rEqD K (.ref a) (.ref b) H Q :=
  ⟨_, _, .tup h1 (dpInts xs), .tup h2 (dpInts ys), shT _, shT _, by rw [eqvT]; exact q⟩
theorem rNeL {K : PySem.W.Frag} {H : Hp} {a b : Addr} {xs ys : List Int} {Q : VK} (h1 : SqL K H a (xs.map V.int)) (h2 : SqL K H b (ys.map V.int)) (q : Q (.bl (!decide (xs = ys))) H) : rNeD K (.ref a) (.ref b) H Q :=
  ⟨_, _, .lst h1 (dpInts xs), .lst h2 (dpInts ys), shL _, shL _, by rw [eqvL]; exact q⟩
theorem rEqL {K : PySem.W.Frag} {H : Hp} {a b : Addr} {xs ys : List Int} {Q : VK} (h1 : SqL K H a (xs.map V.int)) (h2 : SqL K H b (ys.map V.int)) (q : Q (.bl (decide (xs = ys))) H) : rEqD K (.ref a) (.ref b) H Q :=
  ⟨_, _, .lst h1 (dpInts xs), .lst h2 (dpInts ys), shL _, shL _, by rw [eqvL]; exact q⟩

/-- a if t else b, by values -/
theorem tIf_val {tA : TT} {ta tb : TE} {σ : L2.St} {H : Hp} {Q : VK} (c : Bool) (x y : V) (hA : ∀ R : Bool → Hp → Prop, R c H → tA σ H R) (ha : c = true → ∀ R : VK, R x H → ta σ H R) (hb : c = false → ∀ R : VK, R y H → tb σ H R) (q : Q (if c = true then x else y) H) : tIf tA ta tb σ H Q := by
  refine hA _ ?_
  cases c with
  | true =>
    refine iteT ?_
    exact ha rfl _ q
  | false =>
    refine iteF ?_
    exact hb rfl _ q

end Toy
namespace Toy
open PySem L2
/-- one step of a reading, where nothing is asked -/
local macro_rules | `(tactic| walk_at "rd1") => `(tactic| first
  | with_reducible assumption
  | refine ⟨_, rfl, ?_⟩
  | refine ⟨_, _, rfl, rfl, ?_⟩
  | refine ⟨_, _, rfl, dg (by assumption) mk_left, ?_⟩
  | refine ⟨_, _, rfl, dg (by assumption) mk_seed, ?_⟩
  | refine ⟨_, _, rfl, dg (by assumption) mk_cells, ?_⟩
  | refine ⟨_, _, rfl, dg (by assumption) mk_spot, ?_⟩
  | refine And.intro (by (try dsimp only); first | assumption | omega | decide +kernel) ?_
  | refine And.intro ⟨by decide, by decide, by decide⟩ ?_
  | refine And.intro ⟨by omega, by omega⟩ ?_
  | refine And.intro (.inl ⟨by omega, by omega⟩) ?_
  | refine And.intro (.inr ⟨by omega, by omega⟩) ?_
  | refine ⟨_, _, rfl, ?_⟩
  | refine ⟨_, _, rfl, .inl (SqL.of (by assumption)), ?_⟩
  | refine ⟨_, _, rfl, .inr (SqT.of (by assumption)), ?_⟩
  | refine ⟨_, _, _, _, rfl, rfl, SqL.of (by assumption), (by assumption), ?_⟩
  | refine ⟨_, _, _, _, rfl, rfl, SqT.of (by assumption), (by assumption), ?_⟩
  | refine ⟨_, _, rfl, (by assumption), ?_⟩
  | refine ⟨_, _, _, _, rfl, rfl, (by assumption), (by assumption), sz (by first | omega | (simp only [List.length_map, List.length_append, List.length_cons, List.length_nil]; omega)), ?_⟩
  | refine And.intro (sz (Nat.le_of_ble_eq_true rfl)) ?_
  | refine ⟨_, _, _, _, rfl, rfl, (by assumption), (atI_nat (j := 0) rfl), ?_⟩
  | refine ⟨_, _, _, _, rfl, rfl, (by assumption), (atI_nat (j := 1) rfl), ?_⟩
  | refine And.intro (wide_mul (a := 300) (b := 300) (by assumption) (by assumption) (by decide) (by decide) (by decide)) ?_
  | refine ⟨_, _, _, _, _, rfl, .ty _, .base (.int _), kit_ty (r := true) (by decide +kernel), ?_⟩
  | refine ⟨_, _, _, _, _, rfl, .ty _, .base (.int _), kit_ty (r := false) (by decide +kernel), ?_⟩
  | refine ⟨_, _, _, _, _, rfl, .ty _, .base (.tup (by assumption)), kit_ty (r := true) (by decide +kernel), ?_⟩
  | refine ⟨_, _, _, _, _, rfl, .ty _, .base (.bl _), kit_ty (r := true) (by decide +kernel), ?_⟩
  | refine iteF ?_
  | refine iteT ?_
  | refine .inl ⟨_, rfl, ?_⟩
  | refine ⟨rfl, ?_⟩)
local macro_rules | `(tactic| walk_at "rd") => `(tactic| repeat walk_at "rd1")

def top (i : Nat) : Stmt := PySem.Challenge.pw_flagfloors_k00_ratios.main.body.getD i (.Pass ⟨0, 0, 0, 0⟩)
abbrev s_ratio : Stmt := top 2
theorem sc_ratio : FnScope ["top", "bottom", "common"] ["top", "bottom"] (defScope s_ratio) := ⟨rfl, rfl, rfl, by decide +kernel, rfl, by decide +kernel, by decide +kernel⟩
abbrev s_plus : Stmt := top 3
theorem sc_plus : FnScope ["a", "b"] ["a", "b"] (defScope s_plus) := ⟨rfl, rfl, rfl, by decide +kernel, rfl, by decide +kernel, by decide +kernel⟩
abbrev s_minus : Stmt := top 4
theorem sc_minus : FnScope ["a", "b"] ["a", "b"] (defScope s_minus) := ⟨rfl, rfl, rfl, by decide +kernel, rfl, by decide +kernel, by decide +kernel⟩
abbrev s_times : Stmt := top 5
theorem sc_times : FnScope ["a", "b"] ["a", "b"] (defScope s_times) := ⟨rfl, rfl, rfl, by decide +kernel, rfl, by decide +kernel, by decide +kernel⟩
abbrev s_over : Stmt := top 6
theorem sc_over : FnScope ["a", "b"] ["a", "b"] (defScope s_over) := ⟨rfl, rfl, rfl, by decide +kernel, rfl, by decide +kernel, by decide +kernel⟩
abbrev s_sign_of : Stmt := top 7
theorem sc_sign_of : FnScope ["a"] ["a"] (defScope s_sign_of) := ⟨rfl, rfl, rfl, by decide +kernel, rfl, by decide +kernel, by decide +kernel⟩
abbrev s_law_begun : Stmt := top 9
theorem sc_law_begun : FnScope ["script", "k", "cells", "great", "cell", "seed"] ["script", "k"] (defScope s_law_begun) := ⟨rfl, rfl, rfl, by decide +kernel, rfl, by decide +kernel, by decide +kernel⟩
abbrev s_law_draw : Stmt := top 10
theorem sc_law_draw : FnScope ["m", "below", "found", "spot", "cells", "extra", "cell", "blend"] ["m", "below"] (defScope s_law_draw) := ⟨rfl, rfl, rfl, by decide +kernel, rfl, by decide +kernel, by decide +kernel⟩
abbrev s_law_shared : Stmt := top 11
theorem sc_law_shared : FnScope ["a", "b", "k"] ["a", "b"] (defScope s_law_shared) := ⟨rfl, rfl, rfl, by decide +kernel, rfl, by decide +kernel, by decide +kernel⟩
abbrev s_law_is_ratio : Stmt := top 12
theorem sc_law_is_ratio : FnScope ["value", "one"] ["value"] (defScope s_law_is_ratio) := ⟨rfl, rfl, rfl, by decide +kernel, rfl, by decide +kernel, by decide +kernel⟩
abbrev s_law_pair : Stmt := top 13
theorem sc_law_pair : FnScope ["m", "cell", "wide", "top", "bottom"] ["m", "cell"] (defScope s_law_pair) := ⟨rfl, rfl, rfl, by decide +kernel, rfl, by decide +kernel, by decide +kernel⟩
abbrev s_law_is_right : Stmt := top 14
theorem sc_law_is_right : FnScope ["found", "top", "bottom"] ["found", "top", "bottom"] (defScope s_law_is_right) := ⟨rfl, rfl, rfl, by decide +kernel, rfl, by decide +kernel, by decide +kernel⟩
abbrev s_law : Stmt := top 15
theorem sc_law : FnScope ["script", "k", "m", "cell", "a", "b", "one", "two", "due", "told"] ["script"] (defScope s_law) := ⟨rfl, rfl, rfl, by decide +kernel, rfl, by decide +kernel, by decide +kernel⟩
structure Txt (K : PySem.W.Frag) (mg : Str → Option Value) where
  a_ratio : Addr
  d_ratio : FuncData
  f_ratio : Fun K "ratio" "ratio" s_ratio a_ratio d_ratio
  g_ratio : mg "ratio" = some (.ref a_ratio)
  k_ratio : PySem.W.keepIn K (.ref a_ratio) = true
  b_ratio : Binds K d_ratio ["top", "bottom"] []
  a_plus : Addr
  d_plus : FuncData
  f_plus : Fun K "plus" "plus" s_plus a_plus d_plus
  g_plus : mg "plus" = some (.ref a_plus)
  k_plus : PySem.W.keepIn K (.ref a_plus) = true
  b_plus : Binds K d_plus ["a", "b"] []
  a_minus : Addr
  d_minus : FuncData
  f_minus : Fun K "minus" "minus" s_minus a_minus d_minus
  g_minus : mg "minus" = some (.ref a_minus)
  k_minus : PySem.W.keepIn K (.ref a_minus) = true
  b_minus : Binds K d_minus ["a", "b"] []
  a_times : Addr
  d_times : FuncData
  f_times : Fun K "times" "times" s_times a_times d_times
  g_times : mg "times" = some (.ref a_times)
  k_times : PySem.W.keepIn K (.ref a_times) = true
  b_times : Binds K d_times ["a", "b"] []
  a_over : Addr
  d_over : FuncData
  f_over : Fun K "over" "over" s_over a_over d_over
  g_over : mg "over" = some (.ref a_over)
  k_over : PySem.W.keepIn K (.ref a_over) = true
  b_over : Binds K d_over ["a", "b"] []
  a_sign_of : Addr
  d_sign_of : FuncData
  f_sign_of : Fun K "sign_of" "sign_of" s_sign_of a_sign_of d_sign_of
  g_sign_of : mg "sign_of" = some (.ref a_sign_of)
  k_sign_of : PySem.W.keepIn K (.ref a_sign_of) = true
  b_sign_of : Binds K d_sign_of ["a"] []
  a_law_begun : Addr
  d_law_begun : FuncData
  f_law_begun : Fun K "_law_begun" "_law_begun" s_law_begun a_law_begun d_law_begun
  g_law_begun : mg "_law_begun" = some (.ref a_law_begun)
  k_law_begun : PySem.W.keepIn K (.ref a_law_begun) = true
  b_law_begun : Binds K d_law_begun ["script", "k"] []
  a_law_draw : Addr
  d_law_draw : FuncData
  f_law_draw : Fun K "_law_draw" "_law_draw" s_law_draw a_law_draw d_law_draw
  g_law_draw : mg "_law_draw" = some (.ref a_law_draw)
  k_law_draw : PySem.W.keepIn K (.ref a_law_draw) = true
  b_law_draw : Binds K d_law_draw ["m", "below"] []
  a_law_shared : Addr
  d_law_shared : FuncData
  f_law_shared : Fun K "_law_shared" "_law_shared" s_law_shared a_law_shared d_law_shared
  g_law_shared : mg "_law_shared" = some (.ref a_law_shared)
  k_law_shared : PySem.W.keepIn K (.ref a_law_shared) = true
  b_law_shared : Binds K d_law_shared ["a", "b"] []
  a_law_is_ratio : Addr
  d_law_is_ratio : FuncData
  f_law_is_ratio : Fun K "_law_is_ratio" "_law_is_ratio" s_law_is_ratio a_law_is_ratio d_law_is_ratio
  g_law_is_ratio : mg "_law_is_ratio" = some (.ref a_law_is_ratio)
  k_law_is_ratio : PySem.W.keepIn K (.ref a_law_is_ratio) = true
  b_law_is_ratio : Binds K d_law_is_ratio ["value"] []
  a_law_pair : Addr
  d_law_pair : FuncData
  f_law_pair : Fun K "_law_pair" "_law_pair" s_law_pair a_law_pair d_law_pair
  g_law_pair : mg "_law_pair" = some (.ref a_law_pair)
  k_law_pair : PySem.W.keepIn K (.ref a_law_pair) = true
  b_law_pair : Binds K d_law_pair ["m", "cell"] []
  a_law_is_right : Addr
  d_law_is_right : FuncData
  f_law_is_right : Fun K "_law_is_right" "_law_is_right" s_law_is_right a_law_is_right d_law_is_right
  g_law_is_right : mg "_law_is_right" = some (.ref a_law_is_right)
  k_law_is_right : PySem.W.keepIn K (.ref a_law_is_right) = true
  b_law_is_right : Binds K d_law_is_right ["found", "top", "bottom"] []
  a_law : Addr
  d_law : FuncData
  f_law : Fun K "law" "law" s_law a_law d_law
  g_law : mg "law" = some (.ref a_law)
  k_law : PySem.W.keepIn K (.ref a_law) = true
  b_law : Binds K d_law ["script"] []
  n_abs : mg "abs" = none
  n_bool : mg "bool" = none
  n_int : mg "int" = none
  n_isinstance : mg "isinstance" = none
  n_len : mg "len" = none
  n_max : mg "max" = none
  n_min : mg "min" = none
  n_range : mg "range" = none
  n_tuple : mg "tuple" = none
  g_gcd : mg "gcd" = some (.builtin "math.gcd")
section
variable {P : Program} {w : World} {K : PySem.W.Frag} {mg : Str → Option Value} {base : Heap}
theorem ok_law_draw (T : Txt K mg) : FnOk P w K mg base CX0 1 T.a_law_draw T.d_law_draw ["m", "below"] spDraw := by
  refine T.f_law_draw.ok sc_law_draw (fun vs H Q E h => ?_) (fun cdv A outer s H vs Q E hr h => ?_)
  · obtain ⟨m, n, b, rfl, _⟩ := h
    rfl
  · obtain ⟨m, n, below, rfl, ⟨L, S, c, P, cs, hm, hc, l1, l2, L0, S0, S1, P0, P1⟩, hn, b0, b1, k⟩ := h
    have hu := hu_of hr
    have nd := sc_law_draw.nd
    refine ⟨_, (pss_cons (ps_if (pt_cmpR op_gt (pe_dget hu (pv 0) pe_str (fun _ _ => rfl)) pe_int (nomark _)) (pss_cons (ps_set (i := 2) nd rfl (Or.inl rfl) (pe_op op_mod (pe_callTy call_int1 (by rfl) T.n_int (by decide +kernel) (pa_cons (pe_dget hu (pv 0) pe_str (fun _ _ => rfl)) pa_nil)) (pv 1)))
  (pss_cons (ps_dput hu (pv 0) pe_str (pe_op op_fdivW (pe_dget hu (pv 0) pe_str (fun _ _ => rfl)) (pv 1)) rfl)
  (pss_one (ps_ret (pv 2))))) pss_nil)
  (pss_cons (ps_set (i := 3) nd rfl (Or.inl rfl) (pe_dget hu (pv 0) pe_str (fun _ _ => rfl)))
  (pss_cons (ps_dput hu (pv 0) pe_str (pe_op op_add (pv 3) pe_int) rfl)
  (pss_cons (ps_par (i := 4) (j := 5) (by rfl) nd rfl rfl (by decide) rfl rfl (pa_cons (pe_dget hu (pv 0) pe_str (fun _ _ => rfl)) (pa_cons (pe_op op_add (pe_dget hu (pv 0) pe_str (fun _ _ => rfl)) (pe_op op_mul (pe_op op_mul pe_int (pv 3)) (pv 3))) pa_nil)) (by rfl))
  (pss_cons (ps_set (i := 6) nd rfl (Or.inl rfl) (pe_ix ix_list (pv 4) (pe_op op_mod (pe_callTy call_int1 (by rfl) T.n_int (by decide +kernel) (pa_cons (pv 3) pa_nil)) (pe_callB call_len_seq (by rfl) T.n_len (by decide +kernel) (pa_cons (pv 4) pa_nil))) (fun _ _ => rfl)))
  (pss_cons (ps_set (i := 7) nd rfl (Or.inl rfl) (pe_op op_mod (pe_callTy call_int1 (by rfl) T.n_int (by decide +kernel) (pa_cons (pe_op op_add (pe_op op_mul (pv 6) (pe_op op_add (pe_op op_mul pe_int (pv 3)) pe_int)) (pv 5)) pa_nil)) pe_int))
  (pss_cons (ps_set (i := 7) nd rfl (Or.inl rfl) (pe_op op_mod (pe_callTy call_int1 (by rfl) T.n_int (by decide +kernel) (pa_cons (pe_op op_add (pe_op op_add (pe_op op_mul (pv 7) (pv 7)) (pe_op op_mul pe_int (pv 3))) (pe_dget hu (pv 0) pe_str (fun _ _ => rfl))) pa_nil)) pe_int))
  (pss_one (ps_ret (pe_op op_mod (pe_op op_fdiv (pe_op op_mod (pe_callTy call_int1 (by rfl) T.n_int (by decide +kernel) (pa_cons (pe_op op_add (pe_op op_mul (pv 7) pe_int) (pv 3)) pa_nil)) pe_int) pe_int) (pv 1))))))))))), ?_⟩
    walk_at "rd"
    refine ite2 (fun hL => ?_) (fun hL => ?_)
    · have hL : 0 < L := of_decide_eq_true hL
      have q0 : 0 ≤ L / below := Int.ediv_nonneg (by omega) (by omega)
      walk_at "rd"
      refine ⟨wide_div (b := 200) b0 (nlt b0 b1) (by decide) (by decide), ?_⟩
      walk_at "rd"
      refine ⟨m, _, rfl, dp hm put_left (by show 4 ≤ 1000; decide), ?_⟩
      walk_at "rd"
      have ne : c ≠ m := ne_of hc hm (by intro z; cases z)
      refine k _ _ (Int.emod_nonneg _ (by omega)) (Int.emod_lt_of_pos _ b0) ⟨_, _, _, _, _, upd_same, (upd_ne ne).trans hc, l1, l2, q0, S0, S1, P0, by omega⟩ fun b o e d => ?_
      rw [upd_ne]
      · exact e
      · intro z
        rw [z, hm] at e
        cases e
        cases d
    · walk_at "rd"
      refine ⟨m, _, rfl, dp hm put_spot (by show 4 ≤ 1000; decide), ?_⟩
      have ne : c ≠ m := ne_of hc hm (by intro z; cases z)
      have hm1 : upd H m (.dK (mk L S c (P + 1))) m = some (.dK (mk L S c (P + 1))) := upd_same
      have hc1 : upd H m (.dK (mk L S c (P + 1))) c = some (.lst (cs.map V.int)) := (upd_ne ne).trans hc
      have st : St H (upd H m (.dK (mk L S c (P + 1)))) := fun b o e d => by
        rw [upd_ne]
        · exact e
        · intro z
          rw [z, hm] at e
          cases e
          cases d
      revert hm1 hc1 st
      generalize upd H m (.dK (mk L S c (P + 1))) = H1
      intro hm1 hc1 st
      have hl : ((cs.map V.int).length : Int) = cs.length := by rw [List.length_map]
      obtain ⟨z, hz, hat⟩ := at_int (cs := cs) (i := P % ((cs.map V.int).length : Int)) (Int.emod_nonneg _ (by omega)) (by rw [hl]; exact Int.emod_lt_of_pos _ (by omega))
      walk_at "rd"
      exact k _ _ (Int.emod_nonneg _ (by omega)) (Int.emod_lt_of_pos _ b0) ⟨_, _, _, _, _, hm1, hc1, l1, l2, L0, S0, S1, by omega, by omega⟩ st
end

end Toy
namespace Toy
open PySem L2
/-- one step of a reading, where nothing is asked -/
local macro_rules | `(tactic| walk_at "rd1") => `(tactic| first
  | with_reducible assumption
  | refine ⟨_, rfl, ?_⟩
  | refine ⟨_, _, rfl, rfl, ?_⟩
  | refine ⟨_, _, rfl, dg (by assumption) mk_left, ?_⟩
  | refine ⟨_, _, rfl, dg (by assumption) mk_seed, ?_⟩
  | refine ⟨_, _, rfl, dg (by assumption) mk_cells, ?_⟩
  | refine ⟨_, _, rfl, dg (by assumption) mk_spot, ?_⟩
  | refine And.intro (by (try dsimp only); first | assumption | omega | decide +kernel) ?_
  | refine And.intro ⟨by decide, by decide, by decide⟩ ?_
  | refine And.intro ⟨by omega, by omega⟩ ?_
  | refine And.intro (.inl ⟨by omega, by omega⟩) ?_
  | refine And.intro (.inr ⟨by omega, by omega⟩) ?_
  | refine ⟨_, _, rfl, ?_⟩
  | refine ⟨_, _, rfl, .inl (SqL.of (by assumption)), ?_⟩
  | refine ⟨_, _, rfl, .inr (SqT.of (by assumption)), ?_⟩
  | refine ⟨_, _, _, _, rfl, rfl, SqL.of (by assumption), (by assumption), ?_⟩
  | refine ⟨_, _, _, _, rfl, rfl, SqT.of (by assumption), (by assumption), ?_⟩
  | refine ⟨_, _, rfl, (by assumption), ?_⟩
  | refine ⟨_, _, _, _, rfl, rfl, (by assumption), (by assumption), sz (by first | omega | (simp only [List.length_map, List.length_append, List.length_cons, List.length_nil]; omega)), ?_⟩
  | refine And.intro (sz (Nat.le_of_ble_eq_true rfl)) ?_
  | refine ⟨_, _, _, _, rfl, rfl, (by assumption), (atI_nat (j := 0) rfl), ?_⟩
  | refine ⟨_, _, _, _, rfl, rfl, (by assumption), (atI_nat (j := 1) rfl), ?_⟩
  | refine And.intro (wide_mul (a := 300) (b := 300) (by assumption) (by assumption) (by decide) (by decide) (by decide)) ?_
  | refine ⟨_, _, _, _, _, rfl, .ty _, .base (.int _), kit_ty (r := true) (by decide +kernel), ?_⟩
  | refine ⟨_, _, _, _, _, rfl, .ty _, .base (.int _), kit_ty (r := false) (by decide +kernel), ?_⟩
  | refine ⟨_, _, _, _, _, rfl, .ty _, .base (.tup (by assumption)), kit_ty (r := true) (by decide +kernel), ?_⟩
  | refine ⟨_, _, _, _, _, rfl, .ty _, .base (.bl _), kit_ty (r := true) (by decide +kernel), ?_⟩
  | refine iteF ?_
  | refine iteT ?_
  | refine .inl ⟨_, rfl, ?_⟩
  | refine ⟨rfl, ?_⟩)
local macro_rules | `(tactic| walk_at "rd") => `(tactic| repeat walk_at "rd1")

theorem tb (b : Bool) : (!b) = true → b = false := by cases b <;> decide
/-- a sum of the cells as the law folds it stays in its bounds -/
def spBegun (K : PySem.W.Frag) : Sp := fun vs H Q _ => ∃ (a : Addr) (ns : List Int) (i : Int), vs = [.ref a, .int i] ∧ SqL K H a (ns.map V.int) ∧ ns.length ≤ 63 ∧ 0 ≤ i ∧ i ≤ 1000 ∧
  ∀ (m : Addr) (H' : Hp), DrAt H' m 0 → St H H' → Q (.ref m) H'
section
variable {P : Program} {w : World} {K : PySem.W.Frag} {mg : Str → Option Value} {base : Heap}
theorem ok_law_begun (T : Txt K mg) : FnOk P w K mg base CX0 1 T.a_law_begun T.d_law_begun ["script", "k"] (spBegun K) := by
  refine T.f_law_begun.ok sc_law_begun (fun vs H Q E h => ?_) (fun cdv A outer s H vs Q E hr h => ?_)
  · obtain ⟨a, ns, i, rfl, _⟩ := h
    rfl
  · obtain ⟨a, ns, i, rfl, hS, hn, i0, i1, k⟩ := h
    have hu := hu_of hr
    have nd := sc_law_begun.nd
    refine ⟨_, (pss_cons (ps_set (i := 2) nd rfl (Or.inl rfl) (pe_op op_cat (pe_slice sl_list (pv 0) (po_some (pv 1)) po_none) (pe_slice sl_list (pv 0) po_none (po_some (pv 1)))))
  (pss_cons (ps_setLc (i := 3) (own := [("cell", 4)]) (g := gName 4) (tt := _) rfl nd rfl rfl (sw_true rfl rfl rfl (by decide +kernel)) (pi_list (pv 2)) (blkOk_by (own := [("cell", 4)]) (N := ["script", "k", "cells", "great", "cell", "seed"]) (sc := defScope s_law_begun) (by decide +kernel)) (fun _ _ _ _ _ => pg_name (i := 4) nd rfl (Or.inl rfl)) (fun _ _ _ _ _ => (pts_one (pt_cmpR op_ge (pv 4) (pe_op op_pow pe_int pe_int) (nomark _)))) (fun _ _ _ _ _ => (pv 4)))
  (pss_cons (ps_set (i := 5) nd rfl (Or.inl rfl) (pe_op op_add pe_int (pv 1)))
  (pss_cons (ps_for PassesOwn.never rfl (pi_list (pv 2)) (pg_name (i := 4) nd rfl (Or.inl rfl))
  (pss_one (ps_set (i := 5) nd rfl (Or.inl rfl) (pe_op op_mod (pe_callTy call_int1 (by rfl) T.n_int (by decide +kernel) (pa_cons (pe_op op_add (pe_op op_mul (pv 5) pe_int) (pv 4)) pa_nil)) pe_int))))
  (pss_one (ps_ret (pe_disp (pps_cons pe_str (pe_ifExp (pt_cmpR (op_neD hr.units) (pv 3) (pe_lst pa_nil) (nomark _)) (pe_ix ix_list (pv 3) pe_int (fun _ _ => rfl)) pe_int) (pps_cons pe_str (pv 5) (pps_cons pe_str (pe_op op_cat (pv 2) (pe_lst (pa_cons (pe_op op_add (pe_op op_mul pe_int (pv 1)) pe_int) pa_nil))) (pps_cons pe_str pe_int pps_nil)))) (by rfl) (by rfl) (fun z => by cases z) (by decide)))))))), ?_⟩
    walk_at "rd"
    intro p1 np1
    generalize e1 : upd H p1 _ = H1
    have hp1 := updE e1
    have s1 := updS np1 e1
    first | replace hS := s1 _ _ hS | replace hS := s1.seq hS | replace hS := sameSqt s1 hS | replace hS := sameDr s1 hS
    walk_at "rd"
    intro p2 np2
    generalize e2 : upd H1 p2 _ = H2
    have hp2 := updE e2
    have s2 := updS np2 e2
    first | replace hp1 := s2 _ _ hp1 | replace hp1 := s2.seq hp1 | replace hp1 := sameSqt s2 hp1 | replace hp1 := sameDr s2 hp1
    first | replace hS := s2 _ _ hS | replace hS := s2.seq hS | replace hS := sameSqt s2 hS | replace hS := sameDr s2 hS
    obtain ⟨ds, hds, ld⟩ := cut_int ns (some i) none
    obtain ⟨fs, hfs, lf⟩ := cut_int ns none (some i)
    rw [hds] at hp1
    rw [hfs] at hp2
    walk_at "rd"
    intro p3 np3
    generalize e3 : upd H2 p3 _ = H3
    have hp3 := updE e3
    have s3 := updS np3 e3
    rw [← List.map_append] at hp3
    have lc : (ds ++ fs).length ≤ 200 := by rw [List.length_append]; omega
    generalize ds ++ fs = cs at hp3 lc
    walk_at "rd"
    refine ⟨⟨_, SqL.of hp3⟩, fun D nD => lc_list (K := K) (a := p3) (xs := cs.map V.int) (fun j H' => ∃ gs : List Int, H' D = some (.lst (gs.map V.int)) ∧ (∀ g ∈ gs, 0 < g) ∧ gs.length ≤ j ∧ Same H3 H')
      ⟨[], upd_same, by simp, Nat.le_refl _, sameApp (Same.refl H3) nD⟩ (fun j H' _ ⟨_, _, _, _, sm⟩ => SqL.of (sm _ _ hp3)) ?_ ?_⟩
    · rintro j x H' hx ⟨gs, g1, g2, g3, sm⟩
      obtain ⟨z, rfl, hz⟩ := int_item hx
      have lj : j < cs.length := (List.getElem?_eq_some_iff.mp hz).1
      refine ⟨rfl, ?_⟩
      walk_at "rd"
      refine ite2 (fun h => ?_) (fun h => ?_)
      · have h1 := of_decide_eq_true h
        walk_at "rd"
        refine ⟨_, g1, small1000 (by rw [List.length_map]; omega), gs ++ [z], ?_, ?_, ?_, sameApp sm nD⟩
        · rw [List.map_append]
          exact upd_same
        · intro g hg
          rcases List.mem_append.mp hg with q | q
          · exact g2 g q
          · rw [List.mem_singleton.mp q]
            have h2 : (0 : Int) < 10 ^ (18 : Int).toNat := by decide
            omega
        · rw [List.length_append]
          show gs.length + 1 ≤ j + 1
          omega
      · exact ⟨gs, g1, g2, by omega, sm⟩
    rintro H4 ⟨gs, g1, g2, g3, s4⟩
    first | replace hp3 := s4 _ _ hp3 rfl | replace hp3 := s4 _ _ hp3 | replace hp3 := s4.seq hp3 | replace hp3 := s4.sqt hp3 | replace hp3 := sameSqt s4 hp3 | replace hp3 := sameDr s4 hp3
    walk_at "rd"
    refine ⟨⟨_, SqL.of hp3⟩, for_list (K := K) (a := p3) (xs := cs.map V.int) (fun j σ H' => ∃ (v : Option V) (z : Int), σ = [some (.ref a), some (.int i), some (.ref p3), some (.ref D), v, some (.int z)] ∧ Same H4 H' ∧ 0 ≤ z ∧ (0 < j → z < 2147483647) ∧ (cs = [] → z < 2147483647))
      ⟨none, 71 + i, rfl, Same.refl _, by omega, fun h => absurd h (by decide), fun _ => by omega⟩ (fun j σ H' _ ⟨_, _, _, sm, _⟩ => SqL.of (sm _ _ hp3)) ?_ ?_⟩
    · rintro j x σ H' hx ⟨v, z, rfl, sm, z0, z1, z2⟩
      obtain ⟨y, rfl, hy⟩ := int_item hx
      have lj : j < cs.length := (List.getElem?_eq_some_iff.mp hy).1
      walk_at "rd"
      intro _
      omega
    rintro σ H5 ⟨v, z, rfl, s5, z0, z1, z2⟩
    have z3 : z < 2147483647 := by
      rw [List.length_map] at z1
      by_cases hc : cs = []
      · exact z2 hc
      · exact z1 (List.length_pos_iff.mpr hc)
    first | replace hp3 := s5 _ _ hp3 rfl | replace hp3 := s5 _ _ hp3 | replace hp3 := s5.seq hp3 | replace hp3 := s5.sqt hp3 | replace hp3 := sameSqt s5 hp3 | replace hp3 := sameDr s5 hp3
    first | replace g1 := s5 _ _ g1 rfl | replace g1 := s5 _ _ g1 | replace g1 := s5.seq g1 | replace g1 := s5.sqt g1 | replace g1 := sameSqt s5 g1 | replace g1 := sameDr s5 g1
    intro p6 np6
    generalize e6 : upd H5 p6 _ = H6
    have hp6 := updE e6
    have s6 := updS np6 e6
    first | replace hp3 := s6 _ _ hp3 | replace hp3 := s6.seq hp3 | replace hp3 := sameSqt s6 hp3 | replace hp3 := sameDr s6 hp3
    first | replace g1 := s6 _ _ g1 | replace g1 := s6.seq g1 | replace g1 := sameSqt s6 g1 | replace g1 := sameDr s6 g1
    walk_at "rd"
    intro p7 np7
    generalize e7 : upd H6 p7 _ = H7
    have hp7 := updE e7
    have s7 := updS np7 e7
    first | replace hp3 := s7 _ _ hp3 | replace hp3 := s7.seq hp3 | replace hp3 := sameSqt s7 hp3 | replace hp3 := sameDr s7 hp3
    first | replace g1 := s7 _ _ g1 | replace g1 := s7.seq g1 | replace g1 := sameSqt s7 g1 | replace g1 := sameDr s7 g1
    first | replace hp6 := s7 _ _ hp6 | replace hp6 := s7.seq hp6 | replace hp6 := sameSqt s7 hp6 | replace hp6 := sameDr s7 hp6
    refine rNeL (ys := []) (SqL.of g1) (SqL.of hp7) ?_
    walk_at "rd"
    refine ite2 (fun h => ?_) (fun h => ?_)
    · obtain ⟨g, gs', rfl⟩ : ∃ g gs', gs = g :: gs' := by
        cases gs with
        | nil => simp at h
        | cons g r => exact ⟨g, r, rfl⟩
      have hat : atI ((g :: gs').map V.int) 0 = some (.int g) := atI_nat (j := 0) rfl
      have LLL : 0 ≤ g := by have := g2 g (by simp); omega
      walk_at "rd"
      intro p8 np8
      generalize e8 : upd H7 p8 _ = H8
      have hp8 := updE e8
      have s8 := updS np8 e8
      first | replace hp3 := s8 _ _ hp3 | replace hp3 := s8.seq hp3 | replace hp3 := sameSqt s8 hp3 | replace hp3 := sameDr s8 hp3
      first | replace hp6 := s8 _ _ hp6 | replace hp6 := s8.seq hp6 | replace hp6 := sameSqt s8 hp6 | replace hp6 := sameDr s8 hp6
      walk_at "rd"
      intro p9 np9
      generalize e9 : upd H8 p9 _ = H9
      have hp9 := updE e9
      have s9 := updS np9 e9
      first | replace hp6 := s9 _ _ hp6 | replace hp6 := s9.seq hp6 | replace hp6 := sameSqt s9 hp6 | replace hp6 := sameDr s9 hp6
      walk_at "rd"
      refine ⟨mk g z p9 0, rfl, Nat.le_of_ble_eq_true rfl, ?_⟩
      rw [made]
      have hp10 : H9 p9 = some (.lst ((cs ++ [53 * i + 11]).map V.int)) := by rw [List.map_append]; exact hp9
      have ne : p9 ≠ p6 := ne_of hp9 hp6 (by intro q; cases q)
      have st : St H (upd H9 p6 (.dK (mk g z p9 0))) := fun b o e d => by
        have e1 := s9 _ _ (s8 _ _ (s7 _ _ (s6 _ _ (s5 _ _ (s4 _ _ (s3 _ _ (s2 _ _ (s1 _ _ e))))))))
        rw [upd_ne]
        · exact e1
        · intro q
          rw [q, hp6] at e1
          cases e1
          cases d
      exact k _ _ ⟨_, _, _, _, cs ++ [53 * i + 11], upd_same, (upd_ne ne).trans hp10, by rw [List.length_append]; show 1 ≤ cs.length + 1; omega, by rw [List.length_append]; show cs.length + 1 ≤ 1000; omega, LLL, z0, z3, by omega, by omega⟩ st
    · have LLL : (0 : Int) ≤ 0 := by omega
      walk_at "rd"
      intro p8 np8
      generalize e8 : upd H7 p8 _ = H8
      have hp8 := updE e8
      have s8 := updS np8 e8
      first | replace hp3 := s8 _ _ hp3 | replace hp3 := s8.seq hp3 | replace hp3 := sameSqt s8 hp3 | replace hp3 := sameDr s8 hp3
      first | replace hp6 := s8 _ _ hp6 | replace hp6 := s8.seq hp6 | replace hp6 := sameSqt s8 hp6 | replace hp6 := sameDr s8 hp6
      walk_at "rd"
      intro p9 np9
      generalize e9 : upd H8 p9 _ = H9
      have hp9 := updE e9
      have s9 := updS np9 e9
      first | replace hp6 := s9 _ _ hp6 | replace hp6 := s9.seq hp6 | replace hp6 := sameSqt s9 hp6 | replace hp6 := sameDr s9 hp6
      walk_at "rd"
      refine ⟨mk 0 z p9 0, rfl, Nat.le_of_ble_eq_true rfl, ?_⟩
      rw [made]
      have hp10 : H9 p9 = some (.lst ((cs ++ [53 * i + 11]).map V.int)) := by rw [List.map_append]; exact hp9
      have ne : p9 ≠ p6 := ne_of hp9 hp6 (by intro q; cases q)
      have st : St H (upd H9 p6 (.dK (mk 0 z p9 0))) := fun b o e d => by
        have e1 := s9 _ _ (s8 _ _ (s7 _ _ (s6 _ _ (s5 _ _ (s4 _ _ (s3 _ _ (s2 _ _ (s1 _ _ e))))))))
        rw [upd_ne]
        · exact e1
        · intro q
          rw [q, hp6] at e1
          cases e1
          cases d
      exact k _ _ ⟨_, _, _, _, cs ++ [53 * i + 11], upd_same, (upd_ne ne).trans hp10, by rw [List.length_append]; show 1 ≤ cs.length + 1; omega, by rw [List.length_append]; show cs.length + 1 ≤ 1000; omega, LLL, z0, z3, by omega, by omega⟩ st
end

end Toy
namespace Toy
open PySem L2
/-- one step of a reading, where nothing is asked -/
local macro_rules | `(tactic| walk_at "rd1") => `(tactic| first
  | with_reducible assumption
  | refine ⟨_, rfl, ?_⟩
  | refine ⟨_, _, rfl, rfl, ?_⟩
  | refine ⟨_, _, rfl, dg (by assumption) mk_left, ?_⟩
  | refine ⟨_, _, rfl, dg (by assumption) mk_seed, ?_⟩
  | refine ⟨_, _, rfl, dg (by assumption) mk_cells, ?_⟩
  | refine ⟨_, _, rfl, dg (by assumption) mk_spot, ?_⟩
  | refine And.intro (by (try dsimp only); first | assumption | omega | decide +kernel) ?_
  | refine And.intro ⟨by decide, by decide, by decide⟩ ?_
  | refine And.intro ⟨by omega, by omega⟩ ?_
  | refine And.intro (.inl ⟨by omega, by omega⟩) ?_
  | refine And.intro (.inr ⟨by omega, by omega⟩) ?_
  | refine ⟨_, _, rfl, ?_⟩
  | refine ⟨_, _, rfl, .inl (SqL.of (by assumption)), ?_⟩
  | refine ⟨_, _, rfl, .inr (SqT.of (by assumption)), ?_⟩
  | refine ⟨_, _, _, _, rfl, rfl, SqL.of (by assumption), (by assumption), ?_⟩
  | refine ⟨_, _, _, _, rfl, rfl, SqT.of (by assumption), (by assumption), ?_⟩
  | refine ⟨_, _, rfl, (by assumption), ?_⟩
  | refine ⟨_, _, _, _, rfl, rfl, (by assumption), (by assumption), sz (by first | omega | (simp only [List.length_map, List.length_append, List.length_cons, List.length_nil]; omega)), ?_⟩
  | refine And.intro (sz (Nat.le_of_ble_eq_true rfl)) ?_
  | refine ⟨_, _, _, _, rfl, rfl, (by assumption), (atI_nat (j := 0) rfl), ?_⟩
  | refine ⟨_, _, _, _, rfl, rfl, (by assumption), (atI_nat (j := 1) rfl), ?_⟩
  | refine And.intro (wide_mul (a := 300) (b := 300) (by assumption) (by assumption) (by decide) (by decide) (by decide)) ?_
  | refine ⟨_, _, _, _, _, rfl, .ty _, .base (.int _), kit_ty (r := true) (by decide +kernel), ?_⟩
  | refine ⟨_, _, _, _, _, rfl, .ty _, .base (.int _), kit_ty (r := false) (by decide +kernel), ?_⟩
  | refine ⟨_, _, _, _, _, rfl, .ty _, .base (.tup (by assumption)), kit_ty (r := true) (by decide +kernel), ?_⟩
  | refine ⟨_, _, _, _, _, rfl, .ty _, .base (.bl _), kit_ty (r := true) (by decide +kernel), ?_⟩
  | refine iteF ?_
  | refine iteT ?_
  | refine .inl ⟨_, rfl, ?_⟩
  | refine ⟨rfl, ?_⟩)
local macro_rules | `(tactic| walk_at "rd") => `(tactic| repeat walk_at "rd1")

def spRatio : Sp := fun vs H Q _ => ∃ (t b : Int), vs = [.int t, .int b] ∧ b ≠ 0 ∧ b.natAbs < 2 ^ 800 ∧
  ∀ (p : Addr) (H' : Hp), H' p = some (.tup [.int (rat t b).1, .int (rat t b).2]) → Same H H' → Q (.ref p) H'
def spBin (K : PySem.W.Frag) (g : Int → Int → Int → Int → Int × Int) : Sp := fun vs H Q _ => ∃ (a b : Addr) (n d n' d' : Int), vs = [.ref a, .ref b] ∧ SqT K H a [.int n, .int d] ∧ SqT K H b [.int n', .int d'] ∧
  n.natAbs < 2 ^ 300 ∧ d.natAbs < 2 ^ 300 ∧ n'.natAbs < 2 ^ 300 ∧ d'.natAbs < 2 ^ 300 ∧ (g n d n' d').2 ≠ 0 ∧
  ∀ (p : Addr) (H' : Hp), H' p = some (.tup [.int (rat (g n d n' d').1 (g n d n' d').2).1, .int (rat (g n d n' d').1 (g n d n' d').2).2]) → Same H H' → Q (.ref p) H'
def spSign (K : PySem.W.Frag) : Sp := fun vs H Q _ => ∃ (a : Addr) (n d : Int), vs = [.ref a] ∧ SqT K H a [.int n, .int d] ∧ Q (.int (sg n)) H
theorem gdiv {x t b : Int} (hb : b ≠ 0) (h : b.natAbs < 2 ^ 800) : CDivW x ((Nat.gcd t.natAbs b.natAbs : Nat) : Int) := by
  have g0 : 0 < Nat.gcd t.natAbs b.natAbs := Nat.gcd_pos_of_pos_right _ (by omega)
  have g1 : Nat.gcd t.natAbs b.natAbs ≤ b.natAbs := Nat.gcd_le_right _ (by omega)
  exact wide_div (b := 800) (by omega) (by rw [Int.natAbs_natCast]; exact Nat.lt_of_le_of_lt g1 h) (by decide) (by decide)
theorem m800 {x y : Int} (hx : x.natAbs < 2 ^ 300) (hy : y.natAbs < 2 ^ 300) : (x * y).natAbs < 2 ^ 800 :=
  Nat.lt_trans (mul_lt hx hy) (Nat.pow_lt_pow_right (by decide) (by decide))
section
variable {P : Program} {w : World} {K : PySem.W.Frag} {mg : Str → Option Value} {base : Heap}
theorem ok_ratio (T : Txt K mg) : FnOk P w K mg base CX0 1 T.a_ratio T.d_ratio ["top", "bottom"] spRatio := by
  refine T.f_ratio.ok sc_ratio (fun vs H Q E h => ?_) (fun cdv A outer s H vs Q E hr h => ?_)
  · obtain ⟨t, b, rfl, _⟩ := h
    rfl
  · obtain ⟨t, b, rfl, b0, b1, k⟩ := h
    have nd := sc_ratio.nd
    refine ⟨_, (pss_cons (ps_if (pt_cmpR op_lt (pv 1) pe_int (nomark _)) (pss_cons (ps_set (i := 0) nd rfl (Or.inl rfl) (pe_un un_neg (pv 0)))
  (pss_one (ps_set (i := 1) nd rfl (Or.inl rfl) (pe_un un_neg (pv 1))))) pss_nil)
  (pss_cons (ps_set (i := 2) nd rfl (Or.inl rfl) (pe_callBfun cr_gcd (by rfl) T.g_gcd (pa_cons (pv 0) (pa_cons (pv 1) pa_nil))))
  (pss_one (ps_ret (pe_tup (pa_cons (pe_op op_fdivW (pv 0) (pv 2)) (pa_cons (pe_op op_fdivW (pv 1) (pv 2)) pa_nil))))))), ?_⟩
    walk_at "rd"
    refine ite2 (fun h => ?_) (fun h => ?_)
    · have h1 : b < 0 := of_decide_eq_true h
      have k' : ∀ (p : Addr) (H' : Hp), H' p = some (.tup [.int ((-t) / ((Nat.gcd (-t).natAbs (-b).natAbs : Nat) : Int)), .int ((-b) / ((Nat.gcd (-t).natAbs (-b).natAbs : Nat) : Int))]) → Same H H' → Q (.ref p) H' := by
        unfold rat at k
        rw [if_pos h1] at k
        exact k
      have c : ∀ x, CDivW x ((Nat.gcd (-t).natAbs (-b).natAbs : Nat) : Int) := fun x => gdiv (by omega) (by rw [Int.natAbs_neg]; exact b1)
      walk_at "rd"
      refine ⟨c _, ?_⟩
      walk_at "rd"
      refine ⟨c _, ?_⟩
      walk_at "rd"
      intro p1 np1
      generalize e1 : upd H p1 _ = H1
      have hp1 := updE e1
      have s1 := updS np1 e1
      exact k' _ _ hp1 s1
    · have h1 : ¬ b < 0 := fun q => h (decide_eq_true q)
      have k' : ∀ (p : Addr) (H' : Hp), H' p = some (.tup [.int (t / ((Nat.gcd t.natAbs b.natAbs : Nat) : Int)), .int (b / ((Nat.gcd t.natAbs b.natAbs : Nat) : Int))]) → Same H H' → Q (.ref p) H' := by
        unfold rat at k
        rw [if_neg h1] at k
        exact k
      have c : ∀ x, CDivW x ((Nat.gcd t.natAbs b.natAbs : Nat) : Int) := fun x => gdiv b0 b1
      walk_at "rd"
      refine ⟨c _, ?_⟩
      walk_at "rd"
      refine ⟨c _, ?_⟩
      walk_at "rd"
      intro p1 np1
      generalize e1 : upd H p1 _ = H1
      have hp1 := updE e1
      have s1 := updS np1 e1
      exact k' _ _ hp1 s1
theorem ok_plus (T : Txt K mg) : FnOk P w K mg base CX0 2 T.a_plus T.d_plus ["a", "b"] (spBin K fun n d n' d' => (n * d' + n' * d, d * d')) := by
  refine T.f_plus.ok sc_plus (fun vs H Q E h => ?_) (fun cdv A outer s H vs Q E hr h => ?_)
  · obtain ⟨a, b, n, d, n', d', rfl, _⟩ := h
    rfl
  · obtain ⟨a, b, n, d, n', d', rfl, h1, h2, n1, d1, n2, d2, nz, k⟩ := h
    have nd := sc_plus.nd
    have mm := m800 d1 d2
    refine ⟨_, (pss_one (ps_ret (pe_call (ok_ratio T) (hr.mono (by decide)) rfl T.g_ratio T.k_ratio T.b_ratio .nil pass0 (pa_cons (pe_op op_add (pe_op op_mulW (pe_ix ix_tup (pv 0) pe_int (fun _ _ => rfl)) (pe_ix ix_tup (pv 1) pe_int (fun _ _ => rfl))) (pe_op op_mulW (pe_ix ix_tup (pv 1) pe_int (fun _ _ => rfl)) (pe_ix ix_tup (pv 0) pe_int (fun _ _ => rfl)))) (pa_cons (pe_op op_mulW (pe_ix ix_tup (pv 0) pe_int (fun _ _ => rfl)) (pe_ix ix_tup (pv 1) pe_int (fun _ _ => rfl))) pa_nil))))), ?_⟩
    walk_at "rd"
theorem ok_minus (T : Txt K mg) : FnOk P w K mg base CX0 2 T.a_minus T.d_minus ["a", "b"] (spBin K fun n d n' d' => (n * d' - n' * d, d * d')) := by
  refine T.f_minus.ok sc_minus (fun vs H Q E h => ?_) (fun cdv A outer s H vs Q E hr h => ?_)
  · obtain ⟨a, b, n, d, n', d', rfl, _⟩ := h
    rfl
  · obtain ⟨a, b, n, d, n', d', rfl, h1, h2, n1, d1, n2, d2, nz, k⟩ := h
    have nd := sc_minus.nd
    have mm := m800 d1 d2
    refine ⟨_, (pss_one (ps_ret (pe_call (ok_ratio T) (hr.mono (by decide)) rfl T.g_ratio T.k_ratio T.b_ratio .nil pass0 (pa_cons (pe_op op_sub (pe_op op_mulW (pe_ix ix_tup (pv 0) pe_int (fun _ _ => rfl)) (pe_ix ix_tup (pv 1) pe_int (fun _ _ => rfl))) (pe_op op_mulW (pe_ix ix_tup (pv 1) pe_int (fun _ _ => rfl)) (pe_ix ix_tup (pv 0) pe_int (fun _ _ => rfl)))) (pa_cons (pe_op op_mulW (pe_ix ix_tup (pv 0) pe_int (fun _ _ => rfl)) (pe_ix ix_tup (pv 1) pe_int (fun _ _ => rfl))) pa_nil))))), ?_⟩
    walk_at "rd"
theorem ok_times (T : Txt K mg) : FnOk P w K mg base CX0 2 T.a_times T.d_times ["a", "b"] (spBin K fun n d n' d' => (n * n', d * d')) := by
  refine T.f_times.ok sc_times (fun vs H Q E h => ?_) (fun cdv A outer s H vs Q E hr h => ?_)
  · obtain ⟨a, b, n, d, n', d', rfl, _⟩ := h
    rfl
  · obtain ⟨a, b, n, d, n', d', rfl, h1, h2, n1, d1, n2, d2, nz, k⟩ := h
    have nd := sc_times.nd
    have mm := m800 d1 d2
    refine ⟨_, (pss_one (ps_ret (pe_call (ok_ratio T) (hr.mono (by decide)) rfl T.g_ratio T.k_ratio T.b_ratio .nil pass0 (pa_cons (pe_op op_mulW (pe_ix ix_tup (pv 0) pe_int (fun _ _ => rfl)) (pe_ix ix_tup (pv 1) pe_int (fun _ _ => rfl))) (pa_cons (pe_op op_mulW (pe_ix ix_tup (pv 0) pe_int (fun _ _ => rfl)) (pe_ix ix_tup (pv 1) pe_int (fun _ _ => rfl))) pa_nil))))), ?_⟩
    walk_at "rd"
theorem ok_over (T : Txt K mg) : FnOk P w K mg base CX0 2 T.a_over T.d_over ["a", "b"] (spBin K fun n d n' d' => (n * d', d * n')) := by
  refine T.f_over.ok sc_over (fun vs H Q E h => ?_) (fun cdv A outer s H vs Q E hr h => ?_)
  · obtain ⟨a, b, n, d, n', d', rfl, _⟩ := h
    rfl
  · obtain ⟨a, b, n, d, n', d', rfl, h1, h2, n1, d1, n2, d2, nz, k⟩ := h
    have nd := sc_over.nd
    have mm := m800 d1 n2
    refine ⟨_, (pss_one (ps_ret (pe_call (ok_ratio T) (hr.mono (by decide)) rfl T.g_ratio T.k_ratio T.b_ratio .nil pass0 (pa_cons (pe_op op_mulW (pe_ix ix_tup (pv 0) pe_int (fun _ _ => rfl)) (pe_ix ix_tup (pv 1) pe_int (fun _ _ => rfl))) (pa_cons (pe_op op_mulW (pe_ix ix_tup (pv 0) pe_int (fun _ _ => rfl)) (pe_ix ix_tup (pv 1) pe_int (fun _ _ => rfl))) pa_nil))))), ?_⟩
    walk_at "rd"
theorem ok_sign_of (T : Txt K mg) : FnOk P w K mg base CX0 1 T.a_sign_of T.d_sign_of ["a"] (spSign K) := by
  refine T.f_sign_of.ok sc_sign_of (fun vs H Q E h => ?_) (fun cdv A outer s H vs Q E hr h => ?_)
  · obtain ⟨a, n, d, rfl, _⟩ := h
    rfl
  · obtain ⟨a, n, d, rfl, h1, k⟩ := h
    have nd := sc_sign_of.nd
    refine ⟨_, (pss_cons (ps_if (pt_cmpR op_gt (pe_ix ix_tup (pv 0) pe_int (fun _ _ => rfl)) pe_int (nomark _)) (pss_one (ps_ret pe_int)) pss_nil)
  (pss_cons (ps_if (pt_cmpR op_lt (pe_ix ix_tup (pv 0) pe_int (fun _ _ => rfl)) pe_int (nomark _)) (pss_one (ps_ret (pe_un un_neg pe_int))) pss_nil)
  (pss_one (ps_ret pe_int)))), ?_⟩
    unfold sg at k
    walk_at "rd"
    refine ite2 (fun h => ?_) (fun h => ?_)
    · rw [if_pos (of_decide_eq_true h)] at k
      exact k
    · rw [if_neg fun q => h (decide_eq_true q)] at k
      walk_at "rd"
      refine ite2 (fun h => ?_) (fun h => ?_)
      · rw [if_pos (of_decide_eq_true h)] at k
        walk_at "rd"
      · rw [if_neg fun q => h (decide_eq_true q)] at k
        exact k
end

end Toy
namespace Toy
open PySem L2
/-- one step of a reading, where nothing is asked -/
local macro_rules | `(tactic| walk_at "rd1") => `(tactic| first
  | with_reducible assumption
  | refine ⟨_, rfl, ?_⟩
  | refine ⟨_, _, rfl, rfl, ?_⟩
  | refine ⟨_, _, rfl, dg (by assumption) mk_left, ?_⟩
  | refine ⟨_, _, rfl, dg (by assumption) mk_seed, ?_⟩
  | refine ⟨_, _, rfl, dg (by assumption) mk_cells, ?_⟩
  | refine ⟨_, _, rfl, dg (by assumption) mk_spot, ?_⟩
  | refine And.intro (by (try dsimp only); first | assumption | omega | decide +kernel) ?_
  | refine And.intro ⟨by decide, by decide, by decide⟩ ?_
  | refine And.intro ⟨by omega, by omega⟩ ?_
  | refine And.intro (.inl ⟨by omega, by omega⟩) ?_
  | refine And.intro (.inr ⟨by omega, by omega⟩) ?_
  | refine ⟨_, _, rfl, ?_⟩
  | refine ⟨_, _, rfl, .inl (SqL.of (by assumption)), ?_⟩
  | refine ⟨_, _, rfl, .inr (SqT.of (by assumption)), ?_⟩
  | refine ⟨_, _, _, _, rfl, rfl, SqL.of (by assumption), (by assumption), ?_⟩
  | refine ⟨_, _, _, _, rfl, rfl, SqT.of (by assumption), (by assumption), ?_⟩
  | refine ⟨_, _, rfl, (by assumption), ?_⟩
  | refine ⟨_, _, _, _, rfl, rfl, (by assumption), (by assumption), sz (by first | omega | (simp only [List.length_map, List.length_append, List.length_cons, List.length_nil]; omega)), ?_⟩
  | refine And.intro (sz (Nat.le_of_ble_eq_true rfl)) ?_
  | refine ⟨_, _, _, _, rfl, rfl, (by assumption), (atI_nat (j := 0) rfl), ?_⟩
  | refine ⟨_, _, _, _, rfl, rfl, (by assumption), (atI_nat (j := 1) rfl), ?_⟩
  | refine And.intro (wide_mul (a := 300) (b := 300) (by assumption) (by assumption) (by decide) (by decide) (by decide)) ?_
  | refine ⟨_, _, _, _, _, rfl, .ty _, .base (.int _), kit_ty (r := true) (by decide +kernel), ?_⟩
  | refine ⟨_, _, _, _, _, rfl, .ty _, .base (.int _), kit_ty (r := false) (by decide +kernel), ?_⟩
  | refine ⟨_, _, _, _, _, rfl, .ty _, .base (.tup (by assumption)), kit_ty (r := true) (by decide +kernel), ?_⟩
  | refine ⟨_, _, _, _, _, rfl, .ty _, .base (.bl _), kit_ty (r := true) (by decide +kernel), ?_⟩
  | refine iteF ?_
  | refine iteT ?_
  | refine .inl ⟨_, rfl, ?_⟩
  | refine ⟨rfl, ?_⟩)
local macro_rules | `(tactic| walk_at "rd") => `(tactic| repeat walk_at "rd1")

def est (p : Nat × Nat) : Nat × Nat := if p.2 = 0 then p else (p.2, p.1 % p.2)
theorem eu_succ : ∀ (k a b : Nat), eu (k + 1) a b = est (eu k a b)
  | 0, a, b => by
    unfold est eu eu
    by_cases h : b = 0
    · rw [if_pos h]
    · rw [if_neg h]
  | k + 1, a, b => by
    by_cases h : b = 0
    · have e : ∀ j, eu j a b = (a, b) := fun j => by
        cases j with
        | zero => rfl
        | succ j => unfold eu; rw [if_pos h]
      rw [e, e]
      unfold est
      rw [if_pos h]
    · have e : ∀ j, eu (j + 1) a b = eu j b (a % b) := fun j => by
        show (if b = 0 then (a, b) else eu j b (a % b)) = _
        rw [if_neg h]
      rw [e, e, eu_succ k]
/-- n / d stands for t / b, in lowest terms -/
def Rt (t b n d : Int) : Prop := 1 ≤ d ∧ Nat.gcd n.natAbs d.natAbs = 1 ∧ n * b = d * t
theorem rt_of {t b X Y : Int} (hY : Y ≠ 0) (e : X * b = Y * t) : Rt t b (rat X Y).1 (rat X Y).2 := by
  have r := rat_is (t := X) hY
  refine ⟨r.pos, r.co, ?_⟩
  have h := r.eq
  generalize (rat X Y).1 = N at *
  generalize (rat X Y).2 = D at *
  have h1 : Y * (N * b) = Y * (D * t) := by grind
  exact Int.eq_of_mul_eq_mul_left hY h1
theorem rt_self {t b : Int} (hb : b ≠ 0) : Rt t b (rat t b).1 (rat t b).2 := rt_of hb (Int.mul_comm t b)
def spShared : Sp := fun vs H Q _ => ∃ (a b : Int), vs = [.int a, .int b] ∧ b.natAbs < 2 ^ 270 ∧ Q (.int ((Nat.gcd a.natAbs b.natAbs : Nat) : Int)) H
def spIsRatio : Sp := fun vs H Q _ => ∃ (p : Addr) (n d : Int), vs = [.ref p] ∧ H p = some (.tup [.int n, .int d]) ∧ d.natAbs < 2 ^ 270 ∧ 1 ≤ d ∧ Nat.gcd n.natAbs d.natAbs = 1 ∧ Q (.bl true) H
def spRight : Sp := fun vs H Q _ => ∃ (p : Addr) (n d t b : Int), vs = [.ref p, .int t, .int b] ∧ H p = some (.tup [.int n, .int d]) ∧ Rt t b n d ∧ n.natAbs < 2 ^ 300 ∧ d.natAbs < 2 ^ 270 ∧ t.natAbs < 2 ^ 300 ∧ b.natAbs < 2 ^ 300 ∧ Q (.bl true) H
def spPair : Sp := fun vs H Q _ => ∃ (m : Addr) (n : Nat) (c : Int), vs = [.ref m, .int c] ∧ DrAt H m n ∧ n ≤ 100 ∧
  ∀ (p : Addr) (t b : Int) (H' : Hp), H' p = some (.tup [.int t, .int b]) → DrAt H' m (n + 6) → St H H' → b ≠ 0 → t.natAbs < 2 ^ 133 → b.natAbs < 2 ^ 100 → Q (.ref p) H'
section
variable {P : Program} {w : World} {K : PySem.W.Frag} {mg : Str → Option Value} {base : Heap}
theorem ok_law_shared (T : Txt K mg) : FnOk P w K mg base CX0 1 T.a_law_shared T.d_law_shared ["a", "b"] spShared := by
  refine T.f_law_shared.ok sc_law_shared (fun vs H Q E h => ?_) (fun cdv A outer s H vs Q E hr h => ?_)
  · obtain ⟨a, b, rfl, _⟩ := h
    rfl
  · obtain ⟨a, b, rfl, hb, k⟩ := h
    have nd := sc_law_shared.nd
    refine ⟨_, (pss_cons (ps_par (i := 0) (j := 1) (by rfl) nd rfl rfl (by decide) rfl rfl (pa_cons (pe_callB call_abs (by rfl) T.n_abs (by decide +kernel) (pa_cons (pv 0) pa_nil)) (pa_cons (pe_callB call_abs (by rfl) T.n_abs (by decide +kernel) (pa_cons (pv 1) pa_nil)) pa_nil)) (by rfl))
  (pss_cons (ps_for PassesOwn.never rfl (pi_range1 (by rfl) T.n_range (pa_cons pe_int pa_nil)) (pg_name (i := 2) nd rfl (Or.inl rfl))
  (pss_one (ps_if (pt_cmpR op_ne (pv 1) pe_int (nomark _)) (pss_one (ps_par (i := 0) (j := 1) (by rfl) nd rfl rfl (by decide) rfl rfl (pa_cons (pv 1) (pa_cons (pe_op op_mod (pe_callTy call_int1 (by rfl) T.n_int (by decide +kernel) (pa_cons (pv 0) pa_nil)) (pv 1)) pa_nil)) (by rfl))) pss_nil)))
  (pss_one (ps_ret (pv 0))))), ?_⟩
    walk_at "rd"
    have ab : ∀ x : Int, (if x < 0 then -x else x) = ((x.natAbs : Nat) : Int) := fun x => by
      by_cases h : x < 0
      · rw [if_pos h]; omega
      · rw [if_neg h]; omega
    refine for_range (lo := 0) (n := 400) (fun j σ H' => H' = H ∧ ∃ v : Option V, σ = [some (.int ((eu j a.natAbs b.natAbs).1 : Nat)), some (.int ((eu j a.natAbs b.natAbs).2 : Nat)), v])
      ⟨rfl, none, by rw [ab, ab]; rfl⟩ ?_ ?_
    · rintro j σ H' hj ⟨rfl, v, rfl⟩
      walk_at "rd"
      have es := eu_succ j a.natAbs b.natAbs
      unfold est at es
      generalize eu j a.natAbs b.natAbs = p at *
      refine ite2 (fun h => ?_) (fun h => ?_)
      · have h1 : p.2 ≠ 0 := by
          intro q
          rw [q] at h
          exact absurd h (by decide)
        rw [if_neg h1] at es
        have h2 : (0 : Int) < ((p.2 : Nat) : Int) := by omega
        walk_at "rd"
        exact ⟨_, by rw [es]; rfl⟩
      · have h1 : p.2 = 0 := by
          by_cases q : p.2 = 0
          · exact q
          · exfalso
            apply h
            rw [decide_eq_false]
            · rfl
            · intro z
              injection z with z
              omega
        rw [if_pos h1] at es
        exact ⟨rfl, _, by rw [es]; rfl⟩
    · rintro σ H' ⟨rfl, v, rfl⟩
      walk_at "rd"
      show Q (.int (((eu 400 a.natAbs b.natAbs).1 : Nat) : Int)) _
      rw [eu_done hb]
      exact k
theorem ok_law_is_ratio (T : Txt K mg) : FnOk P w K mg base CX0 2 T.a_law_is_ratio T.d_law_is_ratio ["value"] spIsRatio := by
  refine T.f_law_is_ratio.ok sc_law_is_ratio (fun vs H Q E h => ?_) (fun cdv A outer s H vs Q E hr h => ?_)
  · obtain ⟨p, n, d, rfl, _⟩ := h
    rfl
  · obtain ⟨p, n, d, rfl, hp, hb, hd, hg, k⟩ := h
    have nd := sc_law_is_ratio.nd
    refine ⟨_, (pss_cons (ps_if (PW.pt (pw_or (pt_not (pt_val (pe_callB call_isi (by rfl) T.n_isinstance (by decide +kernel) (pa_cons (pv 0) (pa_cons (pe_bltn (v := .ty "tuple") (by rfl) T.n_tuple (by decide +kernel) rfl) pa_nil))))) (pw_or1 (pt_cmpR op_ne (pe_callB call_len_seq (by rfl) T.n_len (by decide +kernel) (pa_cons (pv 0) pa_nil)) pe_int (nomark _))))) (pss_one (ps_ret pe_bl)) pss_nil)
  (pss_cons (ps_for PassesOwn.never rfl (pi_tup (pv 0)) (pg_name (i := 1) nd rfl (Or.inl rfl))
  (pss_one (ps_if (PW.pt (pw_or (pt_not (pt_val (pe_callB call_isi (by rfl) T.n_isinstance (by decide +kernel) (pa_cons (pv 1) (pa_cons (pe_bltn (v := .ty "int") (by rfl) T.n_int (by decide +kernel) rfl) pa_nil))))) (pw_or1 (pt_val (pe_callB call_isi (by rfl) T.n_isinstance (by decide +kernel) (pa_cons (pv 1) (pa_cons (pe_bltn (v := .ty "bool") (by rfl) T.n_bool (by decide +kernel) rfl) pa_nil))))))) (pss_one (ps_ret pe_bl)) pss_nil)))
  (pss_one (ps_ret (pe_and (pe_cmpR op_ge (pe_ix ix_tup (pv 0) pe_int (fun _ _ => rfl)) pe_int (nomark _)) (pe_one (pe_cmpR op_eq (pe_call (ok_law_shared T) (hr.mono (by decide)) rfl T.g_law_shared T.k_law_shared T.b_law_shared .nil pass0 (pa_cons (pe_ix ix_tup (pv 0) pe_int (fun _ _ => rfl)) (pa_cons (pe_ix ix_tup (pv 0) pe_int (fun _ _ => rfl)) pa_nil))) pe_int (nomark _)))))))), ?_⟩
    have hq : SqT K H p [V.int n, V.int d] := SqT.of hp
    walk_at "rd"
    refine ⟨⟨_, hq⟩, for_tup (K := K) (a := p) (xs := [.int n, .int d]) (fun j σ H' => H' = H ∧ ∃ v : Option V, σ = [some (.ref p), v]) ⟨rfl, none, rfl⟩ (fun j σ H' _ ⟨e, _⟩ => by rw [e]; exact hq) ?_ ?_⟩
    · rintro j x σ H' hx ⟨rfl, v, rfl⟩
      obtain ⟨z, rfl, _⟩ := int_item (ns := [n, d]) hx
      walk_at "rd"
      exact ⟨_, rfl⟩
    · rintro σ H' ⟨rfl, v, rfl⟩
      walk_at "rd"
      refine ite2 (fun _ => ?_) (fun h => absurd (decide_eq_true hd) h)
      walk_at "rd"
      show Q (.bl (decide (V.int ((Nat.gcd n.natAbs d.natAbs : Nat) : Int) = V.int 1))) _
      rw [hg]
      exact k
theorem ok_law_is_right (T : Txt K mg) : FnOk P w K mg base CX0 3 T.a_law_is_right T.d_law_is_right ["found", "top", "bottom"] spRight := by
  refine T.f_law_is_right.ok sc_law_is_right (fun vs H Q E h => ?_) (fun cdv A outer s H vs Q E hr h => ?_)
  · obtain ⟨p, n, d, t, b, rfl, _⟩ := h
    rfl
  · obtain ⟨p, n, d, t, b, rfl, hp, R, n1, d1, t1, b1, k⟩ := h
    have nd := sc_law_is_right.nd
    have hq : SqT K H p [V.int n, V.int d] := SqT.of hp
    have d2 : d.natAbs < 2 ^ 300 := Nat.lt_trans d1 (by decide)
    refine ⟨_, (pss_one (ps_ret (pe_and (pe_call (ok_law_is_ratio T) (hr.mono (by decide)) rfl T.g_law_is_ratio T.k_law_is_ratio T.b_law_is_ratio .nil pass0 (pa_cons (pv 0) pa_nil)) (pe_one (pe_cmpR op_eq (pe_op op_mulW (pe_ix ix_tup (pv 0) pe_int (fun _ _ => rfl)) (pv 2)) (pe_op op_mulW (pe_ix ix_tup (pv 0) pe_int (fun _ _ => rfl)) (pv 1)) (nomark _)))))), ?_⟩
    walk_at "rd"
    refine ⟨_, _, _, rfl, hp, d1, R.1, R.2.1, ?_⟩
    walk_at "rd"
    show Q (.bl (decide (V.int (n * b) = V.int (d * t)))) _
    rw [R.2.2, decide_eq_true rfl]
    exact k
theorem ok_law_pair (T : Txt K mg) : FnOk P w K mg base CX0 2 T.a_law_pair T.d_law_pair ["m", "cell"] spPair := by
  refine T.f_law_pair.ok sc_law_pair (fun vs H Q E h => ?_) (fun cdv A outer s H vs Q E hr h => ?_)
  · obtain ⟨m, n, c, rfl, _⟩ := h
    rfl
  · obtain ⟨m, n, c, rfl, D, hn, k⟩ := h
    have nd := sc_law_pair.nd
    refine ⟨_, (pss_cons (ps_set (i := 2) nd rfl (Or.inl rfl) (pe_ix ix_list (pe_lst (pa_cons pe_int (pa_cons pe_int (pa_cons (pe_op op_pow pe_int pe_int) pa_nil)))) (pe_call (ok_law_draw T) (hr.mono (by decide)) rfl T.g_law_draw T.k_law_draw T.b_law_draw .nil pass0 (pa_cons (pv 0) (pa_cons pe_int pa_nil))) (fun _ _ => rfl)))
  (pss_cons (ps_par (i := 3) (j := 4) (by rfl) nd rfl rfl (by decide) rfl rfl (pa_cons (pe_op op_sub (pe_call (ok_law_draw T) (hr.mono (by decide)) rfl T.g_law_draw T.k_law_draw T.b_law_draw .nil pass0 (pa_cons (pv 0) (pa_cons (pe_op op_add (pe_op op_mul pe_int (pv 2)) pe_int) pa_nil))) (pv 2)) (pa_cons (pe_op op_add pe_int (pe_call (ok_law_draw T) (hr.mono (by decide)) rfl T.g_law_draw T.k_law_draw T.b_law_draw .nil pass0 (pa_cons (pv 0) (pa_cons (pv 2) pa_nil)))) pa_nil)) (by rfl))
  (pss_cons (ps_if (pt_cmpR op_eq (pe_call (ok_law_draw T) (hr.mono (by decide)) rfl T.g_law_draw T.k_law_draw T.b_law_draw .nil pass0 (pa_cons (pv 0) (pa_cons pe_int pa_nil))) pe_int (nomark _)) (pss_one (ps_set (i := 3) nd rfl (Or.inl rfl) (pe_op op_sub (pe_op op_mod (pe_callTy call_int1 (by rfl) T.n_int (by decide +kernel) (pa_cons (pv 1) pa_nil)) (pe_op op_pow pe_int pe_int)) (pe_op op_mul pe_int (pe_op op_pow pe_int pe_int))))) pss_nil)
  (pss_cons (ps_if (pt_cmpR op_eq (pe_call (ok_law_draw T) (hr.mono (by decide)) rfl T.g_law_draw T.k_law_draw T.b_law_draw .nil pass0 (pa_cons (pv 0) (pa_cons pe_int pa_nil))) pe_int (nomark _)) (pss_one (ps_set (i := 4) nd rfl (Or.inl rfl) (pe_op op_add pe_int (pe_op op_mod (pe_callTy call_int1 (by rfl) T.n_int (by decide +kernel) (pa_cons (pv 1) pa_nil)) (pe_op op_pow pe_int pe_int))))) pss_nil)
  (pss_one (ps_ret (pe_tup (pa_cons (pv 3) (pa_cons (pe_ifExp (pt_cmpR op_eq (pe_call (ok_law_draw T) (hr.mono (by decide)) rfl T.g_law_draw T.k_law_draw T.b_law_draw .nil pass0 (pa_cons (pv 0) (pa_cons pe_int pa_nil))) pe_int (nomark _)) (pe_un un_neg (pv 4)) (pv 4)) pa_nil))))))))), ?_⟩
    walk_at "rd"
    intro p1 np1
    generalize e1 : upd H p1 _ = H1
    have hp1 := updE e1
    have s1 := updS np1 e1
    first | replace D := s1 _ _ D | replace D := s1.seq D | replace D := sameSqt s1 D | replace D := sameDr s1 D
    walk_at "rd"
    refine ⟨_, _, _, rfl, D, by omega, by decide, by decide, fun r1 H2 r1a r1b D2 st2 => ?_⟩
    first | replace hp1 := st2 _ _ hp1 rfl | replace hp1 := st2 _ _ hp1 | replace hp1 := st2.seq hp1 | replace hp1 := st2.sqt hp1 | replace hp1 := sameSqt st2 hp1 | replace hp1 := sameDr st2 hp1
    obtain ⟨wd, hw, hat⟩ := at_int (cs := [12, 1000, 10 ^ (12 : Int).toNat]) r1a r1b
    have w1 : 1 ≤ wd ∧ wd ≤ 1000000000000 := by
      have hm := List.mem_of_getElem? hw
      simp only [List.mem_cons, List.not_mem_nil, or_false] at hm
      rcases hm with rfl | rfl | rfl <;> decide
    walk_at "rd"
    refine ⟨_, _, _, rfl, D2, by omega, by omega, by omega, fun r3 H3 r3a r3b D3 st3 => ?_⟩
    walk_at "rd"
    refine ⟨_, _, _, rfl, D3, by omega, by omega, by omega, fun r4 H4 r4a r4b D4 st4 => ?_⟩
    walk_at "rd"
    refine ⟨_, _, _, rfl, D4, by omega, by omega, by omega, fun r5 H5 r5a r5b D5 st5 => ?_⟩
    have g40 : (10 : Int) ^ (40 : Int).toNat = 10000000000000000000000000000000000000000 := by decide +kernel
    have g39 : (10 : Int) ^ (39 : Int).toNat = 1000000000000000000000000000000000000000 := by decide +kernel
    have g30 : (10 : Int) ^ (30 : Int).toNat = 1000000000000000000000000000000 := by decide +kernel
    walk_at "rd"
    refine ite2 (fun _ => ?_) (fun _ => ?_)
    all_goals
      walk_at "rd"
      refine ⟨_, _, _, rfl, D5, by omega, by omega, by omega, fun r6 H6 r6a r6b D6 st6 => ?_⟩
      walk_at "rd"
      refine ite2 (fun _ => ?_) (fun _ => ?_)
      all_goals
        walk_at "rd"
        refine ⟨_, _, _, rfl, D6, by omega, by omega, by omega, fun r7 H7 r7a r7b D7 st7 => ?_⟩
        walk_at "rd"
        refine ite2 (fun _ => ?_) (fun _ => ?_)
        all_goals
          walk_at "rd"
          intro p8 np8
          generalize e8 : upd H7 p8 _ = H8
          have hp8 := updE e8
          have s8 := updS np8 e8
          first | replace D7 := s8 _ _ D7 | replace D7 := s8.seq D7 | replace D7 := sameSqt s8 D7 | replace D7 := sameDr s8 D7
          refine k _ _ _ _ hp8 D7 (fun b o e d => s8 _ _ (st7 _ _ (st6 _ _ (st5 _ _ (st4 _ _ (st3 _ _ (st2 _ _ (s1 _ _ e) d) d) d) d) d) d)) ?_ ?_ ?_ <;> omega
end

end Toy
namespace Toy
open PySem L2
local macro_rules | `(tactic| walk_at "rd1") => `(tactic| first
  | with_reducible assumption
  | refine ⟨_, rfl, ?_⟩
  | refine ⟨_, _, rfl, rfl, ?_⟩
  | refine ⟨_, _, rfl, ?_⟩
  | refine ⟨_, _, rfl, dg (by assumption) mk_left, ?_⟩
  | refine ⟨_, _, rfl, dg (by assumption) mk_seed, ?_⟩
  | refine ⟨_, _, rfl, dg (by assumption) mk_cells, ?_⟩
  | refine ⟨_, _, rfl, dg (by assumption) mk_spot, ?_⟩
  | refine ⟨_, _, rfl, .inl (SqL.of (by assumption)), ?_⟩
  | refine ⟨_, _, rfl, .inr (SqT.of (by assumption)), ?_⟩
  | refine ⟨_, _, rfl, .inl (by assumption), ?_⟩
  | refine ⟨_, _, rfl, .inr (by assumption), ?_⟩
  | refine ⟨_, _, _, _, rfl, rfl, SqL.of (by assumption), (by assumption), ?_⟩
  | refine ⟨_, _, _, _, rfl, rfl, SqT.of (by assumption), (by assumption), ?_⟩
  | refine ⟨_, _, _, _, rfl, rfl, (by assumption), (atI_nat (j := 0) rfl), ?_⟩
  | refine ⟨_, _, _, _, rfl, rfl, (by assumption), (atI_nat (j := 1) rfl), ?_⟩
  | refine ⟨_, _, _, _, _, rfl, .ty _, .base (.int _), kit_ty (r := true) (by decide +kernel), ?_⟩
  | refine ⟨_, _, _, _, _, rfl, .ty _, .base (.int _), kit_ty (r := false) (by decide +kernel), ?_⟩
  | refine ⟨_, _, _, _, _, rfl, .ty _, .base (.tup (by assumption)), kit_ty (r := true) (by decide +kernel), ?_⟩
  | refine ⟨_, _, _, _, _, rfl, .ty _, .base (.bl _), kit_ty (r := true) (by decide +kernel), ?_⟩
  | refine .inl ⟨_, rfl, ?_⟩
  | refine And.intro (wide_mul (a := 300) (b := 300) (by assumption) (by assumption) (by decide) (by decide) (by decide)) ?_
  | refine And.intro (sz (Nat.le_of_ble_eq_true rfl)) ?_
  | refine And.intro rfl ?_
  | refine And.intro (show (_ : Int) < _ from by first | assumption | omega | decide +kernel) ?_
  | refine And.intro (show (_ : Int) ≤ _ from by first | assumption | omega | decide +kernel) ?_
  | refine And.intro (show _ ≠ _ from by first | assumption | omega) ?_
  | refine And.intro ⟨by decide, by decide, by decide⟩ ?_
  | refine And.intro (.inl (show (_ : Int) < _ ∧ (_ : Int) < _ from ⟨by omega, by omega⟩)) ?_
  | refine And.intro (.inr (show (_ : Int) < _ ∧ (_ : Int) < _ from ⟨by omega, by omega⟩)) ?_
  | refine And.intro (show (_ : Int) < _ ∧ _ from ⟨by omega, by omega⟩) ?_
  | refine And.intro (by assumption) ?_
  | refine ⟨_, _, rfl, (by assumption), ?_⟩
  | refine ⟨_, _, _, _, rfl, rfl, (by assumption), (by assumption), sz (by first | omega | (simp only [List.length_map, List.length_append, List.length_cons, List.length_nil]; omega)), ?_⟩
  | refine iteF ?_
  | refine iteT ?_)
local macro_rules | `(tactic| walk_at "rd") => `(tactic| repeat walk_at "rd1")

def spLaw (K : PySem.W.Frag) : Sp := fun vs H Q _ => ∃ (a : Addr) (ns : List Int), vs = [.ref a] ∧ SqL K H a (ns.map V.int) ∧ ns.length ≤ 63 ∧ ∀ H', Q (.bl true) H'
theorem ite_val {c : Bool} {ta tb : TE} {σ : L2.St} {H : Hp} {Q : VK} (x y : V) (ha : c = true → ∀ R : VK, R x H → ta σ H R) (hb : c = false → ∀ R : VK, R y H → tb σ H R) (q : Q (if c = true then x else y) H) : if c = true then ta σ H Q else tb σ H Q := by
  cases c with
  | true =>
    refine iteT ?_
    exact ha rfl _ q
  | false =>
    refine iteF ?_
    exact hb rfl _ q
theorem ite_same {c : Bool} {t : TT} {σ : L2.St} {H : Hp} {R : Bool → Hp → Prop} (h : c = true → ∀ R' : Bool → Hp → Prop, (∀ H', Same H H' → R' false H') → t σ H R') (q : ∀ H', Same H H' → R false H') : if c = true then t σ H R else R false H := by
  cases c with
  | true =>
    refine iteT ?_
    exact h rfl _ q
  | false =>
    refine iteF ?_
    exact q _ (Same.refl H)
/-- a bound that plain arithmetic does not look into -/
def Bd (x : Int) (k : Nat) : Prop := x.natAbs < 2 ^ k
theorem Bd.mul {x y : Int} {a b c : Nat} (hx : Bd x a) (hy : Bd y b) (h : a + b ≤ c) : Bd (x * y) c := Nat.lt_of_lt_of_le (mul_lt hx hy) (Nat.pow_le_pow_right (by decide) h)
theorem Bd.add {x y : Int} {a c : Nat} (hx : Bd x a) (hy : Bd y a) (h : a + 1 ≤ c) : Bd (x + y) c := Nat.lt_of_lt_of_le (add_lt hx hy) (Nat.pow_le_pow_right (by decide) h)
theorem Bd.sub {x y : Int} {a c : Nat} (hx : Bd x a) (hy : Bd y a) (h : a + 1 ≤ c) : Bd (x - y) c := Nat.lt_of_lt_of_le (sub_lt hx hy) (Nat.pow_le_pow_right (by decide) h)
theorem Bd.up {x : Int} {a c : Nat} (hx : Bd x a) (h : a ≤ c) : Bd x c := Nat.lt_of_lt_of_le hx (Nat.pow_le_pow_right (by decide) h)
theorem Bd.le {x y : Int} {a : Nat} (hx : Bd x a) (h : y.natAbs ≤ x.natAbs) : Bd y a := Nat.lt_of_le_of_lt h hx
section
variable {P : Program} {w : World} {K : PySem.W.Frag} {mg : Str → Option Value} {base : Heap}
theorem law_all (T : Txt K mg) {fa : Addr} {fd : FuncData} (F : Fun K "law" "law" s_law fa fd) : FnOk P w K mg base CX0 5 fa fd ["script"] (spLaw K) := by
  refine F.ok sc_law (fun vs H Q E h => ?_) (fun cdv A outer s H vs Q E hr h => ?_)
  · obtain ⟨a, ns, rfl, _⟩ := h
    rfl
  · obtain ⟨p, ns, rfl, hS, hlen, k⟩ := h
    have nd := sc_law.nd
    refine ⟨_, (pss_cons (ps_for PassesOwn.never rfl (pi_range1 (by rfl) T.n_range (pa_cons (pe_callB (call_max2 rfl) (by rfl) T.n_max (by decide +kernel) (pa_cons pe_int (pa_cons (pe_callB (call_min2 rfl) (by rfl) T.n_min (by decide +kernel) (pa_cons (pe_callB call_len_seq (by rfl) T.n_len (by decide +kernel) (pa_cons (pv 0) pa_nil)) (pa_cons pe_int pa_nil))) pa_nil))) pa_nil)) (pg_name (i := 1) nd rfl (Or.inl rfl))
  (pss_cons (ps_set (i := 2) nd rfl (Or.inl rfl) (pe_call (ok_law_begun T) (hr.mono (by decide)) rfl T.g_law_begun T.k_law_begun T.b_law_begun .nil pass0 (pa_cons (pv 0) (pa_cons (pv 1) pa_nil))))
  (pss_cons (ps_set (i := 3) nd rfl (Or.inl rfl) (pe_ifExp (pt_cmpR op_lt (pv 1) (pe_callB call_len_seq (by rfl) T.n_len (by decide +kernel) (pa_cons (pv 0) pa_nil)) (nomark _)) (pe_ix ix_list (pv 0) (pv 1) (fun _ _ => rfl)) (pe_op op_mul pe_int (pv 1))))
  (pss_cons (ps_par (i := 4) (j := 5) (by rfl) nd rfl rfl (by decide) rfl rfl (pa_cons (pe_call (ok_law_pair T) (hr.mono (by decide)) rfl T.g_law_pair T.k_law_pair T.b_law_pair .nil pass0 (pa_cons (pv 2) (pa_cons (pv 3) pa_nil))) (pa_cons (pe_call (ok_law_pair T) (hr.mono (by decide)) rfl T.g_law_pair T.k_law_pair T.b_law_pair .nil pass0 (pa_cons (pv 2) (pa_cons (pe_op op_add (pv 3) pe_int) pa_nil))) pa_nil)) (by rfl))
  (pss_cons (ps_par (i := 6) (j := 7) (by rfl) nd rfl rfl (by decide) rfl rfl (pa_cons (pe_call (ok_ratio T) (hr.mono (by decide)) rfl T.g_ratio T.k_ratio T.b_ratio .nil pass0 (pa_cons (pe_ix ix_tup (pv 4) pe_int (fun _ _ => rfl)) (pa_cons (pe_ix ix_tup (pv 4) pe_int (fun _ _ => rfl)) pa_nil))) (pa_cons (pe_call (ok_ratio T) (hr.mono (by decide)) rfl T.g_ratio T.k_ratio T.b_ratio .nil pass0 (pa_cons (pe_ix ix_tup (pv 5) pe_int (fun _ _ => rfl)) (pa_cons (pe_ix ix_tup (pv 5) pe_int (fun _ _ => rfl)) pa_nil))) pa_nil)) (by rfl))
  (pss_cons (ps_if (PW.pt (pw_or (pt_not (pt_val (pe_call (ok_law_is_right T) (hr.mono (by decide)) rfl T.g_law_is_right T.k_law_is_right T.b_law_is_right .nil pass0 (pa_cons (pv 6) (pa_cons (pe_ix ix_tup (pv 4) pe_int (fun _ _ => rfl)) (pa_cons (pe_ix ix_tup (pv 4) pe_int (fun _ _ => rfl)) pa_nil)))))) (pw_or1 (pt_not (pt_val (pe_call (ok_law_is_right T) (hr.mono (by decide)) rfl T.g_law_is_right T.k_law_is_right T.b_law_is_right .nil pass0 (pa_cons (pv 7) (pa_cons (pe_ix ix_tup (pv 5) pe_int (fun _ _ => rfl)) (pa_cons (pe_ix ix_tup (pv 5) pe_int (fun _ _ => rfl)) pa_nil))))))))) (pss_one (ps_ret pe_bl)) pss_nil)
  (pss_cons (ps_if (pt_not (pt_val (pe_call (ok_law_is_right T) (hr.mono (by decide)) rfl T.g_law_is_right T.k_law_is_right T.b_law_is_right .nil pass0 (pa_cons (pe_call (ok_plus T) (hr.mono (by decide)) rfl T.g_plus T.k_plus T.b_plus .nil pass0 (pa_cons (pv 6) (pa_cons (pv 7) pa_nil))) (pa_cons (pe_op op_add (pe_op op_mulW (pe_ix ix_tup (pv 4) pe_int (fun _ _ => rfl)) (pe_ix ix_tup (pv 5) pe_int (fun _ _ => rfl))) (pe_op op_mulW (pe_ix ix_tup (pv 5) pe_int (fun _ _ => rfl)) (pe_ix ix_tup (pv 4) pe_int (fun _ _ => rfl)))) (pa_cons (pe_op op_mulW (pe_ix ix_tup (pv 4) pe_int (fun _ _ => rfl)) (pe_ix ix_tup (pv 5) pe_int (fun _ _ => rfl))) pa_nil)))))) (pss_one (ps_ret pe_bl)) pss_nil)
  (pss_cons (ps_if (pt_not (pt_val (pe_call (ok_law_is_right T) (hr.mono (by decide)) rfl T.g_law_is_right T.k_law_is_right T.b_law_is_right .nil pass0 (pa_cons (pe_call (ok_minus T) (hr.mono (by decide)) rfl T.g_minus T.k_minus T.b_minus .nil pass0 (pa_cons (pv 6) (pa_cons (pv 7) pa_nil))) (pa_cons (pe_op op_sub (pe_op op_mulW (pe_ix ix_tup (pv 4) pe_int (fun _ _ => rfl)) (pe_ix ix_tup (pv 5) pe_int (fun _ _ => rfl))) (pe_op op_mulW (pe_ix ix_tup (pv 5) pe_int (fun _ _ => rfl)) (pe_ix ix_tup (pv 4) pe_int (fun _ _ => rfl)))) (pa_cons (pe_op op_mulW (pe_ix ix_tup (pv 4) pe_int (fun _ _ => rfl)) (pe_ix ix_tup (pv 5) pe_int (fun _ _ => rfl))) pa_nil)))))) (pss_one (ps_ret pe_bl)) pss_nil)
  (pss_cons (ps_if (pt_not (pt_val (pe_call (ok_law_is_right T) (hr.mono (by decide)) rfl T.g_law_is_right T.k_law_is_right T.b_law_is_right .nil pass0 (pa_cons (pe_call (ok_times T) (hr.mono (by decide)) rfl T.g_times T.k_times T.b_times .nil pass0 (pa_cons (pv 6) (pa_cons (pv 7) pa_nil))) (pa_cons (pe_op op_mulW (pe_ix ix_tup (pv 4) pe_int (fun _ _ => rfl)) (pe_ix ix_tup (pv 5) pe_int (fun _ _ => rfl))) (pa_cons (pe_op op_mulW (pe_ix ix_tup (pv 4) pe_int (fun _ _ => rfl)) (pe_ix ix_tup (pv 5) pe_int (fun _ _ => rfl))) pa_nil)))))) (pss_one (ps_ret pe_bl)) pss_nil)
  (pss_cons (ps_if (PW.pt (pw_and (pt_cmpR op_ne (pe_ix ix_tup (pv 5) pe_int (fun _ _ => rfl)) pe_int (nomark _)) (pw_and1 (pt_not (pt_val (pe_call (ok_law_is_right T) (hr.mono (by decide)) rfl T.g_law_is_right T.k_law_is_right T.b_law_is_right .nil pass0 (pa_cons (pe_call (ok_over T) (hr.mono (by decide)) rfl T.g_over T.k_over T.b_over .nil pass0 (pa_cons (pv 6) (pa_cons (pv 7) pa_nil))) (pa_cons (pe_op op_mulW (pe_ix ix_tup (pv 4) pe_int (fun _ _ => rfl)) (pe_ix ix_tup (pv 5) pe_int (fun _ _ => rfl))) (pa_cons (pe_op op_mulW (pe_ix ix_tup (pv 4) pe_int (fun _ _ => rfl)) (pe_ix ix_tup (pv 5) pe_int (fun _ _ => rfl))) pa_nil))))))))) (pss_one (ps_ret pe_bl)) pss_nil)
  (pss_cons (ps_if (PW.pt (pw_or (pt_cmpR (op_neD hr.units) (pe_call (ok_minus T) (hr.mono (by decide)) rfl T.g_minus T.k_minus T.b_minus .nil pass0 (pa_cons (pv 6) (pa_cons (pv 6) pa_nil))) (pe_tup (pa_cons pe_int (pa_cons pe_int pa_nil))) (nomark _)) (pw_or1 (pt_cmpR (op_neD hr.units) (pe_call (ok_plus T) (hr.mono (by decide)) rfl T.g_plus T.k_plus T.b_plus .nil pass0 (pa_cons (pv 6) (pa_cons (pv 7) pa_nil))) (pe_call (ok_plus T) (hr.mono (by decide)) rfl T.g_plus T.k_plus T.b_plus .nil pass0 (pa_cons (pv 7) (pa_cons (pv 6) pa_nil))) (nomark _))))) (pss_one (ps_ret pe_bl)) pss_nil)
  (pss_cons (ps_set (i := 8) nd rfl (Or.inl rfl) (pe_ifExp (pt_cmpR op_eq (pe_ix ix_tup (pv 4) pe_int (fun _ _ => rfl)) pe_int (nomark _)) pe_int (pe_ifExp (pt_cmpR op_eq (pe_cmpR op_gt (pe_ix ix_tup (pv 4) pe_int (fun _ _ => rfl)) pe_int (nomark _)) (pe_cmpR op_gt (pe_ix ix_tup (pv 4) pe_int (fun _ _ => rfl)) pe_int (nomark _)) (nomark _)) pe_int (pe_un un_neg pe_int))))
  (pss_cons (ps_set (i := 9) nd rfl (Or.inl rfl) (pe_call (ok_sign_of T) (hr.mono (by decide)) rfl T.g_sign_of T.k_sign_of T.b_sign_of .nil pass0 (pa_cons (pv 6) pa_nil)))
  (pss_cons (ps_if (PW.pt (pw_or (pt_val (pe_callB call_isi (by rfl) T.n_isinstance (by decide +kernel) (pa_cons (pv 9) (pa_cons (pe_bltn (v := .ty "bool") (by rfl) T.n_bool (by decide +kernel) rfl) pa_nil)))) (pw_or (pt_not (pt_val (pe_callB call_isi (by rfl) T.n_isinstance (by decide +kernel) (pa_cons (pv 9) (pa_cons (pe_bltn (v := .ty "int") (by rfl) T.n_int (by decide +kernel) rfl) pa_nil))))) (pw_or1 (pt_cmpR op_ne (pv 9) (pv 8) (nomark _)))))) (pss_one (ps_ret pe_bl)) pss_nil)
  (pss_one (ps_if (PW.pt (pw_or (pt_cmpR (op_neD hr.units) (pv 6) (pe_call (ok_ratio T) (hr.mono (by decide)) rfl T.g_ratio T.k_ratio T.b_ratio .nil pass0 (pa_cons (pe_ix ix_tup (pv 4) pe_int (fun _ _ => rfl)) (pa_cons (pe_ix ix_tup (pv 4) pe_int (fun _ _ => rfl)) pa_nil))) (nomark _)) (pw_or1 (pt_cmpR (op_neD hr.units) (pv 7) (pe_call (ok_ratio T) (hr.mono (by decide)) rfl T.g_ratio T.k_ratio T.b_ratio .nil pass0 (pa_cons (pe_ix ix_tup (pv 5) pe_int (fun _ _ => rfl)) (pa_cons (pe_ix ix_tup (pv 5) pe_int (fun _ _ => rfl)) pa_nil))) (nomark _))))) (pss_one (ps_ret pe_bl)) pss_nil))))))))))))))))
  (pss_one (ps_ret pe_bl))), ?_⟩
    walk_at "rd"
    have hj : ∃ z : Nat, z ≤ 8 ∧ (if (if (8 : Int) < (((ns.map V.int).length : Nat) : Int) then (8 : Int) else (((ns.map V.int).length : Nat) : Int)) > 2 then (if (8 : Int) < (((ns.map V.int).length : Nat) : Int) then (8 : Int) else (((ns.map V.int).length : Nat) : Int)) else 2) = (z : Int) := by
      rw [List.length_map]
      by_cases h1 : (8 : Int) < ((ns.length : Nat) : Int)
      · rw [if_pos h1]
        exact ⟨8, by omega, by decide⟩
      · rw [if_neg h1]
        by_cases h2 : ((ns.length : Nat) : Int) > 2
        · rw [if_pos h2]
          exact ⟨ns.length, by omega, rfl⟩
        · rw [if_neg h2]
          exact ⟨2, by omega, rfl⟩
    obtain ⟨z, z8, ez⟩ := hj
    have hz := congrArg Int.toNat ez
    rw [Int.toNat_natCast] at hz
    refine for_range (lo := 0) (fun j σ H' => ∃ v1 v2 v3 v4 v5 v6 v7 v8 v9 : Option V, σ = [some (.ref p), v1, v2, v3, v4, v5, v6, v7, v8, v9] ∧ St H H') ⟨none, none, none, none, none, none, none, none, none, rfl, St.refl H⟩ ?_ ?_
    · rintro j σ H' hj ⟨v1, v2, v3, v4, v5, v6, v7, v8, v9, rfl, st0⟩
      have hj2 : j < z := Nat.lt_of_lt_of_eq hj hz
      have hS1 := st0.seq hS
      clear hj ez hz
      walk_at "rd"
      refine ⟨_, _, _, rfl, hS1, hlen, by omega, by omega, fun m H1 D1 st1 => ?_⟩
      first | replace hS1 := st1 _ _ hS1 rfl | replace hS1 := st1 _ _ hS1 | replace hS1 := st1.seq hS1 | replace hS1 := st1.sqt hS1 | replace hS1 := sameSqt st1 hS1 | replace hS1 := sameDr st1 hS1
      walk_at "rd"
      refine ite_val (.int (ns.getD j 0)) (.int (977 * (0 + (j : Int)))) ?_ ?_ ?_
      · intro h R r
        have h1 := of_decide_eq_true h
        rw [List.length_map] at h1
        have hat : atI (ns.map V.int) (0 + (j : Int)) = some (.int (ns.getD j 0)) := by
          rw [Int.zero_add]
          refine atI_nat ?_
          rw [List.getElem?_map, List.getD_eq_getElem?_getD, List.getElem?_eq_getElem (by omega)]
          rfl
        refine ⟨_, rfl, _, rfl, _, _, _, _, rfl, rfl, hS1, hat, r⟩
      · intro h R r
        walk_at "rd"
      obtain ⟨cell, hc⟩ : ∃ cell : Int, (if decide ((0 + (j : Int)) < (((ns.map V.int).length : Nat) : Int)) = true then V.int (ns.getD j 0) else V.int (977 * (0 + (j : Int)))) = V.int cell := by
        split
        · exact ⟨_, rfl⟩
        · exact ⟨_, rfl⟩
      rw [hc]
      walk_at "rd"
      refine ⟨_, _, _, rfl, D1, by omega, fun pa a0 a1 H2 ha D2 st2 nz1 ta1 ba1 => ?_⟩
      walk_at "rd"
      refine ⟨_, _, _, rfl, D2, by omega, fun pb b0 b1 H3 hb D3 st3 nz2 ta2 ba2 => ?_⟩
      first | replace ha := st3 _ _ ha rfl | replace ha := st3 _ _ ha | replace ha := st3.seq ha | replace ha := st3.sqt ha | replace ha := sameSqt st3 ha | replace ha := sameDr st3 ha
      have qa := SqT.of (K := K) ha
      have qb := SqT.of (K := K) hb
      change Bd a0 133 at ta1
      change Bd a1 100 at ba1
      change Bd b0 133 at ta2
      change Bd b1 100 at ba2
      have x1 : Bd a0 300 := ta1.up (by decide)
      have x2 : Bd a1 300 := ba1.up (by decide)
      have x3 : Bd b0 300 := ta2.up (by decide)
      have x4 : Bd b1 300 := ba2.up (by decide)
      have y2 : Bd a1 800 := ba1.up (by decide)
      have y4 : Bd b1 800 := ba2.up (by decide)
      walk_at "rd"
      intro p1 H4 h1 s4
      first | replace qa := s4 _ _ qa rfl | replace qa := s4 _ _ qa | replace qa := s4.seq qa | replace qa := s4.sqt qa | replace qa := sameSqt s4 qa | replace qa := sameDr s4 qa
      first | replace qb := s4 _ _ qb rfl | replace qb := s4 _ _ qb | replace qb := s4.seq qb | replace qb := s4.sqt qb | replace qb := sameSqt s4 qb | replace qb := sameDr s4 qb
      walk_at "rd"
      intro p2 H5 h2 s5
      first | replace qa := s5 _ _ qa rfl | replace qa := s5 _ _ qa | replace qa := s5.seq qa | replace qa := s5.sqt qa | replace qa := sameSqt s5 qa | replace qa := sameDr s5 qa
      first | replace qb := s5 _ _ qb rfl | replace qb := s5 _ _ qb | replace qb := s5.seq qb | replace qb := s5.sqt qb | replace qb := sameSqt s5 qb | replace qb := sameDr s5 qb
      first | replace h1 := s5 _ _ h1 rfl | replace h1 := s5 _ _ h1 | replace h1 := s5.seq h1 | replace h1 := s5.sqt h1 | replace h1 := sameSqt s5 h1 | replace h1 := sameDr s5 h1
      have T1 := rt_self (t := a0) nz1
      have T2 := rt_self (t := b0) nz2
      have R1 := rat_is (t := a0) nz1
      have R2 := rat_is (t := b0) nz2
      generalize hr1 : rat a0 a1 = r1 at h1 T1 R1
      generalize hr2 : rat b0 b1 = r2 at h2 T2 R2
      obtain ⟨n1, d1⟩ := r1
      obtain ⟨n2, d2⟩ := r2
      dsimp only at h1 h2 T1 T2 R1 R2
      have w1 : Bd n1 133 := ta1.le R1.nle
      have w2 : Bd d1 100 := ba1.le R1.dle
      have w3 : Bd n2 133 := ta2.le R2.nle
      have w4 : Bd d2 100 := ba2.le R2.dle
      have u1 : Bd n1 300 := w1.up (by decide)
      have u2 : Bd d1 300 := w2.up (by decide)
      have u3 : Bd n2 300 := w3.up (by decide)
      have u4 : Bd d2 300 := w4.up (by decide)
      have u5 : Bd d1 270 := w2.up (by decide)
      have u6 : Bd d2 270 := w4.up (by decide)
      have qo := SqT.of (K := K) h1
      have qt := SqT.of (K := K) h2
      walk_at "rd"
      refine ⟨_, _, _, _, _, rfl, h1, T1, u1, u5, x1, x2, ?_⟩
      walk_at "rd"
      refine ⟨_, _, _, _, _, rfl, h2, T2, u3, u6, x3, x4, ?_⟩
      walk_at "rd"
      have dp1 := T1.1
      have dp2 := T2.1
      have e1 := T1.2.2
      have e2 := T2.2.2
      have yd : d1 * d2 ≠ 0 := by
        have : 0 < d1 * d2 := Int.mul_pos (by omega) (by omega)
        omega
      refine ⟨_, _, _, _, _, _, rfl, qo, qt, u1, u2, u3, u4, yd, fun p6 H6 h6 s6 => ?_⟩
      first | replace qa := s6 _ _ qa rfl | replace qa := s6 _ _ qa | replace qa := s6.seq qa | replace qa := s6.sqt qa | replace qa := sameSqt s6 qa | replace qa := sameDr s6 qa
      first | replace qb := s6 _ _ qb rfl | replace qb := s6 _ _ qb | replace qb := s6.seq qb | replace qb := s6.sqt qb | replace qb := sameSqt s6 qb | replace qb := sameDr s6 qb
      first | replace h1 := s6 _ _ h1 rfl | replace h1 := s6 _ _ h1 | replace h1 := s6.seq h1 | replace h1 := s6.sqt h1 | replace h1 := sameSqt s6 h1 | replace h1 := sameDr s6 h1
      first | replace h2 := s6 _ _ h2 rfl | replace h2 := s6 _ _ h2 | replace h2 := s6.seq h2 | replace h2 := s6.sqt h2 | replace h2 := sameSqt s6 h2 | replace h2 := sameDr s6 h2
      first | replace qo := s6 _ _ qo rfl | replace qo := s6 _ _ qo | replace qo := s6.seq qo | replace qo := s6.sqt qo | replace qo := sameSqt s6 qo | replace qo := sameDr s6 qo
      first | replace qt := s6 _ _ qt rfl | replace qt := s6 _ _ qt | replace qt := s6.seq qt | replace qt := s6.sqt qt | replace qt := sameSqt s6 qt | replace qt := sameDr s6 qt
      have R6 := rt_of (t := a0 * b1 + b0 * a1) (b := a1 * b1) (X := n1 * d2 + n2 * d1) yd (by grind)
      have B6 := rat_is (t := n1 * d2 + n2 * d1) yd
      dsimp only at h6
      generalize hr6 : rat (n1 * d2 + n2 * d1) (d1 * d2) = r6 at h6 R6 B6
      obtain ⟨N6, D6⟩ := r6
      dsimp only at h6 R6 B6
      have bT6 : Bd (a0 * b1 + b0 * a1) 300 := (Bd.add (Bd.mul ta1 ba2 (c := 266) (by decide)) (Bd.mul ta2 ba1 (c := 266) (by decide)) (by decide))
      have bB6 : Bd (a1 * b1) 300 := (Bd.mul ba1 ba2 (c := 300) (by decide))
      have bN6 : Bd N6 300 := Bd.le (Bd.add (Bd.mul w1 w4 (c := 266) (by decide)) (Bd.mul w3 w2 (c := 266) (by decide)) (by decide)) B6.nle
      have bD6 : Bd D6 270 := Bd.le (Bd.mul w2 w4 (c := 270) (by decide)) B6.dle
      walk_at "rd"
      refine ⟨_, _, _, _, _, rfl, h6, R6, bN6, bD6, bT6, bB6, ?_⟩
      walk_at "rd"
      refine ⟨_, _, _, _, _, _, rfl, qo, qt, u1, u2, u3, u4, yd, fun p7 H7 h7 s7 => ?_⟩
      first | replace qa := s7 _ _ qa rfl | replace qa := s7 _ _ qa | replace qa := s7.seq qa | replace qa := s7.sqt qa | replace qa := sameSqt s7 qa | replace qa := sameDr s7 qa
      first | replace qb := s7 _ _ qb rfl | replace qb := s7 _ _ qb | replace qb := s7.seq qb | replace qb := s7.sqt qb | replace qb := sameSqt s7 qb | replace qb := sameDr s7 qb
      first | replace h1 := s7 _ _ h1 rfl | replace h1 := s7 _ _ h1 | replace h1 := s7.seq h1 | replace h1 := s7.sqt h1 | replace h1 := sameSqt s7 h1 | replace h1 := sameDr s7 h1
      first | replace h2 := s7 _ _ h2 rfl | replace h2 := s7 _ _ h2 | replace h2 := s7.seq h2 | replace h2 := s7.sqt h2 | replace h2 := sameSqt s7 h2 | replace h2 := sameDr s7 h2
      first | replace qo := s7 _ _ qo rfl | replace qo := s7 _ _ qo | replace qo := s7.seq qo | replace qo := s7.sqt qo | replace qo := sameSqt s7 qo | replace qo := sameDr s7 qo
      first | replace qt := s7 _ _ qt rfl | replace qt := s7 _ _ qt | replace qt := s7.seq qt | replace qt := s7.sqt qt | replace qt := sameSqt s7 qt | replace qt := sameDr s7 qt
      have R7 := rt_of (t := a0 * b1 - b0 * a1) (b := a1 * b1) (X := n1 * d2 - n2 * d1) yd (by grind)
      have B7 := rat_is (t := n1 * d2 - n2 * d1) yd
      dsimp only at h7
      generalize hr7 : rat (n1 * d2 - n2 * d1) (d1 * d2) = r7 at h7 R7 B7
      obtain ⟨N7, D7⟩ := r7
      dsimp only at h7 R7 B7
      have bT7 : Bd (a0 * b1 - b0 * a1) 300 := (Bd.sub (Bd.mul ta1 ba2 (c := 266) (by decide)) (Bd.mul ta2 ba1 (c := 266) (by decide)) (by decide))
      have bB7 : Bd (a1 * b1) 300 := (Bd.mul ba1 ba2 (c := 300) (by decide))
      have bN7 : Bd N7 300 := Bd.le (Bd.sub (Bd.mul w1 w4 (c := 266) (by decide)) (Bd.mul w3 w2 (c := 266) (by decide)) (by decide)) B7.nle
      have bD7 : Bd D7 270 := Bd.le (Bd.mul w2 w4 (c := 270) (by decide)) B7.dle
      walk_at "rd"
      refine ⟨_, _, _, _, _, rfl, h7, R7, bN7, bD7, bT7, bB7, ?_⟩
      walk_at "rd"
      refine ⟨_, _, _, _, _, _, rfl, qo, qt, u1, u2, u3, u4, yd, fun p8 H8 h8 s8 => ?_⟩
      first | replace qa := s8 _ _ qa rfl | replace qa := s8 _ _ qa | replace qa := s8.seq qa | replace qa := s8.sqt qa | replace qa := sameSqt s8 qa | replace qa := sameDr s8 qa
      first | replace qb := s8 _ _ qb rfl | replace qb := s8 _ _ qb | replace qb := s8.seq qb | replace qb := s8.sqt qb | replace qb := sameSqt s8 qb | replace qb := sameDr s8 qb
      first | replace h1 := s8 _ _ h1 rfl | replace h1 := s8 _ _ h1 | replace h1 := s8.seq h1 | replace h1 := s8.sqt h1 | replace h1 := sameSqt s8 h1 | replace h1 := sameDr s8 h1
      first | replace h2 := s8 _ _ h2 rfl | replace h2 := s8 _ _ h2 | replace h2 := s8.seq h2 | replace h2 := s8.sqt h2 | replace h2 := sameSqt s8 h2 | replace h2 := sameDr s8 h2
      first | replace qo := s8 _ _ qo rfl | replace qo := s8 _ _ qo | replace qo := s8.seq qo | replace qo := s8.sqt qo | replace qo := sameSqt s8 qo | replace qo := sameDr s8 qo
      first | replace qt := s8 _ _ qt rfl | replace qt := s8 _ _ qt | replace qt := s8.seq qt | replace qt := s8.sqt qt | replace qt := sameSqt s8 qt | replace qt := sameDr s8 qt
      have R8 := rt_of (t := a0 * b0) (b := a1 * b1) (X := n1 * n2) yd (by grind)
      have B8 := rat_is (t := n1 * n2) yd
      dsimp only at h8
      generalize hr8 : rat (n1 * n2) (d1 * d2) = r8 at h8 R8 B8
      obtain ⟨N8, D8⟩ := r8
      dsimp only at h8 R8 B8
      have bT8 : Bd (a0 * b0) 300 := (Bd.mul ta1 ta2 (c := 300) (by decide))
      have bB8 : Bd (a1 * b1) 300 := (Bd.mul ba1 ba2 (c := 300) (by decide))
      have bN8 : Bd N8 300 := Bd.le (Bd.mul w1 w3 (c := 300) (by decide)) B8.nle
      have bD8 : Bd D8 270 := Bd.le (Bd.mul w2 w4 (c := 270) (by decide)) B8.dle
      walk_at "rd"
      refine ⟨_, _, _, _, _, rfl, h8, R8, bN8, bD8, bT8, bB8, ?_⟩
      walk_at "rd"
      refine ite_same (fun hb0 R' q' => ?_) (fun H9 s9 => ?_)
      · have nb0 : b0 ≠ 0 := by
          intro q
          rw [q] at hb0
          exact absurd hb0 (by decide)
        have nn2 : n2 ≠ 0 := by
          intro q
          rw [q, Int.zero_mul] at e2
          rcases Int.mul_eq_zero.mp e2.symm with h | h
          · omega
          · exact nb0 h
        have yo : d1 * n2 ≠ 0 := by
          intro q
          rcases Int.mul_eq_zero.mp q with h | h
          · omega
          · exact nn2 h
        walk_at "rd"
        refine ⟨_, _, _, _, _, _, rfl, qo, qt, u1, u2, u3, u4, yo, fun p10 H10 h10 s10 => ?_⟩
        first | replace qa := s10 _ _ qa rfl | replace qa := s10 _ _ qa | replace qa := s10.seq qa | replace qa := s10.sqt qa | replace qa := sameSqt s10 qa | replace qa := sameDr s10 qa
        first | replace qb := s10 _ _ qb rfl | replace qb := s10 _ _ qb | replace qb := s10.seq qb | replace qb := s10.sqt qb | replace qb := sameSqt s10 qb | replace qb := sameDr s10 qb
        first | replace h1 := s10 _ _ h1 rfl | replace h1 := s10 _ _ h1 | replace h1 := s10.seq h1 | replace h1 := s10.sqt h1 | replace h1 := sameSqt s10 h1 | replace h1 := sameDr s10 h1
        first | replace h2 := s10 _ _ h2 rfl | replace h2 := s10 _ _ h2 | replace h2 := s10.seq h2 | replace h2 := s10.sqt h2 | replace h2 := sameSqt s10 h2 | replace h2 := sameDr s10 h2
        first | replace qo := s10 _ _ qo rfl | replace qo := s10 _ _ qo | replace qo := s10.seq qo | replace qo := s10.sqt qo | replace qo := sameSqt s10 qo | replace qo := sameDr s10 qo
        first | replace qt := s10 _ _ qt rfl | replace qt := s10 _ _ qt | replace qt := s10.seq qt | replace qt := s10.sqt qt | replace qt := sameSqt s10 qt | replace qt := sameDr s10 qt
        have R10 := rt_of (t := a0 * b1) (b := a1 * b0) (X := n1 * d2) yo (by grind)
        have B10 := rat_is (t := n1 * d2) yo
        dsimp only at h10
        generalize hr10 : rat (n1 * d2) (d1 * n2) = r10 at h10 R10 B10
        obtain ⟨N10, D10⟩ := r10
        dsimp only at h10 R10 B10
        have bT10 : Bd (a0 * b1) 300 := (Bd.mul ta1 ba2 (c := 300) (by decide))
        have bB10 : Bd (a1 * b0) 300 := (Bd.mul ba1 ta2 (c := 300) (by decide))
        have bN10 : Bd N10 300 := Bd.le (Bd.mul w1 w4 (c := 300) (by decide)) B10.nle
        have bD10 : Bd D10 270 := Bd.le (Bd.mul w2 w3 (c := 270) (by decide)) B10.dle
        walk_at "rd"
        refine ⟨_, _, _, _, _, rfl, h10, R10, bN10, bD10, bT10, bB10, ?_⟩
        walk_at "rd"
        exact q' _ s10
      first | replace qa := s9 _ _ qa rfl | replace qa := s9 _ _ qa | replace qa := s9.seq qa | replace qa := s9.sqt qa | replace qa := sameSqt s9 qa | replace qa := sameDr s9 qa
      first | replace qb := s9 _ _ qb rfl | replace qb := s9 _ _ qb | replace qb := s9.seq qb | replace qb := s9.sqt qb | replace qb := sameSqt s9 qb | replace qb := sameDr s9 qb
      first | replace h1 := s9 _ _ h1 rfl | replace h1 := s9 _ _ h1 | replace h1 := s9.seq h1 | replace h1 := s9.sqt h1 | replace h1 := sameSqt s9 h1 | replace h1 := sameDr s9 h1
      first | replace h2 := s9 _ _ h2 rfl | replace h2 := s9 _ _ h2 | replace h2 := s9.seq h2 | replace h2 := s9.sqt h2 | replace h2 := sameSqt s9 h2 | replace h2 := sameDr s9 h2
      first | replace qo := s9 _ _ qo rfl | replace qo := s9 _ _ qo | replace qo := s9.seq qo | replace qo := s9.sqt qo | replace qo := sameSqt s9 qo | replace qo := sameDr s9 qo
      first | replace qt := s9 _ _ qt rfl | replace qt := s9 _ _ qt | replace qt := s9.seq qt | replace qt := s9.sqt qt | replace qt := sameSqt s9 qt | replace qt := sameDr s9 qt
      walk_at "rd"
      have y11 : d1 * d1 ≠ 0 := by
        have : 0 < d1 * d1 := Int.mul_pos (by omega) (by omega)
        omega
      have y21 : d2 * d1 ≠ 0 := by
        rw [Int.mul_comm]
        exact yd
      refine ⟨_, _, _, _, _, _, rfl, qo, qo, u1, u2, u1, u2, y11, fun p11 H11 h11 s11 => ?_⟩
      first | replace qa := s11 _ _ qa rfl | replace qa := s11 _ _ qa | replace qa := s11.seq qa | replace qa := s11.sqt qa | replace qa := sameSqt s11 qa | replace qa := sameDr s11 qa
      first | replace qb := s11 _ _ qb rfl | replace qb := s11 _ _ qb | replace qb := s11.seq qb | replace qb := s11.sqt qb | replace qb := sameSqt s11 qb | replace qb := sameDr s11 qb
      first | replace h1 := s11 _ _ h1 rfl | replace h1 := s11 _ _ h1 | replace h1 := s11.seq h1 | replace h1 := s11.sqt h1 | replace h1 := sameSqt s11 h1 | replace h1 := sameDr s11 h1
      first | replace h2 := s11 _ _ h2 rfl | replace h2 := s11 _ _ h2 | replace h2 := s11.seq h2 | replace h2 := s11.sqt h2 | replace h2 := sameSqt s11 h2 | replace h2 := sameDr s11 h2
      first | replace qo := s11 _ _ qo rfl | replace qo := s11 _ _ qo | replace qo := s11.seq qo | replace qo := s11.sqt qo | replace qo := sameSqt s11 qo | replace qo := sameDr s11 qo
      first | replace qt := s11 _ _ qt rfl | replace qt := s11 _ _ qt | replace qt := s11.seq qt | replace qt := s11.sqt qt | replace qt := sameSqt s11 qt | replace qt := sameDr s11 qt
      dsimp only at h11
      rw [Int.sub_self, rat_zero (show 1 ≤ d1 * d1 from by have : 0 < d1 * d1 := Int.mul_pos (by omega) (by omega); omega)] at h11
      walk_at "rd"
      intro p12 np12
      generalize e12 : upd H11 p12 _ = H12
      have hp12 := updE e12
      have s12 := updS np12 e12
      first | replace qa := s12 _ _ qa | replace qa := s12.seq qa | replace qa := sameSqt s12 qa | replace qa := sameDr s12 qa
      first | replace qb := s12 _ _ qb | replace qb := s12.seq qb | replace qb := sameSqt s12 qb | replace qb := sameDr s12 qb
      first | replace h1 := s12 _ _ h1 | replace h1 := s12.seq h1 | replace h1 := sameSqt s12 h1 | replace h1 := sameDr s12 h1
      first | replace h2 := s12 _ _ h2 | replace h2 := s12.seq h2 | replace h2 := sameSqt s12 h2 | replace h2 := sameDr s12 h2
      first | replace qo := s12 _ _ qo | replace qo := s12.seq qo | replace qo := sameSqt s12 qo | replace qo := sameDr s12 qo
      first | replace qt := s12 _ _ qt | replace qt := s12.seq qt | replace qt := sameSqt s12 qt | replace qt := sameDr s12 qt
      first | replace h11 := s12 _ _ h11 | replace h11 := s12.seq h11 | replace h11 := sameSqt s12 h11 | replace h11 := sameDr s12 h11
      refine rNeT (xs := [0, 1]) (ys := [0, 1]) (SqT.of h11) (SqT.of hp12) ?_
      walk_at "rd"
      refine ⟨_, _, _, _, _, _, rfl, qo, qt, u1, u2, u3, u4, yd, fun p13 H13 h13 s13 => ?_⟩
      first | replace qa := s13 _ _ qa rfl | replace qa := s13 _ _ qa | replace qa := s13.seq qa | replace qa := s13.sqt qa | replace qa := sameSqt s13 qa | replace qa := sameDr s13 qa
      first | replace qb := s13 _ _ qb rfl | replace qb := s13 _ _ qb | replace qb := s13.seq qb | replace qb := s13.sqt qb | replace qb := sameSqt s13 qb | replace qb := sameDr s13 qb
      first | replace h1 := s13 _ _ h1 rfl | replace h1 := s13 _ _ h1 | replace h1 := s13.seq h1 | replace h1 := s13.sqt h1 | replace h1 := sameSqt s13 h1 | replace h1 := sameDr s13 h1
      first | replace h2 := s13 _ _ h2 rfl | replace h2 := s13 _ _ h2 | replace h2 := s13.seq h2 | replace h2 := s13.sqt h2 | replace h2 := sameSqt s13 h2 | replace h2 := sameDr s13 h2
      first | replace qo := s13 _ _ qo rfl | replace qo := s13 _ _ qo | replace qo := s13.seq qo | replace qo := s13.sqt qo | replace qo := sameSqt s13 qo | replace qo := sameDr s13 qo
      first | replace qt := s13 _ _ qt rfl | replace qt := s13 _ _ qt | replace qt := s13.seq qt | replace qt := s13.sqt qt | replace qt := sameSqt s13 qt | replace qt := sameDr s13 qt
      walk_at "rd"
      refine ⟨_, _, _, _, _, _, rfl, qt, qo, u3, u4, u1, u2, y21, fun p14 H14 h14 s14 => ?_⟩
      first | replace qa := s14 _ _ qa rfl | replace qa := s14 _ _ qa | replace qa := s14.seq qa | replace qa := s14.sqt qa | replace qa := sameSqt s14 qa | replace qa := sameDr s14 qa
      first | replace qb := s14 _ _ qb rfl | replace qb := s14 _ _ qb | replace qb := s14.seq qb | replace qb := s14.sqt qb | replace qb := sameSqt s14 qb | replace qb := sameDr s14 qb
      first | replace h1 := s14 _ _ h1 rfl | replace h1 := s14 _ _ h1 | replace h1 := s14.seq h1 | replace h1 := s14.sqt h1 | replace h1 := sameSqt s14 h1 | replace h1 := sameDr s14 h1
      first | replace h2 := s14 _ _ h2 rfl | replace h2 := s14 _ _ h2 | replace h2 := s14.seq h2 | replace h2 := s14.sqt h2 | replace h2 := sameSqt s14 h2 | replace h2 := sameDr s14 h2
      first | replace qo := s14 _ _ qo rfl | replace qo := s14 _ _ qo | replace qo := s14.seq qo | replace qo := s14.sqt qo | replace qo := sameSqt s14 qo | replace qo := sameDr s14 qo
      first | replace qt := s14 _ _ qt rfl | replace qt := s14 _ _ qt | replace qt := s14.seq qt | replace qt := s14.sqt qt | replace qt := sameSqt s14 qt | replace qt := sameDr s14 qt
      first | replace h13 := s14 _ _ h13 rfl | replace h13 := s14 _ _ h13 | replace h13 := s14.seq h13 | replace h13 := s14.sqt h13 | replace h13 := sameSqt s14 h13 | replace h13 := sameDr s14 h13
      dsimp only at h13 h14
      rw [Int.add_comm (n2 * d1), Int.mul_comm d2 d1] at h14
      refine rNeT (xs := [_, _]) (ys := [_, _]) (SqT.of h13) (SqT.of h14) ?_
      rw [decide_eq_true rfl]
      walk_at "rd"
      refine ite_val (.int 0) (if decide (V.bl (decide (0 < a0)) = V.bl (decide (0 < a1))) = true then V.int 1 else V.int (-1)) (fun _ R r => r) ?_ ?_
      · intro _ R r
        walk_at "rd"
        exact ite_val (.int 1) (.int (-1)) (fun _ R r => r) (fun _ R r => ⟨_, rfl, r⟩) r
      have hdue : (if decide (V.int a0 = V.int 0) = true then V.int 0 else if decide (V.bl (decide (0 < a0)) = V.bl (decide (0 < a1))) = true then V.int 1 else V.int (-1)) = V.int (sg n1) := by
        rw [sg_of nz1 R1]
        by_cases q0 : a0 = 0
        · rw [if_pos q0, if_pos (decide_eq_true (by rw [q0]))]
        · rw [if_neg q0, if_neg (fun h => q0 (V.int.inj (of_decide_eq_true h)))]
          by_cases q1 : decide (a0 > 0) = decide (a1 > 0)
          · rw [if_pos q1, if_pos (decide_eq_true (congrArg V.bl q1))]
          · rw [if_neg q1, if_neg (fun h => q1 (V.bl.inj (of_decide_eq_true h)))]
      rw [hdue]
      walk_at "rd"
      refine ⟨_, _, _, rfl, qo, ?_⟩
      walk_at "rd"
      rw [decide_eq_true rfl]
      walk_at "rd"
      intro p15 H15 h15 s15
      first | replace qa := s15 _ _ qa rfl | replace qa := s15 _ _ qa | replace qa := s15.seq qa | replace qa := s15.sqt qa | replace qa := sameSqt s15 qa | replace qa := sameDr s15 qa
      first | replace qb := s15 _ _ qb rfl | replace qb := s15 _ _ qb | replace qb := s15.seq qb | replace qb := s15.sqt qb | replace qb := sameSqt s15 qb | replace qb := sameDr s15 qb
      first | replace h1 := s15 _ _ h1 rfl | replace h1 := s15 _ _ h1 | replace h1 := s15.seq h1 | replace h1 := s15.sqt h1 | replace h1 := sameSqt s15 h1 | replace h1 := sameDr s15 h1
      first | replace h2 := s15 _ _ h2 rfl | replace h2 := s15 _ _ h2 | replace h2 := s15.seq h2 | replace h2 := s15.sqt h2 | replace h2 := sameSqt s15 h2 | replace h2 := sameDr s15 h2
      first | replace qo := s15 _ _ qo rfl | replace qo := s15 _ _ qo | replace qo := s15.seq qo | replace qo := s15.sqt qo | replace qo := sameSqt s15 qo | replace qo := sameDr s15 qo
      first | replace qt := s15 _ _ qt rfl | replace qt := s15 _ _ qt | replace qt := s15.seq qt | replace qt := s15.sqt qt | replace qt := sameSqt s15 qt | replace qt := sameDr s15 qt
      rw [hr1] at h15
      refine rNeT (xs := [n1, d1]) (ys := [n1, d1]) qo (SqT.of h15) ?_
      rw [decide_eq_true rfl]
      walk_at "rd"
      intro p16 H16 h16 s16
      first | replace qa := s16 _ _ qa rfl | replace qa := s16 _ _ qa | replace qa := s16.seq qa | replace qa := s16.sqt qa | replace qa := sameSqt s16 qa | replace qa := sameDr s16 qa
      first | replace qb := s16 _ _ qb rfl | replace qb := s16 _ _ qb | replace qb := s16.seq qb | replace qb := s16.sqt qb | replace qb := sameSqt s16 qb | replace qb := sameDr s16 qb
      first | replace h1 := s16 _ _ h1 rfl | replace h1 := s16 _ _ h1 | replace h1 := s16.seq h1 | replace h1 := s16.sqt h1 | replace h1 := sameSqt s16 h1 | replace h1 := sameDr s16 h1
      first | replace h2 := s16 _ _ h2 rfl | replace h2 := s16 _ _ h2 | replace h2 := s16.seq h2 | replace h2 := s16.sqt h2 | replace h2 := sameSqt s16 h2 | replace h2 := sameDr s16 h2
      first | replace qo := s16 _ _ qo rfl | replace qo := s16 _ _ qo | replace qo := s16.seq qo | replace qo := s16.sqt qo | replace qo := sameSqt s16 qo | replace qo := sameDr s16 qo
      first | replace qt := s16 _ _ qt rfl | replace qt := s16 _ _ qt | replace qt := s16.seq qt | replace qt := s16.sqt qt | replace qt := sameSqt s16 qt | replace qt := sameDr s16 qt
      rw [hr2] at h16
      refine rNeT (xs := [n2, d2]) (ys := [n2, d2]) qt (SqT.of h16) ?_
      rw [decide_eq_true rfl]
      walk_at "rd"
      have ss : Same H3 H16 := fun b o e => s16 _ _ (s15 _ _ (s14 _ _ (s13 _ _ (s12 _ _ (s11 _ _ (s9 _ _ (s8 _ _ (s7 _ _ (s6 _ _ (s5 _ _ (s4 _ _ e)))))))))))
      have stt : St H H16 := (((st0.trans st1).trans st2).trans st3).trans (fun b o e _ => ss b o e)
      exact ⟨_, _, _, _, _, _, _, _, _, rfl, stt⟩
    · rintro σ H' ⟨v1, v2, v3, v4, v5, v6, v7, v8, v9, rfl, st0⟩
      walk_at "rd"
      exact k _
end

end Toy
namespace Toy
open PySem L2
/-- one step of a reading, where nothing is asked -/
local macro_rules | `(tactic| walk_at "rd1") => `(tactic| first
  | with_reducible assumption
  | refine ⟨_, rfl, ?_⟩
  | refine ⟨_, _, rfl, rfl, ?_⟩
  | refine ⟨_, _, rfl, dg (by assumption) mk_left, ?_⟩
  | refine ⟨_, _, rfl, dg (by assumption) mk_seed, ?_⟩
  | refine ⟨_, _, rfl, dg (by assumption) mk_cells, ?_⟩
  | refine ⟨_, _, rfl, dg (by assumption) mk_spot, ?_⟩
  | refine And.intro (by (try dsimp only); first | assumption | omega | decide +kernel) ?_
  | refine And.intro ⟨by decide, by decide, by decide⟩ ?_
  | refine And.intro ⟨by omega, by omega⟩ ?_
  | refine And.intro (.inl ⟨by omega, by omega⟩) ?_
  | refine And.intro (.inr ⟨by omega, by omega⟩) ?_
  | refine ⟨_, _, rfl, ?_⟩
  | refine ⟨_, _, rfl, .inl (SqL.of (by assumption)), ?_⟩
  | refine ⟨_, _, rfl, .inr (SqT.of (by assumption)), ?_⟩
  | refine ⟨_, _, _, _, rfl, rfl, SqL.of (by assumption), (by assumption), ?_⟩
  | refine ⟨_, _, _, _, rfl, rfl, SqT.of (by assumption), (by assumption), ?_⟩
  | refine ⟨_, _, rfl, (by assumption), ?_⟩
  | refine ⟨_, _, _, _, rfl, rfl, (by assumption), (by assumption), sz (by first | omega | (simp only [List.length_map, List.length_append, List.length_cons, List.length_nil]; omega)), ?_⟩
  | refine And.intro (sz (Nat.le_of_ble_eq_true rfl)) ?_
  | refine ⟨_, _, _, _, rfl, rfl, (by assumption), (atI_nat (j := 0) rfl), ?_⟩
  | refine ⟨_, _, _, _, rfl, rfl, (by assumption), (atI_nat (j := 1) rfl), ?_⟩
  | refine And.intro (wide_mul (a := 300) (b := 300) (by assumption) (by assumption) (by decide) (by decide) (by decide)) ?_
  | refine ⟨_, _, _, _, _, rfl, .ty _, .base (.int _), kit_ty (r := true) (by decide +kernel), ?_⟩
  | refine ⟨_, _, _, _, _, rfl, .ty _, .base (.int _), kit_ty (r := false) (by decide +kernel), ?_⟩
  | refine ⟨_, _, _, _, _, rfl, .ty _, .base (.tup (by assumption)), kit_ty (r := true) (by decide +kernel), ?_⟩
  | refine ⟨_, _, _, _, _, rfl, .ty _, .base (.bl _), kit_ty (r := true) (by decide +kernel), ?_⟩
  | refine iteF ?_
  | refine iteT ?_
  | refine .inl ⟨_, rfl, ?_⟩
  | refine ⟨rfl, ?_⟩)
local macro_rules | `(tactic| walk_at "rd") => `(tactic| repeat walk_at "rd1")

--!mac
theorem all_mk {l : PySem.W.OpenLaw} {w : World} {K : PySem.W.Frag} {h : Heap} {mg : Str → Option Value} {fa : Addr} (X : K.In h) (G : h.Ns mainGlobals mg) (hfa : mg "law" = some (.ref fa))
    {f0 : Addr} {od0 an0 : Option Addr} {sl0 : Array (Option Value)} {oc0 kV0 dc0 pm0 cd0 ct0 : Value}
    (a0 : PySem.W.nsIn K mainGlobals "ratio" = some (some (.ref f0))) (l0 : K.lookup f0 = some ⟨oc0, od0, .func (PySem.W.fnOf "ratio" "ratio" (defArgs s_ratio) (defBody s_ratio) (defScope s_ratio) .none kV0 dc0 pm0 an0 cd0 ct0), sl0⟩) (c0 : PySem.W.codeIn K cd0 "ratio" = true) (k0 : PySem.W.keepIn K (.ref f0) = true)
    {f1 : Addr} {od1 an1 : Option Addr} {sl1 : Array (Option Value)} {oc1 kV1 dc1 pm1 cd1 ct1 : Value}
    (a1 : PySem.W.nsIn K mainGlobals "plus" = some (some (.ref f1))) (l1 : K.lookup f1 = some ⟨oc1, od1, .func (PySem.W.fnOf "plus" "plus" (defArgs s_plus) (defBody s_plus) (defScope s_plus) .none kV1 dc1 pm1 an1 cd1 ct1), sl1⟩) (c1 : PySem.W.codeIn K cd1 "plus" = true) (k1 : PySem.W.keepIn K (.ref f1) = true)
    {f2 : Addr} {od2 an2 : Option Addr} {sl2 : Array (Option Value)} {oc2 kV2 dc2 pm2 cd2 ct2 : Value}
    (a2 : PySem.W.nsIn K mainGlobals "minus" = some (some (.ref f2))) (l2 : K.lookup f2 = some ⟨oc2, od2, .func (PySem.W.fnOf "minus" "minus" (defArgs s_minus) (defBody s_minus) (defScope s_minus) .none kV2 dc2 pm2 an2 cd2 ct2), sl2⟩) (c2 : PySem.W.codeIn K cd2 "minus" = true) (k2 : PySem.W.keepIn K (.ref f2) = true)
    {f3 : Addr} {od3 an3 : Option Addr} {sl3 : Array (Option Value)} {oc3 kV3 dc3 pm3 cd3 ct3 : Value}
    (a3 : PySem.W.nsIn K mainGlobals "times" = some (some (.ref f3))) (l3 : K.lookup f3 = some ⟨oc3, od3, .func (PySem.W.fnOf "times" "times" (defArgs s_times) (defBody s_times) (defScope s_times) .none kV3 dc3 pm3 an3 cd3 ct3), sl3⟩) (c3 : PySem.W.codeIn K cd3 "times" = true) (k3 : PySem.W.keepIn K (.ref f3) = true)
    {f4 : Addr} {od4 an4 : Option Addr} {sl4 : Array (Option Value)} {oc4 kV4 dc4 pm4 cd4 ct4 : Value}
    (a4 : PySem.W.nsIn K mainGlobals "over" = some (some (.ref f4))) (l4 : K.lookup f4 = some ⟨oc4, od4, .func (PySem.W.fnOf "over" "over" (defArgs s_over) (defBody s_over) (defScope s_over) .none kV4 dc4 pm4 an4 cd4 ct4), sl4⟩) (c4 : PySem.W.codeIn K cd4 "over" = true) (k4 : PySem.W.keepIn K (.ref f4) = true)
    {f5 : Addr} {od5 an5 : Option Addr} {sl5 : Array (Option Value)} {oc5 kV5 dc5 pm5 cd5 ct5 : Value}
    (a5 : PySem.W.nsIn K mainGlobals "sign_of" = some (some (.ref f5))) (l5 : K.lookup f5 = some ⟨oc5, od5, .func (PySem.W.fnOf "sign_of" "sign_of" (defArgs s_sign_of) (defBody s_sign_of) (defScope s_sign_of) .none kV5 dc5 pm5 an5 cd5 ct5), sl5⟩) (c5 : PySem.W.codeIn K cd5 "sign_of" = true) (k5 : PySem.W.keepIn K (.ref f5) = true)
    {f6 : Addr} {od6 an6 : Option Addr} {sl6 : Array (Option Value)} {oc6 kV6 dc6 pm6 cd6 ct6 : Value}
    (a6 : PySem.W.nsIn K mainGlobals "_law_begun" = some (some (.ref f6))) (l6 : K.lookup f6 = some ⟨oc6, od6, .func (PySem.W.fnOf "_law_begun" "_law_begun" (defArgs s_law_begun) (defBody s_law_begun) (defScope s_law_begun) .none kV6 dc6 pm6 an6 cd6 ct6), sl6⟩) (c6 : PySem.W.codeIn K cd6 "_law_begun" = true) (k6 : PySem.W.keepIn K (.ref f6) = true)
    {f7 : Addr} {od7 an7 : Option Addr} {sl7 : Array (Option Value)} {oc7 kV7 dc7 pm7 cd7 ct7 : Value}
    (a7 : PySem.W.nsIn K mainGlobals "_law_draw" = some (some (.ref f7))) (l7 : K.lookup f7 = some ⟨oc7, od7, .func (PySem.W.fnOf "_law_draw" "_law_draw" (defArgs s_law_draw) (defBody s_law_draw) (defScope s_law_draw) .none kV7 dc7 pm7 an7 cd7 ct7), sl7⟩) (c7 : PySem.W.codeIn K cd7 "_law_draw" = true) (k7 : PySem.W.keepIn K (.ref f7) = true)
    {f8 : Addr} {od8 an8 : Option Addr} {sl8 : Array (Option Value)} {oc8 kV8 dc8 pm8 cd8 ct8 : Value}
    (a8 : PySem.W.nsIn K mainGlobals "_law_shared" = some (some (.ref f8))) (l8 : K.lookup f8 = some ⟨oc8, od8, .func (PySem.W.fnOf "_law_shared" "_law_shared" (defArgs s_law_shared) (defBody s_law_shared) (defScope s_law_shared) .none kV8 dc8 pm8 an8 cd8 ct8), sl8⟩) (c8 : PySem.W.codeIn K cd8 "_law_shared" = true) (k8 : PySem.W.keepIn K (.ref f8) = true)
    {f9 : Addr} {od9 an9 : Option Addr} {sl9 : Array (Option Value)} {oc9 kV9 dc9 pm9 cd9 ct9 : Value}
    (a9 : PySem.W.nsIn K mainGlobals "_law_is_ratio" = some (some (.ref f9))) (l9 : K.lookup f9 = some ⟨oc9, od9, .func (PySem.W.fnOf "_law_is_ratio" "_law_is_ratio" (defArgs s_law_is_ratio) (defBody s_law_is_ratio) (defScope s_law_is_ratio) .none kV9 dc9 pm9 an9 cd9 ct9), sl9⟩) (c9 : PySem.W.codeIn K cd9 "_law_is_ratio" = true) (k9 : PySem.W.keepIn K (.ref f9) = true)
    {f10 : Addr} {od10 an10 : Option Addr} {sl10 : Array (Option Value)} {oc10 kV10 dc10 pm10 cd10 ct10 : Value}
    (a10 : PySem.W.nsIn K mainGlobals "_law_pair" = some (some (.ref f10))) (l10 : K.lookup f10 = some ⟨oc10, od10, .func (PySem.W.fnOf "_law_pair" "_law_pair" (defArgs s_law_pair) (defBody s_law_pair) (defScope s_law_pair) .none kV10 dc10 pm10 an10 cd10 ct10), sl10⟩) (c10 : PySem.W.codeIn K cd10 "_law_pair" = true) (k10 : PySem.W.keepIn K (.ref f10) = true)
    {f11 : Addr} {od11 an11 : Option Addr} {sl11 : Array (Option Value)} {oc11 kV11 dc11 pm11 cd11 ct11 : Value}
    (a11 : PySem.W.nsIn K mainGlobals "_law_is_right" = some (some (.ref f11))) (l11 : K.lookup f11 = some ⟨oc11, od11, .func (PySem.W.fnOf "_law_is_right" "_law_is_right" (defArgs s_law_is_right) (defBody s_law_is_right) (defScope s_law_is_right) .none kV11 dc11 pm11 an11 cd11 ct11), sl11⟩) (c11 : PySem.W.codeIn K cd11 "_law_is_right" = true) (k11 : PySem.W.keepIn K (.ref f11) = true)
    {f12 : Addr} {od12 an12 : Option Addr} {sl12 : Array (Option Value)} {oc12 kV12 dc12 pm12 cd12 ct12 : Value}
    (a12 : PySem.W.nsIn K mainGlobals "law" = some (some (.ref f12))) (l12 : K.lookup f12 = some ⟨oc12, od12, .func (PySem.W.fnOf "law" "law" (defArgs s_law) (defBody s_law) (defScope s_law) .none kV12 dc12 pm12 an12 cd12 ct12), sl12⟩) (c12 : PySem.W.codeIn K cd12 "law" = true) (k12 : PySem.W.keepIn K (.ref f12) = true)
    (z_abs : PySem.W.nsIn K mainGlobals "abs" = some none)
    (z_bool : PySem.W.nsIn K mainGlobals "bool" = some none)
    (z_int : PySem.W.nsIn K mainGlobals "int" = some none)
    (z_isinstance : PySem.W.nsIn K mainGlobals "isinstance" = some none)
    (z_len : PySem.W.nsIn K mainGlobals "len" = some none)
    (z_max : PySem.W.nsIn K mainGlobals "max" = some none)
    (z_min : PySem.W.nsIn K mainGlobals "min" = some none)
    (z_range : PySem.W.nsIn K mainGlobals "range" = some none)
    (z_tuple : PySem.W.nsIn K mainGlobals "tuple" = some none)
    (x_g_gcd : PySem.W.nsIn K mainGlobals "gcd" = some (some (.builtin "math.gcd")))
    : ∃ fd : FuncData, (∀ (s : Shared) (v : Value), BindsTo s fd ⟨[v], []⟩ [("script", v)]) ∧ ∀ base : Heap, K.In base → base.Ns mainGlobals mg → FnOk l.prog w K mg base CX0 5 fa fd ["script"] (spLaw K) := by
  have e := hfa.symm.trans (PySem.W.mg_of X G a12)
  cases e
  have F0 := fun_mk (st := s_ratio) l0 c0 k0
  have b0 := F0.binds (ps := ["top", "bottom"]) fun _ _ _ _ _ _ us hl => match us, hl with | [_, _], _ => rfl
  have F1 := fun_mk (st := s_plus) l1 c1 k1
  have b1 := F1.binds (ps := ["a", "b"]) fun _ _ _ _ _ _ us hl => match us, hl with | [_, _], _ => rfl
  have F2 := fun_mk (st := s_minus) l2 c2 k2
  have b2 := F2.binds (ps := ["a", "b"]) fun _ _ _ _ _ _ us hl => match us, hl with | [_, _], _ => rfl
  have F3 := fun_mk (st := s_times) l3 c3 k3
  have b3 := F3.binds (ps := ["a", "b"]) fun _ _ _ _ _ _ us hl => match us, hl with | [_, _], _ => rfl
  have F4 := fun_mk (st := s_over) l4 c4 k4
  have b4 := F4.binds (ps := ["a", "b"]) fun _ _ _ _ _ _ us hl => match us, hl with | [_, _], _ => rfl
  have F5 := fun_mk (st := s_sign_of) l5 c5 k5
  have b5 := F5.binds (ps := ["a"]) fun _ _ _ _ _ _ us hl => match us, hl with | [_], _ => rfl
  have F6 := fun_mk (st := s_law_begun) l6 c6 k6
  have b6 := F6.binds (ps := ["script", "k"]) fun _ _ _ _ _ _ us hl => match us, hl with | [_, _], _ => rfl
  have F7 := fun_mk (st := s_law_draw) l7 c7 k7
  have b7 := F7.binds (ps := ["m", "below"]) fun _ _ _ _ _ _ us hl => match us, hl with | [_, _], _ => rfl
  have F8 := fun_mk (st := s_law_shared) l8 c8 k8
  have b8 := F8.binds (ps := ["a", "b"]) fun _ _ _ _ _ _ us hl => match us, hl with | [_, _], _ => rfl
  have F9 := fun_mk (st := s_law_is_ratio) l9 c9 k9
  have b9 := F9.binds (ps := ["value"]) fun _ _ _ _ _ _ us hl => match us, hl with | [_], _ => rfl
  have F10 := fun_mk (st := s_law_pair) l10 c10 k10
  have b10 := F10.binds (ps := ["m", "cell"]) fun _ _ _ _ _ _ us hl => match us, hl with | [_, _], _ => rfl
  have F11 := fun_mk (st := s_law_is_right) l11 c11 k11
  have b11 := F11.binds (ps := ["found", "top", "bottom"]) fun _ _ _ _ _ _ us hl => match us, hl with | [_, _, _], _ => rfl
  have F12 := fun_mk (st := s_law) l12 c12 k12
  have b12 := F12.binds (ps := ["script"]) fun _ _ _ _ _ _ us hl => match us, hl with | [_], _ => rfl
  have T : Txt K mg := ⟨_, _, F0, PySem.W.mg_of X G a0, k0, b0, _, _, F1, PySem.W.mg_of X G a1, k1, b1, _, _, F2, PySem.W.mg_of X G a2, k2, b2, _, _, F3, PySem.W.mg_of X G a3, k3, b3, _, _, F4, PySem.W.mg_of X G a4, k4, b4, _, _, F5, PySem.W.mg_of X G a5, k5, b5, _, _, F6, PySem.W.mg_of X G a6, k6, b6, _, _, F7, PySem.W.mg_of X G a7, k7, b7, _, _, F8, PySem.W.mg_of X G a8, k8, b8, _, _, F9, PySem.W.mg_of X G a9, k9, b9, _, _, F10, PySem.W.mg_of X G a10, k10, b10, _, _, F11, PySem.W.mg_of X G a11, k11, b11, _, _, F12, PySem.W.mg_of X G a12, k12, b12, PySem.W.mg_none_of X G z_abs, PySem.W.mg_none_of X G z_bool, PySem.W.mg_none_of X G z_int, PySem.W.mg_none_of X G z_isinstance, PySem.W.mg_none_of X G z_len, PySem.W.mg_none_of X G z_max, PySem.W.mg_none_of X G z_min, PySem.W.mg_none_of X G z_range, PySem.W.mg_none_of X G z_tuple, PySem.W.mg_of X G x_g_gcd⟩
  exact ⟨PySem.W.fnOf "law" "law" (defArgs s_law) (defBody s_law) (defScope s_law) .none kV12 dc12 pm12 an12 cd12 ct12, fun s v => .of_eq rfl, fun base _ _ => law_all T F12⟩
theorem walk {l : PySem.W.OpenLaw} {q : Program} {loose : List Str} {XP : (Str → Option Value) → Heap → Prop} {YP : World → Heap → Prop} {d : DefRec} {K : Params → PySem.W.Frag} (hn : l.most = some 63) (hdf : d.params.defaults = [])
    (hY : ∀ (w : World) (h : Heap), YP w h → (K w.params).In h)
    (F : ∀ (w : World) (mg : Str → Option Value) (fa : Addr) (h : Heap), (K w.params).In h → h.Ns mainGlobals mg → mg d.name = some (.ref fa) →
      ∃ fd : FuncData, (∀ (s : Shared) (u : Value), BindsTo s fd ⟨[u], []⟩ [("script", u)]) ∧ ∀ base : Heap, (K w.params).In base → base.Ns mainGlobals mg → FnOk l.prog w (K w.params) mg base CX0 5 fa fd ["script"] (spLaw (K w.params))) :
    PySem.W.WalkO q loose XP YP l.row.toRowW d [] (fun f vs => PySem.call f vs) :=
  L2.walk_of (n := 63) (k := 5) (x := "script") (CX := fun _ => CX0) (sp := fun w => spLaw (K w.params)) hn (by decide) hdf ⟨rfl, by decide, by decide⟩ hY F (fun _ _ a ns hl _ hS => ⟨a, ns, rfl, hS, hl, fun _ => rfl⟩) fun _ _ _ _ _ z => z
end Toy
open PySem PySem.W PyProof.Rows in
set_option maxRecDepth 100000 in
set_option maxHeartbeats 0 in
theorem PySem.Challenge.cw_flagfloors_k00_ratios_holds : PySem.Challenge.rw_flagfloors_k00_ratios.Holds := by
  w_on; o_law; k_head; (case hw => w_witness2)
  k_fill
  refine Toy.walk (l := PySem.Challenge.rw_flagfloors_k00_ratios) rfl rfl (fun w h Y => PySem.W.kIn_of Y) ?F
  case F =>
    intro w mg fa h KX G hmg
    refine' Toy.all_mk KX G hmg ?a0 ?l0 ?c0 ?k0 ?a1 ?l1 ?c1 ?k1 ?a2 ?l2 ?c2 ?k2 ?a3 ?l3 ?c3 ?k3 ?a4 ?l4 ?c4 ?k4 ?a5 ?l5 ?c5 ?k5 ?a6 ?l6 ?c6 ?k6 ?a7 ?l7 ?c7 ?k7 ?a8 ?l8 ?c8 ?k8 ?a9 ?l9 ?c9 ?k9 ?a10 ?l10 ?c10 ?k10 ?a11 ?l11 ?c11 ?k11 ?a12 ?l12 ?c12 ?k12 ?z_abs ?z_bool ?z_int ?z_isinstance ?z_len ?z_max ?z_min ?z_range ?z_tuple ?x_g_gcd
    (case a0 => k_is)
    (case l0 => k_is)
    (case c0 => k_is)
    (case k0 => k_is)
    (case a1 => k_is)
    (case l1 => k_is)
    (case c1 => k_is)
    (case k1 => k_is)
    (case a2 => k_is)
    (case l2 => k_is)
    (case c2 => k_is)
    (case k2 => k_is)
    (case a3 => k_is)
    (case l3 => k_is)
    (case c3 => k_is)
    (case k3 => k_is)
    (case a4 => k_is)
    (case l4 => k_is)
    (case c4 => k_is)
    (case k4 => k_is)
    (case a5 => k_is)
    (case l5 => k_is)
    (case c5 => k_is)
    (case k5 => k_is)
    (case a6 => k_is)
    (case l6 => k_is)
    (case c6 => k_is)
    (case k6 => k_is)
    (case a7 => k_is)
    (case l7 => k_is)
    (case c7 => k_is)
    (case k7 => k_is)
    (case a8 => k_is)
    (case l8 => k_is)
    (case c8 => k_is)
    (case k8 => k_is)
    (case a9 => k_is)
    (case l9 => k_is)
    (case c9 => k_is)
    (case k9 => k_is)
    (case a10 => k_is)
    (case l10 => k_is)
    (case c10 => k_is)
    (case k10 => k_is)
    (case a11 => k_is)
    (case l11 => k_is)
    (case c11 => k_is)
    (case k11 => k_is)
    (case a12 => k_is)
    (case l12 => k_is)
    (case c12 => k_is)
    (case k12 => k_is)
    (case z_abs => k_is)
    (case z_bool => k_is)
    (case z_int => k_is)
    (case z_isinstance => k_is)
    (case z_len => k_is)
    (case z_max => k_is)
    (case z_min => k_is)
    (case z_range => k_is)
    (case z_tuple => k_is)
    (case x_g_gcd => k_is)


