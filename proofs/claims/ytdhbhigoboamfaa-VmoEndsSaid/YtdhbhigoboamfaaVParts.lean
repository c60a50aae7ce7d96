/-
  parts: what of a range lies in which page. No conditions but that the range is none of more than 4096 bytes.
-/
import Derived.Test.YtdhbhigoboamfaaVSmall
namespace Go.Proofs.Ytdhbhigoboamfaa
open Go.ChangeShapes Go.WideShapes Go.ChangeAt Go.RowKit

structure Pt where
  pg : Nat
  at' : Nat
  n : Nat
deriving DecidableEq
def ptCells (l : List Pt) : List Value := l.flatMap fun p => [.int .i64 (p.pg : Int), .int .i64 (p.at' : Int), .int .i64 (p.n : Int)]
def Parts (v : Value) (ps : List Pt) (w : World) : Prop := w.ownsRow 0 97 3 v ps.length (ptCells ps)
def goP : Nat → Nat → Nat → Nat → List Pt
  | 0, _, _, _ => []
  | k + 1, p, i, n => if n = 0 then [] else ⟨p, i, min n (64 - i)⟩ :: goP k (p + 1) 0 (n - min n (64 - i))
def partsL (t n : Nat) : List Pt := goP n (t / 64) (t % 64) n

theorem goP_succ (k p i n : Nat) : goP (k + 1) p i n = if n = 0 then [] else ⟨p, i, min n (64 - i)⟩ :: goP k (p + 1) 0 (n - min n (64 - i)) := rfl
theorem goP_nil (k p i : Nat) : goP k p i 0 = [] := by
  cases k with
  | zero => rfl
  | succ k => simp [goP]
theorem goP_more (k : Nat) : ∀ p i n, i < 64 → n ≤ k → goP (k + 1) p i n = goP k p i n := by
  induction k with
  | zero => intro p i n hi hn; (obtain rfl : n = 0 := by omega); rfl
  | succ k ih =>
    intro p i n hi hn
    by_cases h0 : n = 0
    · subst h0; rw [goP_nil, goP_nil]
    · rw [goP_succ (k + 1) p i n, goP_succ k p i n, if_neg h0, if_neg h0, ih (p + 1) 0 _ (by omega) (by omega)]
theorem goP_fuel (k : Nat) : ∀ p i n, i < 64 → n ≤ k → goP k p i n = goP n p i n := by
  induction k with
  | zero => intro p i n hi hn; (obtain rfl : n = 0 := by omega); rfl
  | succ k ih =>
    intro p i n hi hn
    by_cases h : n = k + 1
    · rw [h]
    · rw [goP_more k p i n hi (by omega), ih p i n hi (by omega)]
theorem goP_step (p i n : Nat) (hi : i < 64) (hn : 0 < n) : goP n p i n = ⟨p, i, min n (64 - i)⟩ :: goP (n - min n (64 - i)) (p + 1) 0 (n - min n (64 - i)) := by
  obtain ⟨k, rfl⟩ : ∃ k, n = k + 1 := ⟨n - 1, by omega⟩
  rw [goP_succ, if_neg (by omega), goP_fuel k (p + 1) 0 _ (by omega) (by omega)]

theorem infoPart : (Try.prog.info? 97).map (fun i => (i.zero, i.size, i.bytes)) = some (some (.agg #[.int .i64 0, .int .i64 0, .int .i64 0]), 3, 24) := by kernel_rfl
theorem partsUnder : Try.prog.underlying 93 = some (.slice 97) := by kernel_rfl
theorem pt_len (l : List Pt) : (ptCells l).length = l.length * 3 := by
  induction l with
  | nil => rfl
  | cons s l ih => simp only [ptCells, List.flatMap_cons, List.length_append, List.length_cons, List.length_nil] at ih ⊢; omega
theorem pt_cons (p : Pt) (l : List Pt) : ptCells (p :: l) = .int .i64 p.pg :: .int .i64 p.at' :: .int .i64 p.n :: ptCells l := rfl
theorem pt_at (l : List Pt) (i : Nat) (p : Pt) (h : l[i]? = some p) :
    (ptCells l)[i * 3]? = some (.int .i64 p.pg) ∧ (ptCells l)[i * 3 + 1]? = some (.int .i64 p.at') ∧ (ptCells l)[i * 3 + 2]? = some (.int .i64 p.n) := by
  induction l generalizing i with
  | nil => simp at h
  | cons t l ih =>
    cases i with
    | zero => simp at h; subst h; simp [pt_cons]
    | succ i =>
      simp at h
      have h1 := ih i h
      have e : (i + 1) * 3 = i * 3 + 3 := by omega
      rw [e, pt_cons]
      exact h1
theorem parts_push {w w1 : World} {o : Obj} {v : Value} {xs : List Pt} {x : Pt} {n g c : Nat} (hn : xs.length = n)
    (hown : w1.ownsRow 0 97 3 (.slice (some ⟨g, 0, none⟩) (n + 1) c) (n + 1) (ptCells xs ++ [.int .i64 x.pg, .int .i64 x.at', .int .i64 x.n]))
    (hgrow : (w.alloc o).grownBy w1 v.ownBlock) (hat : v.ownBlock = some g ∨ g = w.heap.size + 1) :
    Parts (.slice (some ⟨g, 0, none⟩) (n + 1) c) (xs ++ [x]) w1 ∧ Turn (Blk v) w w1 ∧ ∀ k, Blk (.slice (some ⟨g, 0, none⟩) (n + 1) c) k → Blk v k ∨ w.heap.size ≤ k := by
  refine ⟨?_, ((Turn.refl _ w).alloc o).grown hgrow (fun k hk => .inl hk), ?_⟩
  · unfold Parts
    have : ptCells (xs ++ [x]) = ptCells xs ++ [.int .i64 x.pg, .int .i64 x.at', .int .i64 x.n] := by simp [ptCells]
    rw [this]
    simpa [hn] using hown
  · intro k hk
    simp [Blk, Value.ownBlock] at hk
    subst hk
    rcases hat with h | h
    · exact .inl h
    · right; omega
theorem Parts.past {w w' : World} {v : Value} {ps : List Pt} {G : Nat → Prop} (h : Parts v ps w) (t : Turn G w w') (hG : ∀ k, Blk v k → ¬ G k) : Parts v ps w' := t.own h hG
theorem Parts.shape {w : World} {v : Value} {ps : List Pt} (h : Parts v ps w) : ∃ p c, v = .slice p ps.length c := own_slice h
/-- A part's cells. -/
theorem Parts.at {w : World} {v : Value} {ps : List Pt} (h : Parts v ps w) {k : Nat} {p : Pt} (hk : ps[k]? = some p) :
    ∃ g c, v = .slice (some ⟨g, 0, none⟩) ps.length c ∧ k < ps.length ∧ w.cell? ⟨g, k * 3, none⟩ = some (.int .i64 p.pg) ∧ w.cell? ⟨g, k * 3 + 1, none⟩ = some (.int .i64 p.at') ∧ w.cell? ⟨g, k * 3 + 2, none⟩ = some (.int .i64 p.n) := by
  have hlt : k < ps.length := (List.getElem?_eq_some_iff.1 hk).1
  obtain ⟨g, c, rfl, -, -⟩ := own_shape h (by omega)
  have hx := pt_at _ _ _ hk
  unfold Parts at h
  refine ⟨g, c, rfl, hlt, ?_, ?_, ?_⟩
  · exact (h.cellAt (k * 3) (by omega)).trans hx.1
  · exact (h.cellAt (k * 3 + 1) (by omega)).trans hx.2.1
  · exact (h.cellAt (k * 3 + 2) (by omega)).trans hx.2.2

theorem pages_count (t n : Nat) (w : World) (h : t + n ≤ 4611686018427387904) (hn : n ≤ 4096) : ∃ c : Nat, c ≤ 100 ∧ Calls Try.prog 66 #[.int .i64 t, .int .i64 n] w fun e w' => e = .returned (.tuple #[.int .i64 ((t / 64 : Nat) : Int), .int .i64 c, .bool true]) ∧ w = w' := by
  by_cases h0 : n = 0
  · subst h0
    exact ⟨0, by omega, pages_none t w (by omega) (by unfold fit; omega)⟩
  · refine ⟨(t + n - 1) / 64 - t / 64 + 1, by omega, ?_⟩
    have c := pages_yes t n w (by omega) (by omega) (by omega)
    rw [show (((t : Int) + n - 1) / 64 - (t : Int) / 64 + 1) = (((t + n - 1) / 64 - t / 64 + 1 : Nat) : Int) by omega] at c
    exact c

/-- What the loop of parts holds. -/
structure PIn (w wr : World) (T : List Pt) (p i n : Nat) (ps : List Pt) (v : Value) : Prop where
  own : Parts v ps wr
  turn : Turn NoBlock w wr
  fresh : ∀ j, Blk v j → w.heap.size ≤ j
  rest : ps ++ goP n p i n = T
  hi : i < 64
  hn : ps.length + n ≤ 4096
  hp : p + n ≤ 4611686018427387904
theorem PIn.push {w wr w1 : World} {T : List Pt} {p i n : Nat} {ps : List Pt} {v : Value} (h : PIn w wr T p i n ps v) (m : Nat) (hm : m = min n (64 - i)) (hn0 : 0 < n) {g c k : Nat} {o : Obj} (hk : ps.length = k)
    (hown : w1.ownsRow 0 97 3 (.slice (some ⟨g, 0, none⟩) (k + 1) c) (k + 1) (ptCells ps ++ [.int .i64 (p : Int), .int .i64 (i : Int), .int .i64 (m : Int)]))
    (hgrow : (wr.alloc o).grownBy w1 v.ownBlock) (hat : v.ownBlock = some g ∨ g = wr.heap.size + 1) :
    PIn w w1 T (p + 1) 0 (n - m) (ps ++ [⟨p, i, m⟩]) (.slice (some ⟨g, 0, none⟩) (k + 1) c) := by
  obtain ⟨h1, h2, h3⟩ := parts_push (x := ⟨p, i, m⟩) hk hown hgrow hat
  have hs := h.turn.size
  have hi := h.hi
  have hn := h.hn
  have hp := h.hp
  refine ⟨h1, h.turn.trans h2 (fun j hj => .inr (h.fresh j hj)), fun j hj => ?_, ?_, by omega, by simp; omega, by omega⟩
  · rcases h3 j hj with e | e
    · exact h.fresh j e
    · omega
  · rw [List.append_assoc]
    show ps ++ (⟨p, i, m⟩ :: goP (n - m) (p + 1) 0 (n - m)) = T
    rw [hm, ← goP_step p i n hi hn0]
    exact h.rest

set_option maxRecDepth 20000 in
set_option maxHeartbeats 2000000 in
theorem parts_any (t n : Nat) (w : World) (ht : t + n ≤ 4611686018427387904) (hn : n ≤ 4096) :
    Calls Try.prog 52 #[.int .i64 t, .int .i64 n] w fun e w' => ∃ v, e = .returned v ∧ Parts v (partsL t n) w' ∧ Turn NoBlock w w' ∧ ∀ j, Blk v j → w.heap.size ≤ j := by
  obtain ⟨iv, hi, hz0, hz1, hz2⟩ := info_parts infoPart
  obtain ⟨cn, hcn, c1⟩ := pages_count t n w ht hn
  have q1 : iv.bytes * cn ≤ 281474976710656 := by rw [hz2]; omega
  have q2 : cn ≤ maxLen := by unfold maxLen; omega
  have hmod : (t : Int).tmod 64 = ((t % 64 : Nat) : Int) := by rw [Int.tmod_eq_emod_of_nonneg (by omega)]; rfl
  have hmod2 : (t : Int) % 64 = ((t % 64 : Nat) : Int) := rfl
  have HB := Lib.hid (And.intro ht hn)
  have h64 := Lib.hid (Nat.mod_lt t (show 0 < 64 by decide))
  have HT := Lib.hid (show partsL t n = goP n (t / 64) (t % 64) n from rfl)
  generalize hTT : partsL t n = TT at *
  have Hd := Lib.hid (show t / 64 + n ≤ 4611686018427387904 by omega)
  generalize t / 64 = P0 at *
  generalize t % 64 = I0 at *
  clear ht hn hcn hTT
  go_enter Try.func52, Try.ntmps52
  go_wp2_with (first
    | (go_at_call 66; (with_reducible refine c1.mono ?_); rintro x w1 ⟨rfl, rfl⟩)
    | (at_make; refine wpList_make_own _ rfl _ _ 93 rfl 0 97 iv _ 3 partsUnder hi hz0 hz1 .i64 .i64 _ cn rfl rfl rfl q1 q2 (Nat.zero_le _) ?_; intro w2 hown hgrow; have K2 := Lib.hid (show PIn w w2 TT P0 I0 n [] (.slice (some ⟨w.heap.size, 0, none⟩) 0 cn) from ⟨hown, (Turn.refl NoBlock w).grown hgrow (fun k e => by cases e), (fun j hj => by simp [Blk, Value.ownBlock] at hj; omega), HT.out.symm, h64.out, by have := HB.out.2; simpa using this, Hd.out⟩); clear hown hgrow))
  go_loopg [1, 5, 8, 9] n (fun g s1 s5 s8 s9 wr => ∃ (p i m : Nat) (ps : List Pt) (gp : Option Addr) (k cap : Nat), g = m ∧ s1 = .int .i64 m ∧ s5 = .int .i64 p ∧ s8 = .slice gp k cap ∧ s9 = .int .i64 i ∧ Hid (PIn w wr TT p i m ps (.slice gp k cap) ∧ ps.length = k))
  case atStart => exact ⟨P0, I0, n, [], _, 0, cn, rfl, rfl, rfl, rfl, rfl, ⟨K2.out, rfl⟩⟩
  case round =>
    obtain ⟨p, i, m, ps, gp, k, cap, hg, rfl, rfl, rfl, rfl, HA⟩ := hrel
    by_cases hm : 0 < m
    · have hm2 : (0 : Int) < (m : Int) := by omega
      have HX := HA.out.1
      have hso := HX.own
      unfold Parts at hso
      rw [HA.out.2] at hso
      have hi64 := HX.hi
      have hkn := HX.hn
      rw [HA.out.2] at hkn
      have hpb := HX.hp
      have q3 : k + 1 ≤ maxLen := by unfold maxLen; omega
      have q4 : (k + 1) * 24 ≤ 140737488355328 := by omega
      obtain ⟨e, he⟩ : ∃ e : Nat, e = 64 - i := ⟨_, rfl⟩
      have he1 : (64 : Int) - (i : Int) = (e : Int) := by omega
      have hwp : IntKind.i64.wrap ((p : Int) + 1) = (p : Int) + 1 := wrap_nat (p + 1) (by omega)
      generalize hxs : ptCells ps = xs at *
      have HXS := Lib.hid hxs
      have HE := Lib.hid he
      rcases Nat.lt_or_ge e m with hc | hc
      · have hc2 : (e : Int) < (m : Int) := by omega
        have hsub : (m : Int) - (e : Int) = ((m - e : Nat) : Int) := by omega
        have hmin := Lib.hid (show e = min m (64 - i) by omega)
        clear hi64 hpb hc he hxs
        go_wp2_with (first
          | (at_builtin; refine wpList_append_lies _ rfl (.tmp 28) (.tmp 33) 93 rfl 0 97 iv _ 3 24 partsUnder hi hz0 hz1 hz2 rfl (by decide) (.slice gp k cap) k xs rfl (World.ownsRow.alloc hso _) ⟨wr.heap.size, 0, none⟩ 1 1 [.int .i64 (p : Int), .int .i64 (i : Int), .int .i64 (e : Int)] rfl rfl (fun j u hu => World.news_of_block (heap_alloc_new wr _) j u (by simpa using hu)) (by simp [Value.oneCell']) (by decide) q3 q4 (Nat.zero_le _) (wr.heap.size + 1) (by simp) ?_; intro g3 c3 w3 hown hgrow hat hlt3; rw [← HXS.out] at hown; have K3 := Lib.hid (HA.out.1.push e hmin.out hm HA.out.2 hown hgrow hat); clear hown hgrow hat))
        go_roundg (m - e)
        case measure => have := HE.out; have := HA.out.1.hi; omega
        case rel => exact ⟨p + 1, 0, m - e, _, _, k + 1, c3, rfl, by go_num, by go_num, rfl, rfl, ⟨K3.out, by simp [HA.out.2]⟩⟩
      · have hc2 : (m : Int) ≤ (e : Int) := by omega
        have hmin := Lib.hid (show m = min m (64 - i) by omega)
        clear hi64 hpb hc he hxs
        go_wp2_with (first
          | (at_builtin; refine wpList_append_lies _ rfl (.tmp 28) (.tmp 33) 93 rfl 0 97 iv _ 3 24 partsUnder hi hz0 hz1 hz2 rfl (by decide) (.slice gp k cap) k xs rfl (World.ownsRow.alloc hso _) ⟨wr.heap.size, 0, none⟩ 1 1 [.int .i64 (p : Int), .int .i64 (i : Int), .int .i64 (m : Int)] rfl rfl (fun j u hu => World.news_of_block (heap_alloc_new wr _) j u (by simpa using hu)) (by simp [Value.oneCell']) (by decide) q3 q4 (Nat.zero_le _) (wr.heap.size + 1) (by simp) ?_; intro g3 c3 w3 hown hgrow hat hlt3; rw [← HXS.out] at hown; have K3 := Lib.hid (HA.out.1.push m hmin.out hm HA.out.2 hown hgrow hat); clear hown hgrow hat))
        go_roundg (m - m)
        case measure => omega
        case rel => exact ⟨p + 1, 0, m - m, _, _, k + 1, c3, rfl, by go_num, by go_num, rfl, rfl, ⟨K3.out, by simp [HA.out.2]⟩⟩
    · obtain rfl : m = 0 := by omega
      go_wp2
      go_ret
      have h := HA.out.1
      have e := h.rest
      rw [goP_nil, List.append_nil] at e
      exact ⟨_, rfl, e ▸ h.own, h.turn, h.fresh⟩
end Go.Proofs.Ytdhbhigoboamfaa
