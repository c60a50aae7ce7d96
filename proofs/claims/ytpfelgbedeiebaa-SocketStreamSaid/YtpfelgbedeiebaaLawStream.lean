/-
  SocketStream's walk.
-/
import Derived.Test.YtpfelgbedeiebaaLawShuts
import Derived.Test.YtpfelgbedeiebaaKView
import Derived.Deep.LoopGhost
import Derived.OwnWalk
namespace Go.Proofs.Ytpfelgbedeiebaa
open Go.ChangeShapes Go.WideShapes Go.ChangeAt Go.RowKit

def stE (b : List UInt8) : En := ⟨true, false, false, b, []⟩
/-- Behind any calls: these bytes wait at end 1 of a stream. -/
def SS (w0 w : World) (c : Nat) (rest : List UInt8) (X : Nat → Prop) : Prop := KSt w0 w c false 65536 (PK En.new (stE rest)) X
def bsS (rest : List UInt8) (n : Int) : List UInt8 := if n < 0 then [] else rest.take n.toNat
def stS (rest : List UInt8) (n : Int) : Int := if n < 0 then -10 else if rest = [] then -22 else 0
section
variable {w0 w : World} {c : Nat} {rest : List UInt8} {X : Nat → Prop}
theorem ss_write (h : SS w0 w c rest X) (v : Value) (b : List UInt8) (hb : b.length ≤ 500) (hl : rest.length + b.length ≤ 65536) (hr : Rk w v b) :
    Calls Try.prog 13 #[.pointer (some ⟨c, 0, none⟩), .int .i64 0, v] w fun e w' => e = .returned (.tuple #[.int .i64 (b.length : Nat), .int .i64 0]) ∧ SS w0 w' c (rest ++ b) X ∧ Kp X w w' := by
  have hf := fit_whole (dg := false) (room := 65536) (fr := 65536 - rest.length) (n := b.length) (by omega) (by omega) (fun h => by cases h)
  have e1 : wrS false 65536 (PK En.new (stE rest)) 0 b.length = 0 := hf.1
  have e2 : wrN false 65536 (PK En.new (stE rest)) 0 b.length = b.length := by
    unfold wrN
    rw [if_pos e1]
    exact hf.2
  have e3 : wrK false 65536 (PK En.new (stE rest)) 0 b = PK En.new (stE (rest ++ b)) := by
    unfold wrK
    rw [if_pos e1, e2]
    show updN (PK En.new (stE rest)) 1 (wrE false (stE rest) b.length b) = _
    rw [pk_upd1]
    unfold wrE
    rw [List.take_length]
    rfl
  have := h.write0 v b (by omega) hr
  rw [e1, e2, e3] at this
  exact this
theorem ss_rd (n : Int) : rdSt (PK En.new (stE rest)) 1 n = stS rest n ∧ rdB (PK En.new (stE rest)) 1 n = bsS rest n ∧ rdK (PK En.new (stE rest)) 1 n false = PK En.new (stE (rest.drop (bsS rest n).length)) ∧ rdK (PK En.new (stE rest)) 1 n true = PK En.new (stE rest) := by
  have e1 : rdSt (PK En.new (stE rest)) 1 n = stS rest n := rfl
  have e4 : rdK (PK En.new (stE rest)) 1 n true = PK En.new (stE rest) := by unfold rdK; rw [if_neg (by simp)]
  by_cases h0 : n < 0
  · have e0 : stS rest n = -10 := by unfold stS; rw [if_pos h0]
    refine ⟨e1, ?_, ?_, e4⟩
    · unfold rdB bsS; rw [e1, e0, if_neg (by decide), if_pos h0]
    · unfold rdK bsS; rw [e1, e0, if_neg (by simp), if_pos h0]; rfl
  · by_cases hr : rest = []
    · subst hr
      have e0 : stS [] n = -22 := by unfold stS; rw [if_neg h0, if_pos rfl]
      refine ⟨e1, ?_, ?_, e4⟩
      · unfold rdB bsS; rw [e1, e0, if_neg (by decide), if_neg h0]; simp
      · unfold rdK bsS; rw [e1, e0, if_neg (by simp), if_neg h0]; simp
    · have e0 : stS rest n = 0 := by unfold stS; rw [if_neg h0, if_neg hr]
      have hm : rdM (PK En.new (stE rest)) 1 n = min n.toNat rest.length := rfl
      have ht : rest.take (min n.toNat rest.length) = rest.take n.toNat := by
        by_cases h : n.toNat ≤ rest.length
        · rw [Nat.min_eq_left h]
        · rw [Nat.min_eq_right (by omega), List.take_length, List.take_of_length_le (by omega)]
      refine ⟨e1, ?_, ?_, e4⟩
      · unfold rdB bsS; rw [e1, e0, if_pos rfl, if_neg h0, hm]; exact ht
      · unfold rdK bsS
        rw [e1, e0, if_pos ⟨rfl, rfl⟩, if_neg h0, hm, List.length_take]
        exact pk_upd1 _ _ _
theorem ss_peek (h : SS w0 w c rest X) (n : Int) :
    Calls Try.prog 16 #[.pointer (some ⟨c, 0, none⟩), .int .i64 1, .int .i64 n, .bool true] w fun e w' => ∃ v, e = .returned (.tuple #[v, .int .i64 (stS rest n)]) ∧ Byts v (bsS rest n) w' ∧ SS w0 w' c rest (fun k => X k ∨ Blk v k) ∧ Kp X w w' ∧ ∀ k, Blk v k → w.heap.size ≤ k := by
  have := h.read1 n true
  rw [(ss_rd (rest := rest) n).1, (ss_rd (rest := rest) n).2.1, (ss_rd (rest := rest) n).2.2.2] at this
  exact this
theorem ss_read (h : SS w0 w c rest X) (n : Int) :
    Calls Try.prog 16 #[.pointer (some ⟨c, 0, none⟩), .int .i64 1, .int .i64 n, .bool false] w fun e w' => ∃ v, e = .returned (.tuple #[v, .int .i64 (stS rest n)]) ∧ Byts v (bsS rest n) w' ∧ SS w0 w' c (rest.drop (bsS rest n).length) (fun k => X k ∨ Blk v k) ∧ Kp X w w' ∧ ∀ k, Blk v k → w.heap.size ≤ k := by
  have := h.read1 n false
  rw [(ss_rd (rest := rest) n).1, (ss_rd (rest := rest) n).2.1, (ss_rd (rest := rest) n).2.2.1] at this
  exact this
theorem bsS_split (rest : List UInt8) (n : Int) : bsS rest n ++ rest.drop (bsS rest n).length = rest := by
  unfold bsS
  split
  · rfl
  · rw [List.length_take]
    by_cases h : n.toNat ≤ rest.length
    · rw [Nat.min_eq_left h, List.take_append_drop]
    · rw [Nat.min_eq_right (by omega), List.drop_length, List.take_of_length_le (by omega), List.append_nil]
end
/-- The first loop: what was written stands in 'all', too. -/
structure S1 (w0 w : World) (c : Nat) (all : List UInt8) (v : Value) : Prop where
  st : SS w0 w c all (Blk v)
  row : Byts v all w
  mine : ∀ k, Blk v k → w0.heap.size ≤ k
/-- The second loop: what was read and what waits are together what was written. -/
structure S2 (w0 w : World) (c : Nat) (all got rest : List UInt8) (v u : Value) : Prop where
  st : SS w0 w c rest (fun k => Blk v k ∨ Blk u k)
  row : Byts v all w
  gr : Byts u got w
  mine : ∀ k, Blk v k ∨ Blk u k → w0.heap.size ≤ k
  apart : ∀ k, Blk v k → ¬ Blk u k
  all' : got ++ rest = all
theorem s1_add {w0 w1 w2 : World} {c : Nat} {all b : List UInt8} {v v' : Value} (hs : SS w0 w1 c (all ++ b) (Blk v)) (hm : ∀ k, Blk v k → w0.heap.size ≤ k) (t : Turn (Blk v) w1 w2) (hr : Byts v' (all ++ b) w2) (hb : ∀ k, Blk v' k → Blk v k ∨ (k = w1.heap.size ∧ k < w2.heap.size)) : S1 w0 w2 c (all ++ b) v' := by
  refine ⟨KSt.more hs t (fun k hk => (hb k hk).imp (fun h => h) (fun h => ⟨by omega, h.2⟩)) hm, hr, fun k hk => ?_⟩
  rcases hb k hk with h | h
  · exact hm k h
  · have := (KSt.turn hs).size; omega
/-- Behind a peek and a read. -/
structure S3 (w0 w : World) (c : Nat) (all got rest bs : List UInt8) (v u p b : Value) : Prop where
  st : SS w0 w c (rest.drop bs.length) (fun k => Blk v k ∨ Blk u k)
  row : Byts v all w
  gr : Byts u got w
  mine : ∀ k, Blk v k ∨ Blk u k → w0.heap.size ≤ k
  apart : ∀ k, Blk v k → ¬ Blk u k
  all' : got ++ rest = all
  hp : Byts p bs w
  hb : Byts b bs w
  pu : ∀ k, Blk b k → ¬ Blk u k
theorem s3_add {w0 w w2 : World} {c : Nat} {all got rest bs : List UInt8} {v u u' p b : Value} (h : S3 w0 w c all got rest bs v u p b) (hsplit : bs ++ rest.drop bs.length = rest) (t : Turn (Blk u) w w2) (hr : Byts u' (got ++ bs) w2) (hb : ∀ k, Blk u' k → Blk u k ∨ (k = w.heap.size ∧ k < w2.heap.size)) : S2 w0 w2 c all (got ++ bs) (rest.drop bs.length) v u' := by
  refine ⟨KSt.more h.st (t.mono (fun k hk => .inl (.inr hk))) (fun k hk => ?_) h.mine, h.row.kept t h.apart, hr, fun k hk => ?_, fun k hk hk' => ?_, by rw [List.append_assoc, hsplit]; exact h.all'⟩
  · rcases hk with hk | hk
    · exact .inl (.inl hk)
    · rcases hb k hk with h1 | h1
      · exact .inl (.inr h1)
      · exact .inr ⟨by omega, h1.2⟩
  · rcases hk with hk | hk
    · exact h.mine k (.inl hk)
    · rcases hb k hk with h1 | h1
      · exact h.mine k (.inr h1)
      · have := (KSt.turn h.st).size; omega
  · rcases hb k hk' with h1 | h1
    · exact h.apart k hk h1
    · have := WRow.lt h.row hk; omega
theorem s2_peek {w0 w : World} {c : Nat} {all got rest : List UInt8} {v u : Value} (h : S2 w0 w c all got rest v u) (n : Int) :
    Calls Try.prog 16 #[.pointer (some ⟨c, 0, none⟩), .int .i64 1, .int .i64 n, .bool true] w fun e w' => ∃ p, e = .returned (.tuple #[p, .int .i64 (stS rest n)]) ∧ S2 w0 w' c all got rest v u ∧ Byts p (bsS rest n) w' ∧ SS w0 w' c rest (fun k => (Blk v k ∨ Blk u k) ∨ Blk p k) ∧ ∀ k, Blk p k → ¬ (Blk v k ∨ Blk u k) := by
  refine (ss_peek h.st n).mono ?_
  rintro e w' ⟨p, rfl, h1, h2, h3, h4⟩
  refine ⟨p, rfl, ⟨KSt.fewer h2 (fun k hk => .inl hk), h3.row h.row (fun k hk => .inl hk), h3.row h.gr (fun k hk => .inr hk), h.mine, h.apart, h.all'⟩, h1, h2, fun k hk hk' => ?_⟩
  have := h4 k hk
  rcases hk' with hk' | hk'
  · have := WRow.lt h.row hk'; omega
  · have := WRow.lt h.gr hk'; omega
theorem s2_read {w0 w : World} {c : Nat} {all got rest : List UInt8} {v u p : Value} {n : Int} (h : S2 w0 w c all got rest v u) (hp : Byts p (bsS rest n) w) (hs : SS w0 w c rest (fun k => (Blk v k ∨ Blk u k) ∨ Blk p k)) :
    Calls Try.prog 16 #[.pointer (some ⟨c, 0, none⟩), .int .i64 1, .int .i64 n, .bool false] w fun e w' => ∃ q m ca, e = .returned (.tuple #[.slice q m ca, .int .i64 (stS rest n)]) ∧ m = (bsS rest n).length ∧ S3 w0 w' c all got rest (bsS rest n) v u p (.slice q m ca) := by
  refine (ss_read hs n).mono ?_
  rintro e w' ⟨b, rfl, h1, h2, h3, h4⟩
  obtain ⟨q, ca, rfl⟩ := h1.sl
  refine ⟨q, _, ca, rfl, rfl, KSt.fewer h2 (fun k hk => .inl (.inl hk)), h3.row h.row (fun k hk => .inl (.inl hk)), h3.row h.gr (fun k hk => .inl (.inr hk)), h.mine, h.apart, h.all', h3.row hp (fun k hk => .inr hk), h1, fun k hk hk' => ?_⟩
  have := h4 k hk
  have := WRow.lt h.gr hk'
  omega
theorem s2_rest {w0 w : World} {c : Nat} {all got rest : List UInt8} {v u : Value} (h : S2 w0 w c all got rest v u) (hl : rest.length ≤ 65536) :
    Calls Try.prog 16 #[.pointer (some ⟨c, 0, none⟩), .int .i64 1, .int .i64 1048576, .bool false] w fun e w' => ∃ q ca s, e = .returned (.tuple #[.slice q rest.length ca, .int .i64 s]) ∧ SS w0 w' c [] (fun k => Blk v k ∨ Blk u k) ∧ Byts v all w' ∧ Byts u got w' ∧ Byts (.slice q rest.length ca) rest w' := by
  refine (ss_read h.st 1048576).mono ?_
  have e1 : bsS rest 1048576 = rest := by
    unfold bsS
    rw [if_neg (by decide)]
    exact List.take_of_length_le (by show rest.length ≤ 1048576; omega)
  rw [e1]
  rintro e w' ⟨b, rfl, h1, h2, h3, h4⟩
  obtain ⟨q, ca, rfl⟩ := h1.sl
  rw [List.drop_length] at h2
  exact ⟨q, ca, _, rfl, KSt.fewer h2 (fun k hk => .inl hk), h3.row h.row (fun k hk => .inl hk), h3.row h.gr (fun k hk => .inr hk), h1⟩
theorem SS.turn {w0 w : World} {c : Nat} {rest : List UInt8} {X : Nat → Prop} (h : SS w0 w c rest X) : Turn NoBlock w0 w := KSt.turn h
theorem ss_len {w0 w : World} {c : Nat} {X : Nat → Prop} (h : SS w0 w c [] X) : Calls Try.prog 20 #[.pointer (some ⟨c, 0, none⟩), .int .i64 1] w fun e w' => e = .returned (.int .i64 0) ∧ w = w' := KSt.len1 h
set_option maxRecDepth 20000 in
set_option maxHeartbeats 4000000 in
theorem stream_past (p q : Option Addr) (len ca m cb : Nat) (w : World) (h : 60 < len ∨ 100 < m) :
    Calls Try.prog 4 #[.slice p len ca, .slice q m cb] w fun e w' => e = .returned (.bool true) ∧ Turn NoBlock w w' := by
  have cA := Lib.hid awake12
  have c1 := Lib.hid (show Calls Try.prog 10 #[.bool false, .int .i64 65536] w _ from knew_yes false 65536 w (by omega) (by omega))
  have two : (60 : Int) < len ∨ (¬ (60 : Int) < len ∧ (100 : Int) < m) := by omega
  clear h
  rcases two with h1 | ⟨h1, h2⟩
  all_goals
    go_enter Try.func4, Try.ntmps4
    go_wp2_with (first
      | (go_at_call 10; (with_reducible refine c1.out.mono ?_); rintro e w1 ⟨rfl, k1⟩; have K1 := Lib.hid k1; clear k1)
      | (go_at_call 11; (with_reducible refine (cA.out _).mono ?_); rintro e w2 ⟨rfl, t2⟩))
    go_ret
    exact ⟨rfl, TT K1.out.turn t2⟩
set_option maxRecDepth 20000 in
set_option maxHeartbeats 4000000 in
theorem stream_walk (p q : Option Addr) (len ca m cb : Nat) (bs : List (Value × List UInt8)) (zs : List Int) (w : World) (hl : len ≤ 60) (hm : m ≤ 100) (hb : BsAt w p len bs) (hz : ZsAt w q m zs) :
    Calls Try.prog 4 #[.slice p len ca, .slice q m cb] w fun e w' => e = .returned (.bool true) ∧ Turn NoBlock w w' := by
  have cA := Lib.hid awake12
  obtain ⟨i5, hi5, hz5, hs5, hb5⟩ := info_parts infoB
  have c1 := show Calls Try.prog 10 #[.bool false, .int .i64 65536] w _ from knew_yes false 65536 w (by omega) (by omega)
  have HZ := Lib.hid hz
  have HB := Lib.hid hb
  obtain ⟨c, hc⟩ : ∃ c, w.heap.size = c := ⟨_, rfl⟩
  rw [hc, pk_new] at c1
  have C1 := Lib.hid c1
  have l1 : ¬ (60 : Int) < len := by omega
  have l2 : ¬ (100 : Int) < m := by omega
  have HL := Lib.hid (And.intro hl hm)
  clear hz hb hc c1 hl hm
  go_enter Try.func4, Try.ntmps4
  go_wp2_with (go_at_call 10; (with_reducible refine C1.out.mono ?_); rintro e w1 ⟨rfl, k1⟩; have K1 := Lib.hid (show SS w w1 c [] NoBlock from k1); clear k1)
  go_loopg [6, 40] len (fun g s6 s40 wr => ∃ (i : Nat) (all : List UInt8) (p6 : Option Addr) (c6 : Nat), i ≤ len ∧ g = len - i ∧ s6 = .slice p6 all.length c6 ∧ s40 = .int .i64 i ∧ Hid (S1 w wr c all (.slice p6 all.length c6) ∧ all.length ≤ i * 500))
  case atStart => exact ⟨0, [], none, 0, by omega, by omega, rfl, rfl, Lib.hid ⟨⟨KSt.fewer K1.out (fun k hk => (blk_nil k hk).elim), byts_nil _, fun k hk => (blk_nil k hk).elim⟩, by simp⟩⟩
  case round =>
    obtain ⟨i, all, p6, c6, hi, hg, rfl, rfl, HT⟩ := hrel
    by_cases hlt : i < len
    · obtain ⟨g0, o0, rfl, hcell⟩ := HB.out.2 (by omega)
      obtain ⟨⟨vb, b⟩, hx⟩ : ∃ x, bs[i]? = some x := ⟨_, List.getElem?_eq_getElem (by rw [HB.out.1]; exact hlt)⟩
      obtain ⟨hcb, hrk⟩ := hcell i _ hx
      have d0 := (SS.turn HT.out.1.st).cell hcb (fun h => h)
      obtain ⟨pb, cbb, hvb, hcbb⟩ := hrk.sl
      dsimp only at hvb d0 hrk
      subst hvb
      have HRK := Lib.hid (fun W (t : Turn NoBlock w W) => hrk.past t)
      clear hcell hx hcb hrk hcbb
      by_cases h5 : 500 < b.length
      · have h5i : (500 : Int) < ((b.length : Nat) : Int) := by omega
        clear h5
        go_wp2_with (go_at_call 11; (with_reducible refine (cA.out _).mono ?_); rintro e w9 ⟨rfl, t9⟩)
        go_ret
        exact ⟨rfl, TT (SS.turn HT.out.1.st) t9⟩
      · have h5i : ¬ (500 : Int) < ((b.length : Nat) : Int) := by omega
        have hal := HT.out.2
        have hL := HL.out
        have HBL := Lib.hid (And.intro (show b.length ≤ 500 by omega) (show all.length + b.length ≤ 65536 by omega))
        have LB := Lib.hid (show all.length + b.length ≤ maxLen ∧ (all.length + b.length) * 1 ≤ 140737488355328 by unfold maxLen; omega)
        have HAL := Lib.hid (show all.length + b.length ≤ (i + 1) * 500 by omega)
        clear h5 hal hL
        go_wp2_with (first
          | (go_at_call 13; (with_reducible refine (ss_write HT.out.1.st _ b HBL.out.1 HBL.out.2 (HRK.out _ (SS.turn HT.out.1.st))).mono ?_); rintro e w3 ⟨rfl, k3, kp3⟩; have row3 := kp3.row HT.out.1.row (fun k hk => hk); have K3 := Lib.hid (And.intro k3 row3); clear k3 kp3 row3)
          | (at_builtin; refine wpList_append_w rfl (.tmp 62) (.tmp 63) 32 32 rfl K3.out.2 i5 _ 1 bytesT hi5 hz5 hs5 hb5 rfl rfl rfl (Rz.src (HRK.out _ (SS.turn K3.out.1)).rz 32 5 bytesT (bcells_one _)) LB.out.1 LB.out.2 ?_; intro v7 W7 r7 t7 k7; obtain ⟨p7, c7, rfl⟩ := r7.sl; have R7 := Lib.hid (And.intro r7 (And.intro t7 k7)); clear r7 t7 k7))
        go_roundg (len - (i + 1))
        case measure => omega
        case rel =>
          refine ⟨i + 1, all ++ b, p7, c7, by omega, by omega, by rw [List.length_append], by go_num, Lib.hid ⟨s1_add K3.out.1 HT.out.1.mine R7.out.2.1 ?_ ?_, by rw [List.length_append]; exact HAL.out⟩⟩
          · unfold Byts; rw [List.length_append, show bcells (all ++ b) = bcells all ++ bcells b by simp [bcells]]; exact R7.out.1
          · rw [List.length_append]; exact R7.out.2.2
    · obtain rfl : i = len := by omega
      have HAL := Lib.hid (show all.length ≤ 65536 by have := HT.out.2; have := HL.out; omega)
      have START := Lib.hid (show S2 w wr c all [] all (.slice p6 all.length c6) (.slice none 0 0) from ⟨KSt.fewer HT.out.1.st (fun k hk => hk.elim (fun h => h) (fun h => (blk_nil k h).elim)), HT.out.1.row, byts_nil _, fun k hk => hk.elim (HT.out.1.mine k) (fun h => (blk_nil k h).elim), fun k _ hk => (blk_nil k hk).elim, rfl⟩)
      go_wp2
      go_loopg [7, 68] m (fun g s7 s68 wr => ∃ (j : Nat) (got rest : List UInt8) (p7 : Option Addr) (c7 : Nat), j ≤ m ∧ g = m - j ∧ s7 = .slice p7 got.length c7 ∧ s68 = .int .i64 j ∧ Hid (S2 w wr c all got rest (.slice p6 all.length c6) (.slice p7 got.length c7)))
      case atStart => exact ⟨0, [], all, none, 0, by omega, by omega, rfl, rfl, START⟩
      case round =>
        obtain ⟨j, got, rest, p7, c7, hj, hg2, rfl, rfl, HT2⟩ := hrel
        have HGL := Lib.hid (show got.length + rest.length = all.length by rw [← HT2.out.all', List.length_append])
        by_cases hlt : j < m
        · obtain ⟨g0, o0, rfl, hcell⟩ := HZ.out.2 (by omega)
          obtain ⟨x, hx⟩ : ∃ x, zs[j]? = some x := ⟨_, List.getElem?_eq_getElem (by rw [HZ.out.1]; exact hlt)⟩
          have d0 := (SS.turn HT2.out.st).cell (hcell j x hx) (fun h => h)
          clear hcell hx
          have hbl : (bsS rest x).length ≤ rest.length := by
            have := congrArg List.length (bsS_split rest x)
            rw [List.length_append] at this
            omega
          have LB := Lib.hid (show got.length + (bsS rest x).length ≤ maxLen ∧ (got.length + (bsS rest x).length) * 1 ≤ 140737488355328 by unfold maxLen; have := HGL.out; have := HAL.out; omega)
          have HS := Lib.hid (bsS_split rest x)
          have CP := Lib.hid (s2_peek HT2.out x)
          have CR := Lib.hid (fun W p (h : S2 w W c all got rest (.slice p6 all.length c6) (.slice p7 got.length c7)) (hp : Byts p (bsS rest x) W) (hs : SS w W c rest (fun k => (Blk (.slice p6 all.length c6) k ∨ Blk (.slice p7 got.length c7) k) ∨ Blk p k)) => s2_read h hp hs)
          clear hbl
          generalize stS rest x = st at *
          generalize bsS rest x = bb at *
          go_wp2_with (first
            | (go_at_call 16; (with_reducible refine (CR.out _ _ K2.out.1 K2.out.2.1 K2.out.2.2.1).mono ?_); rintro e w4 ⟨q4, m4, ca4, rfl, rfl, k4⟩; have K4 := Lib.hid k4; clear k4)
            | (go_at_call 16; (with_reducible refine CP.out.mono ?_); rintro e w3 ⟨v3, rfl, k3, r3, s3, a3⟩; have K2 := Lib.hid (And.intro k3 (And.intro r3 (And.intro s3 a3))); clear k3 r3 s3 a3)
            | (go_at_call 15; (with_reducible refine (same7 _ _ _ bb K4.out.hp.rd K4.out.hb.rd.rz).mono ?_); rintro e w5 ⟨rfl, rfl⟩)
            | (at_builtin; refine wpList_append_w rfl (.tmp 93) (.tmp 94) 32 32 rfl K4.out.gr i5 _ 1 bytesT hi5 hz5 hs5 hb5 rfl rfl rfl (Rz.src K4.out.hb.rd.rz 32 5 bytesT (bcells_one _)) LB.out.1 LB.out.2 ?_; intro v8 W8 r8 t8 k8; obtain ⟨p8, c8, rfl⟩ := r8.sl; have R8 := Lib.hid (And.intro r8 (And.intro t8 k8)); clear r8 t8 k8))
          go_roundg (m - (j + 1))
          case measure => omega
          case rel =>
            refine ⟨j + 1, got ++ bb, rest.drop bb.length, p8, c8, by omega, by omega, by rw [List.length_append], by go_num, Lib.hid (s3_add K4.out HS.out R8.out.2.1 ?_ ?_)⟩
            · unfold Byts; rw [List.length_append, show bcells (got ++ bb) = bcells got ++ bcells bb by simp [bcells]]; exact R8.out.1
            · rw [List.length_append]; exact R8.out.2.2
        · obtain rfl : j = m := by omega
          have CR := Lib.hid (s2_rest HT2.out (by have := HGL.out; have := HAL.out; omega))
          have LB := Lib.hid (show got.length + rest.length ≤ maxLen ∧ (got.length + rest.length) * 1 ≤ 140737488355328 by unfold maxLen; have := HGL.out; have := HAL.out; omega)
          have HALL := Lib.hid HT2.out.all'
          have HAP := Lib.hid (And.intro HT2.out.apart HT2.out.mine)
          go_wp2_with (first
            | (go_at_call 16; (with_reducible refine CR.out.mono ?_); rintro e w3 ⟨q3, ca3, s3, rfl, k3, r3, g3, b3⟩; have K3 := Lib.hid (And.intro k3 (And.intro r3 (And.intro g3 b3))); clear k3 r3 g3 b3)
            | (at_builtin; refine wpList_append_w rfl (.tmp 102) (.tmp 103) 32 32 rfl K3.out.2.2.1 i5 _ 1 bytesT hi5 hz5 hs5 hb5 rfl rfl rfl (Rz.src K3.out.2.2.2.rd.rz 32 5 bytesT (bcells_one _)) LB.out.1 LB.out.2 ?_; intro v8 W8 r8 t8 k8; obtain ⟨p8, c8, rfl⟩ := r8.sl; have K8 := Lib.hid (show SS w W8 c [] NoBlock from KSt.more K3.out.1 (t8.mono (fun k hk => .inl (.inr hk))) (fun k hk => hk.elim) HAP.out.2); have R8 := Lib.hid (And.intro (show Byts (.slice p8 (got.length + rest.length) c8) all W8 by unfold Byts; rw [← HALL.out, List.length_append, show bcells (got ++ rest) = bcells got ++ bcells rest by simp [bcells]]; exact r8) (K3.out.2.1.kept t8 HAP.out.1)); clear r8 t8 k8)
            | (go_at_call 15; (with_reducible refine (same7 _ _ _ all R8.out.1.rd R8.out.2.rd.rz).mono ?_); rintro e w5 ⟨rfl, rfl⟩)
            | (go_at_call 20; (with_reducible refine (ss_len K8.out).mono ?_); rintro e w6 ⟨rfl, rfl⟩)
            | (go_at_call 11; (with_reducible refine (cA.out _).mono ?_); rintro e w9 ⟨rfl, t9⟩))
          go_ret
          exact ⟨rfl, TT (SS.turn K8.out) t9⟩
end Go.Proofs.Ytpfelgbedeiebaa
