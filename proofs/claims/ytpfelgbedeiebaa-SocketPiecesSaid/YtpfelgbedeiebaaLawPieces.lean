/-
  SocketPieces' walk.
-/
import Derived.Test.YtpfelgbedeiebaaLawShuts
import Derived.Test.YtpfelgbedeiebaaKView
import Derived.Deep.LoopGhost
import Derived.OwnWalk
namespace Go.Proofs.Ytpfelgbedeiebaa
open Go.ChangeShapes Go.WideShapes Go.ChangeAt Go.RowKit

theorem infoS : (Try.prog.info? 32).map (fun i => (i.zero, i.size, i.bytes)) = some (some (.slice none 0 0), 1, 24) := by kernel_rfl
/-- An end where these pieces wait. -/
def pcE (l : List (List UInt8)) : En := ⟨true, false, false, l.flatten, l.map List.length⟩
def PS (w0 w : World) (c : Nat) (l : List (List UInt8)) (X : Nat → Prop) : Prop := KSt w0 w c true 65536 (PK (pcE l) En.new) X
theorem PS.turn {w0 w : World} {c : Nat} {l : List (List UInt8)} {X : Nat → Prop} (h : PS w0 w c l X) : Turn NoBlock w0 w := KSt.turn h
section
variable {w0 w : World} {c : Nat} {l : List (List UInt8)} {X : Nat → Prop}
theorem ps_write (h : PS w0 w c l X) (v : Value) (b : List UInt8) (hb : b.length ≤ 500) (h1 : 1 ≤ b.length) (hl : l.flatten.length + b.length ≤ 65536) (hr : Rk w v b) :
    Calls Try.prog 13 #[.pointer (some ⟨c, 0, none⟩), .int .i64 1, v] w fun e w' => e = .returned (.tuple #[.int .i64 (b.length : Nat), .int .i64 0]) ∧ PS w0 w' c (l ++ [b]) X ∧ Kp X w w' := by
  have hf := fit_whole (dg := true) (room := 65536) (fr := 65536 - l.flatten.length) (n := b.length) (by omega) (by omega) (fun _ => h1)
  have e1 : wrS true 65536 (PK (pcE l) En.new) 1 b.length = 0 := hf.1
  have e2 : wrN true 65536 (PK (pcE l) En.new) 1 b.length = b.length := by
    unfold wrN
    rw [if_pos e1]
    exact hf.2
  have e3 : wrK true 65536 (PK (pcE l) En.new) 1 b = PK (pcE (l ++ [b])) En.new := by
    unfold wrK
    rw [if_pos e1, e2]
    show updN (PK (pcE l) En.new) 0 (wrE true (pcE l) b.length b) = _
    rw [pk_upd0]
    unfold wrE pcE
    rw [List.take_length]
    simp
  have := h.write1 v b (by omega) hr
  rw [e1, e2, e3] at this
  exact this
theorem ps_none (h : PS w0 w c l X) (v : Value) (hr : Rk w v []) :
    Calls Try.prog 13 #[.pointer (some ⟨c, 0, none⟩), .int .i64 1, v] w fun e w' => e = .returned (.tuple #[.int .i64 0, .int .i64 (-10)]) ∧ PS w0 w' c l X ∧ Kp X w w' :=
  h.write1 v [] (by simp) hr
theorem ps_read {b : List UInt8} (h : PS w0 w c (b :: l) X) (n : Nat) (h1 : 1 ≤ b.length) :
    Calls Try.prog 16 #[.pointer (some ⟨c, 0, none⟩), .int .i64 0, .int .i64 (n : Int), .bool false] w fun e w' => ∃ v, e = .returned (.tuple #[v, .int .i64 0]) ∧ Byts v (b.take (min n b.length)) w' ∧ PS w0 w' c l X ∧ Kp X w w' := by
  have hne : ¬ (PK (pcE (b :: l)) En.new 0).b = [] := fun h => by
    have h2 : b ++ l.flatten = [] := h
    have := congrArg List.length h2
    rw [List.length_append] at this
    simp at this
    rw [this.1] at h1
    simp at h1
  have hs : rdSt (PK (pcE (b :: l)) En.new) 0 n = 0 := by
    unfold rdSt
    rw [if_neg (fun h => by cases h), if_neg (by omega), if_neg hne]
  have hm : rdM (PK (pcE (b :: l)) En.new) 0 n = min n b.length := by
    show min (n : Int).toNat b.length = _
    rw [Int.toNat_natCast]
  have e2 : rdB (PK (pcE (b :: l)) En.new) 0 n = b.take (min n b.length) := by
    unfold rdB
    rw [if_pos hs, hm]
    show (b ++ l.flatten).take _ = _
    rw [List.take_append_of_le_length (by omega)]
  have e3 : rdK (PK (pcE (b :: l)) En.new) 0 n false = PK (pcE l) En.new := by
    unfold rdK
    rw [if_pos ⟨hs, rfl⟩, hm]
    show updN (PK (pcE (b :: l)) En.new) 0 (dropE (pcE (b :: l)) (min n b.length)) = _
    rw [pk_upd0, dropE_cons (x := b.length) (r := l.map List.length) rfl]
    congr 1
    unfold pcE
    simp
  refine (h.read0 n false).mono ?_
  rw [hs, e2, e3]
  rintro e w' ⟨v, rfl, h2, h3, h4, -⟩
  exact ⟨v, rfl, h2, KSt.fewer h3 (fun k hk => .inl hk), h4⟩
theorem ps_pieces (h : PS w0 w c l X) : Calls Try.prog 22 #[.pointer (some ⟨c, 0, none⟩), .int .i64 0] w fun e w' => e = .returned (.int .i64 (l.length : Nat)) ∧ w = w' := by
  have := KSt.pieces0 h
  rw [show (PK (pcE l) En.new 0).p.length = l.length from List.length_map _] at this
  exact this
theorem ps_len0 (h : PS w0 w c [] X) : Calls Try.prog 20 #[.pointer (some ⟨c, 0, none⟩), .int .i64 0] w fun e w' => e = .returned (.int .i64 0) ∧ w = w' := KSt.len0 h
theorem ps_pieces0 (h : PS w0 w c [] X) : Calls Try.prog 22 #[.pointer (some ⟨c, 0, none⟩), .int .i64 0] w fun e w' => e = .returned (.int .i64 0) ∧ w = w' := KSt.pieces0 h
end
/-- The slices that are wanted, in a row of the call's own. -/
def wcells (l : List (Value × List UInt8)) : List Value := l.map (·.1)
structure P1 (w0 w : World) (c : Nat) (l : List (Value × List UInt8)) (v : Value) : Prop where
  st : PS w0 w c (l.map (·.2)) (Blk v)
  row : WRow w 32 1 v l.length (wcells l)
  mine : ∀ k, Blk v k → w0.heap.size ≤ k
  each : ∀ q ∈ l, Rk w0 q.1 q.2 ∧ 1 ≤ q.2.length
theorem p1_add {w0 w1 w2 : World} {c : Nat} {l : List (Value × List UInt8)} {q : Value × List UInt8} {v v' : Value} (hs : PS w0 w1 c (l.map (·.2) ++ [q.2]) (Blk v)) (hm : ∀ k, Blk v k → w0.heap.size ≤ k) (he : ∀ q ∈ l, Rk w0 q.1 q.2 ∧ 1 ≤ q.2.length) (hq : Rk w0 q.1 q.2 ∧ 1 ≤ q.2.length) (t : Turn (Blk v) w1 w2) (hr : WRow w2 32 1 v' (l.length + 1) (wcells l ++ [q.1])) (hb : ∀ k, Blk v' k → Blk v k ∨ (w1.heap.size ≤ k ∧ k < w2.heap.size)) : P1 w0 w2 c (l ++ [q]) v' := by
  refine ⟨?_, ?_, fun k hk => ?_, fun p hp => ?_⟩
  · rw [List.map_append]
    exact KSt.more hs t hb hm
  · rw [List.length_append, show wcells (l ++ [q]) = wcells l ++ [q.1] by simp [wcells]]
    exact hr
  · rcases hb k hk with h | h
    · exact hm k h
    · have := (PS.turn hs).size; omega
  · rcases List.mem_append.1 hp with h | h
    · exact he p h
    · simp at h; subst h; exact hq
set_option maxRecDepth 20000 in
set_option maxHeartbeats 4000000 in
theorem pieces_past (p : Option Addr) (len ca : Nat) (n : Int) (w : World) (h : 60 < len ∨ n < 0) :
    Calls Try.prog 5 #[.slice p len ca, .int .i64 n] w fun e w' => e = .returned (.bool true) ∧ Turn NoBlock w w' := by
  have cA := Lib.hid awake12
  have c1 := Lib.hid (show Calls Try.prog 10 #[.bool true, .int .i64 65536] w _ from knew_yes true 65536 w (by omega) (by omega))
  have two : (60 : Int) < len ∨ (¬ (60 : Int) < len ∧ n < 0) := by omega
  clear h
  rcases two with h1 | ⟨h1, h2⟩
  all_goals
    go_enter Try.func5, Try.ntmps5
    go_wp2_with (first
      | (go_at_call 10; (with_reducible refine c1.out.mono ?_); rintro e w1 ⟨rfl, k1⟩; have K1 := Lib.hid k1; clear k1)
      | (go_at_call 11; (with_reducible refine (cA.out _).mono ?_); rintro e w2 ⟨rfl, t2⟩))
    go_ret
    exact ⟨rfl, TT K1.out.turn t2⟩
theorem flat_len (l : List (Value × List UInt8)) (M : Nat) (h : ∀ q ∈ l, q.2.length ≤ M) : (l.map (·.2)).flatten.length ≤ l.length * M := by
  induction l with
  | nil => simp
  | cons q l ih =>
    have h1 := h q (by simp)
    have h2 := ih (fun p hp => h p (by simp [hp]))
    rw [List.map_cons, List.flatten_cons, List.length_append, List.length_cons, Nat.add_mul]
    omega
set_option maxRecDepth 20000 in
set_option maxHeartbeats 4000000 in
theorem pieces_walk (p : Option Addr) (len ca : Nat) (n : Nat) (bs : List (Value × List UInt8)) (w : World) (hl : len ≤ 60) (hn : n ≤ maxLen) (hb : BsAt w p len bs) :
    Calls Try.prog 5 #[.slice p len ca, .int .i64 (n : Int)] w fun e w' => e = .returned (.bool true) ∧ Turn NoBlock w w' := by
  have cA := Lib.hid awake12
  obtain ⟨iS, hiS, hzS, hsS, hbS⟩ := info_parts infoS
  have c1 := show Calls Try.prog 10 #[.bool true, .int .i64 65536] w _ from knew_yes true 65536 w (by omega) (by omega)
  have HB := Lib.hid hb
  obtain ⟨c, hc⟩ : ∃ c, w.heap.size = c := ⟨_, rfl⟩
  rw [hc, pk_new] at c1
  have C1 := Lib.hid c1
  have l1 : ¬ (60 : Int) < len := by omega
  have l2 : ¬ (n : Int) < 0 := by omega
  have HL := Lib.hid hl
  unfold maxLen at hn
  have hni : (n : Int) ≤ 9223372036854775807 := by omega
  clear hb hc c1 hl hn
  go_enter Try.func5, Try.ntmps5
  go_wp2_with (go_at_call 10; (with_reducible refine C1.out.mono ?_); rintro e w1 ⟨rfl, k1⟩; have K1 := Lib.hid (show PS w w1 c [] NoBlock from k1); clear k1)
  go_loopg [6, 34] len (fun g s6 s34 wr => ∃ (i : Nat) (l : List (Value × List UInt8)) (p6 : Option Addr) (c6 : Nat), i ≤ len ∧ g = len - i ∧ s6 = .slice p6 l.length c6 ∧ s34 = .int .i64 i ∧ Hid (P1 w wr c l (.slice p6 l.length c6) ∧ l.length ≤ i ∧ ∀ q ∈ l, q.2.length ≤ 500))
  case atStart => exact ⟨0, [], none, 0, by omega, by omega, rfl, rfl, Lib.hid ⟨⟨KSt.fewer K1.out (fun k hk => (blk_nil k hk).elim), wrow_nil _ _ _, fun k hk => (blk_nil k hk).elim, fun q hq => by cases hq⟩, Nat.le_refl _, fun q hq => by cases hq⟩⟩
  case round =>
    obtain ⟨i, l, p6, c6, hi, hg, rfl, rfl, HT⟩ := hrel
    by_cases hlt : i < len
    · obtain ⟨g0, o0, rfl, hcell⟩ := HB.out.2 (by omega)
      obtain ⟨⟨vb, b⟩, hx⟩ : ∃ x, bs[i]? = some x := ⟨_, List.getElem?_eq_getElem (by rw [HB.out.1]; exact hlt)⟩
      obtain ⟨hcb, hrk⟩ := hcell i _ hx
      have d0 := (PS.turn HT.out.1.st).cell hcb (fun h => h)
      obtain ⟨pb, cbb, hvb, hcbb⟩ := hrk.sl
      dsimp only at hvb d0 hrk
      subst hvb
      have HRK := Lib.hid (fun W (t : Turn NoBlock w W) => hrk.past t)
      clear hcell hx hcb hrk hcbb
      by_cases h5 : 500 < b.length
      · have h5i : (500 : Int) < ((b.length : Nat) : Int) := by omega
        clear h5
        go_wp2_with (go_at_call 11; (with_reducible refine (cA.out _).mono ?_); rintro e w9 ⟨rfl, t9⟩)
        go_ret
        exact ⟨rfl, TT (PS.turn HT.out.1.st) t9⟩
      · have h5i : ¬ (500 : Int) < ((b.length : Nat) : Int) := by omega
        by_cases hb0 : b.length = 0
        · obtain rfl : b = [] := List.eq_nil_of_length_eq_zero hb0
          simp only [List.length_nil] at d0 h5i
          have CW := Lib.hid (fun W (h : PS w W c (l.map (·.2)) (Blk (.slice p6 l.length c6))) (hr : Rk W (.slice pb 0 cbb) []) => ps_none h _ hr)
          have HR0 := Lib.hid (show ∀ W, Turn NoBlock w W → Rk W (.slice pb 0 cbb) [] from HRK.out)
          clear h5 hb0
          go_wp2_with (go_at_call 13; (with_reducible refine (CW.out _ HT.out.1.st (HR0.out _ (PS.turn HT.out.1.st))).mono ?_); rintro e w3 ⟨rfl, k3, kp3⟩; have row3 := kp3.row HT.out.1.row (fun k hk => hk); have K3 := Lib.hid (And.intro k3 row3); clear k3 kp3 row3)
          go_roundg (len - (i + 1))
          case measure => omega
          case rel => exact ⟨i + 1, l, p6, c6, by omega, by omega, rfl, by go_num, Lib.hid ⟨⟨K3.out.1, K3.out.2, HT.out.1.mine, HT.out.1.each⟩, by have := HT.out.2.1; omega, HT.out.2.2⟩⟩
        · have hpos : decide (0 < b.length) = true := decide_eq_true (by omega)
          have hposi : (0 : Int) < ((b.length : Nat) : Int) := by omega
          have hfl := flat_len l 500 HT.out.2.2
          have hL := HL.out
          have hll := HT.out.2.1
          have HBL := Lib.hid (And.intro (show b.length ≤ 500 by omega) (And.intro (show 1 ≤ b.length by omega) (show (l.map (·.2)).flatten.length + b.length ≤ 65536 by omega)))
          have LB := Lib.hid (show l.length + 1 ≤ maxLen ∧ (l.length + 1) * 24 ≤ 140737488355328 by unfold maxLen; omega)
          have HB0 := Lib.hid hb0
          clear h5 hfl hL hll hb0
          go_wp2_with (first
            | (go_at_call 13; (with_reducible refine (ps_write HT.out.1.st _ b HBL.out.1 HBL.out.2.1 HBL.out.2.2 (HRK.out _ (PS.turn HT.out.1.st))).mono ?_); rintro e w3 ⟨rfl, k3, kp3⟩; have row3 := kp3.row HT.out.1.row (fun k hk => hk); have K3 := Lib.hid (And.intro k3 row3); clear k3 kp3 row3)
            | (at_builtin; refine wpList_append_w rfl (.tmp 57) (.tmp 59) 27 27 rfl (WRow.past K3.out.2 ((Turn.refl NoBlock _).alloc _)) iS _ 24 bytess_s hiS hzS hsS hbS rfl rfl rfl (Rd.src (rd_new _ 32 1 #[.slice pb b.length cbb] rfl) 27 32 bytess_s (fun u hu => by simp at hu; subst hu; rfl)) LB.out.1 LB.out.2 ?_; intro v7 W7 r7 t7 k7; obtain ⟨p7, c7, rfl⟩ := r7.sl; have R7 := Lib.hid (And.intro r7 (And.intro t7 k7)); clear r7 t7 k7))
          go_roundg (len - (i + 1))
          case measure => omega
          case rel =>
            refine ⟨i + 1, l ++ [(.slice pb b.length cbb, b)], p7, c7, by omega, by omega, by rw [List.length_append]; rfl, by go_num, Lib.hid ⟨p1_add (q := (.slice pb b.length cbb, b)) K3.out.1 HT.out.1.mine HT.out.1.each ⟨HRK.out _ (Turn.refl _ _), HBL.out.2.1⟩ (((Turn.refl (Blk _) _).alloc _).trans R7.out.2.1 (fun k hk => .inl hk)) ?_ ?_, ?_, ?_⟩⟩
            · rw [List.length_append]; exact R7.out.1
            · intro k hk
              rw [List.length_append] at hk
              rcases R7.out.2.2 k hk with h | h
              · exact .inl h
              · right; have := h.1; simp at this; exact ⟨by omega, h.2⟩
            · rw [List.length_append]; have := HT.out.2.1; simp; omega
            · intro q hq
              rcases List.mem_append.1 hq with h | h
              · exact HT.out.2.2 q h
              · simp at h; subst h; exact HBL.out.1
    · obtain rfl : i = len := by omega
      have CP := Lib.hid (show Calls Try.prog 22 #[.pointer (some ⟨c, 0, none⟩), .int .i64 0] wr (fun e w' => e = .returned (.int .i64 (l.length : Nat)) ∧ wr = w') by
        have := ps_pieces HT.out.1.st
        rw [List.length_map] at this
        exact this)
      have HN := Lib.hid (show l.length ≤ 60 by have := HT.out.2.1; have := HL.out; omega)
      have ROW := HT.out.1.row
      have ST := Lib.hid HT
      clear ROW
      go_wp2_with (go_at_call 22; (with_reducible refine CP.out.mono ?_); rintro e w2 ⟨rfl, rfl⟩)
      go_loopg [69] l.length (fun g s69 w2 => ∃ (j : Nat), j ≤ l.length ∧ g = l.length - j ∧ s69 = .int .i64 j ∧ Hid (PS w w2 c ((l.drop j).map (·.2)) (Blk (.slice p6 l.length c6)) ∧ WRow w2 32 1 (.slice p6 l.length c6) l.length (wcells l)))
      case atStart => exact ⟨0, by omega, by omega, rfl, Lib.hid ⟨ST.out.1.st, ST.out.1.row⟩⟩
      case round =>
        obtain ⟨j, hj, hg2, rfl, HT2⟩ := hrel
        by_cases hlt : j < l.length
        · obtain ⟨⟨vb, b⟩, hx⟩ : ∃ x, l[j]? = some x := ⟨_, List.getElem?_eq_getElem hlt⟩
          obtain ⟨hrk, hb1⟩ := ST.out.1.each _ (List.mem_of_getElem? hx)
          obtain ⟨g1, o1, ca1, he, -, -, -, hcell, -⟩ := WRow.shape HT2.out.2 (by omega)
          have d1 := hcell j (by omega)
          rw [show (wcells l)[j]? = some vb by unfold wcells; rw [List.getElem?_map, hx]; rfl] at d1
          have hp6 : p6 = some ⟨g1, o1, none⟩ := by simp only [Value.slice.injEq] at he; exact he.1
          subst hp6
          have hdr : (l.drop j).map (·.2) = b :: (l.drop (j + 1)).map (·.2) := by
            rw [List.drop_eq_getElem_cons hlt, List.map_cons]
            congr 1
            rw [List.getElem?_eq_getElem hlt] at hx
            simp at hx
            rw [hx]
          have hst := HT2.out.1
          rw [hdr] at hst
          obtain ⟨pb, cbb, hvb, hcbb⟩ := hrk.sl
          dsimp only at hvb hrk hb1
          subst hvb
          have CR := Lib.hid (ps_read hst n hb1)
          have HRK := Lib.hid (fun W (t : Turn NoBlock w W) => hrk.past t)
          have hbl : b.length ≤ 500 := ST.out.2.2 (.slice pb b.length cbb, b) (List.mem_of_getElem? hx)
          have hbi : ((b.length : Nat) : Int) ≤ 500 := by omega
          have hjb : (j : Int) ≤ 60 := by have := HN.out; omega
          clear hcell he hx hdr hst hcbb hb1
          by_cases hnl : n ≤ b.length
          · obtain ⟨pn, cn, hsl, hrn⟩ := rk_take hrk hnl
            rw [Nat.min_eq_left hnl] at CR
            have HRN := Lib.hid (fun W (t : Turn NoBlock w W) => hrn.past t)
            have hq : (n : Int) ≤ ((b.length : Nat) : Int) := by omega
            clear hrn hnl hrk hbl
            go_wp2_with (first
              | (go_at_call 16; (with_reducible refine CR.out.mono ?_); rintro e w3 ⟨v3, rfl, b3, k3, kp3⟩; have row3 := kp3.row HT2.out.2 (fun k hk => hk); have K3 := Lib.hid (And.intro b3 (And.intro k3 row3)); clear b3 k3 kp3 row3)
              | (go_at_call 15; (with_reducible refine (same7 _ _ _ _ K3.out.1.rd (HRN.out _ (PS.turn K3.out.2.1)).rz).mono ?_); rintro e w5 ⟨rfl, rfl⟩))
            go_roundg (l.length - (j + 1))
            case measure => omega
            case rel =>
              have hll := HN.out
              exact ⟨j + 1, by omega, by omega, by go_num, Lib.hid ⟨K3.out.2.1, K3.out.2.2⟩⟩
          · obtain ⟨pn, cn, hsl, hrn⟩ := rk_take hrk (Nat.le_refl b.length)
            rw [Nat.min_eq_right (by omega)] at CR
            have HRN := Lib.hid (fun W (t : Turn NoBlock w W) => hrn.past t)
            have hq : ((b.length : Nat) : Int) < (n : Int) := by omega
            clear hrn hnl hrk hbl
            go_wp2_with (first
              | (go_at_call 16; (with_reducible refine CR.out.mono ?_); rintro e w3 ⟨v3, rfl, b3, k3, kp3⟩; have row3 := kp3.row HT2.out.2 (fun k hk => hk); have K3 := Lib.hid (And.intro b3 (And.intro k3 row3)); clear b3 k3 kp3 row3)
              | (go_at_call 15; (with_reducible refine (same7 _ _ _ _ K3.out.1.rd (HRN.out _ (PS.turn K3.out.2.1)).rz).mono ?_); rintro e w5 ⟨rfl, rfl⟩))
            go_roundg (l.length - (j + 1))
            case measure => omega
            case rel =>
              have hll := HN.out
              exact ⟨j + 1, by omega, by omega, by go_num, Lib.hid ⟨K3.out.2.1, K3.out.2.2⟩⟩
        · obtain rfl : j = l.length := by omega
          have HE := Lib.hid (show PS w wr c [] (Blk (.slice p6 l.length c6)) by have := HT2.out.1; rw [List.drop_length] at this; exact this)
          go_wp2_with (first
            | (go_at_call 20; (with_reducible refine (ps_len0 HE.out).mono ?_); rintro e w6 ⟨rfl, rfl⟩)
            | (go_at_call 22; (with_reducible refine (ps_pieces0 HE.out).mono ?_); rintro e w6 ⟨rfl, rfl⟩)
            | (go_at_call 11; (with_reducible refine (cA.out _).mono ?_); rintro e w9 ⟨rfl, t9⟩))
          go_ret
          exact ⟨rfl, TT (PS.turn HE.out) t9⟩
end Go.Proofs.Ytpfelgbedeiebaa
