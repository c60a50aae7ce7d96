/-
  TimerParts' walk. No conditions but that the numbers can be read.
-/
import Derived.Test.YtcbphfpfdfgehaaTView
import Derived.Test.YtcbphfpfdfgehaaTTwo
import Derived.Test.YtcbphfpfdfgehaaTInts
import Derived.Deep.LoopGhost
namespace Go.Proofs.Ytcbphfpfdfgehaa
open Go.ChangeShapes Go.WideShapes Go.ChangeAt Go.RowKit

theorem gone_more (L : List En) {s t : Int} (h : s ≤ t) : gone L t = gone L s ++ gone (rest L s) t ∧ rest L t = rest (rest L s) t := by
  induction L with
  | nil => exact ⟨rfl, rfl⟩
  | cons a r ih =>
    unfold gone rest at ih ⊢
    by_cases h1 : a.d ≤ s
    · have h2 : a.d ≤ t := by omega
      simp only [List.takeWhile_cons, List.dropWhile_cons, decide_eq_true h1, decide_eq_true h2, if_true, List.cons_append]
      exact ⟨by rw [ih.1], ih.2⟩
    · by_cases h2 : a.d ≤ t
      · simp [h1, h2]
      · simp [h1, h2]
theorem rest_pos {L : List En} (h : ∀ e ∈ L, 0 < e.d) : rest L 0 = L ∧ gone L 0 = [] := by
  cases L with
  | nil => exact ⟨rfl, rfl⟩
  | cons a r =>
    have : ¬ a.d ≤ 0 := by have := h a List.mem_cons_self; omega
    unfold rest gone
    simp [this]
theorem set_pos {most : Int} {L : List En} {k d : Int} (h : ∀ e ∈ L, 0 < e.d) : ∀ e ∈ setL most 0 L k d, 0 < e.d := by
  have hd : ∀ e ∈ dropK L k, 0 < e.d := fun e he => h e (List.mem_filter.1 he).1
  unfold setL
  split
  · exact hd
  · split
    · exact h
    · split
      · exact h
      · intro e he
        rcases List.mem_cons.1 ((insE_perm _ _).mem_iff.1 he) with rfl | he
        · show 0 < d; omega
        · exact hd e he
theorem keys_app (L M : List En) : keysOf (L ++ M) = keysOf L ++ keysOf M := by unfold keysOf; rw [List.map_append]
theorem keys_len (L : List En) (now : Int) : (keysOf (gone L now)).length ≤ L.length ∧ (keysOf (rest L now)).length ≤ L.length := by
  have := congrArg List.length (gone_rest L now)
  rw [List.length_append] at this
  unfold keysOf
  rw [List.length_map, List.length_map]
  omega
section
variable {w0 w w' W : World} {ca cb : Nat} {ma mb s : Int} {L : List En}
/-- A law's state between the steps. -/
structure PP (w0 w : World) (ca cb : Nat) (L : List En) (s : Int) (v : Value) : Prop where
  two : Two w0 w ca 100 s (rest L s) cb 100 0 L (Blk v)
  row : Nums v (keysOf (gone L s)) w
  lo : ∀ k, Blk v k → w0.heap.size ≤ k
theorem PP.len {v : Value} (h : PP w0 w ca cb L s v) : L.length ≤ 100 := by
  obtain ⟨F, G, h1, h2, -⟩ := h.two.ex
  have := h2.room
  omega
theorem pp_app {p : Option Addr} {m1 c1 : Nat} {v2 v3 : Value} {n t : Int} (h : PP w0 w ca cb L s (.slice p m1 c1)) (h0 : 0 ≤ n) (hn : s + n = t)
    (two : Two w0 w' ca 100 t (rest (rest L s) t) cb 100 0 L (fun k => Blk (.slice p m1 c1) k ∨ Blk v2 k)) {m2 : Nat} (hm : m1 + m2 = (keysOf (gone L t)).length)
    (r : WRow W 3 1 v3 (m1 + m2) (icells (keysOf (gone L s)) ++ icells (keysOf (gone (rest L s) t)))) (tt : Turn (Blk (.slice p m1 c1)) w' W) (k3 : ∀ k, Blk v3 k → Blk (.slice p m1 c1) k ∨ (k = w'.heap.size ∧ k < W.heap.size)) : PP w0 W ca cb L t v3 := by
  obtain ⟨e1, e2⟩ := gone_more L (s := s) (t := t) (by omega)
  have hsz0 := two.turn.size
  refine ⟨?_, ?_, fun k hk => ?_⟩
  · rw [e2]
    exact two.turned tt (fun k hk => ⟨.inl hk, h.lo k hk⟩) (fun k hk => (k3 k hk).elim (fun h1 => .inl (.inl h1)) (fun h1 => .inr ⟨by omega, h1.2⟩))
  · unfold Nums
    rw [← hm, e1, keys_app]
    unfold icells at r ⊢
    rw [List.map_append]
    exact r
  · rcases k3 k hk with h1 | h1
    · exact h.lo k h1
    · omega
end
set_option maxRecDepth 20000 in
set_option maxHeartbeats 4000000 in
theorem parts_walk (p q : Option Addr) (len cap len2 cap2 : Nat) (zs ys : List Int) (w : World) (hz : ZsAt w p len zs) (hy : ZsAt w q len2 ys) :
    Calls Try.prog 7 #[.slice p len cap, .slice q len2 cap2] w fun e w' => e = .returned (.bool true) ∧ Turn NoBlock w w' := by
  have cA := Lib.hid awake14
  have cN := Lib.hid (fun W => new_yes 100 W (by omega) (by omega))
  have HZ := Lib.hid hz
  have HY := Lib.hid hy
  obtain ⟨i3, hi3, hz3, hs3, hb3⟩ := info_parts infoI
  have HI := Lib.hid (And.intro hi3 (And.intro hz3 (And.intro hs3 hb3)))
  clear hz hy hi3 hz3 hs3 hb3
  by_cases hlen : 60 < len
  · have hd : decide ((len : Int) > 60) = true := by simp; omega
    go_enter Try.func7, Try.ntmps7
    go_wp2_with (first
    | (go_at_call 21; (with_reducible refine (cN.out w).mono ?_); rintro x w1 ⟨ca, rfl, k1, -, -⟩; have K1 := Lib.hid k1; clear k1)
    | (go_at_call 21; (with_reducible refine (cN.out _).mono ?_); rintro x w2 ⟨cb, rfl, k2, -, -⟩; have K2 := Lib.hid (two_new K1.out k2); clear k2)
    | (go_at_call 22; (with_reducible refine (cA.out _).mono ?_); rintro x w9 ⟨rfl, t9⟩))
    go_ret
    exact ⟨rfl, TT K2.out.turn t9⟩
  by_cases hlen2 : 40 < len2
  · have hd : decide ((len : Int) > 60) = false := by simp; omega
    have hd2 : decide ((len2 : Int) > 40) = true := by simp; omega
    go_enter Try.func7, Try.ntmps7
    go_wp2_with (first
    | (go_at_call 21; (with_reducible refine (cN.out w).mono ?_); rintro x w1 ⟨ca, rfl, k1, -, -⟩; have K1 := Lib.hid k1; clear k1)
    | (go_at_call 21; (with_reducible refine (cN.out _).mono ?_); rintro x w2 ⟨cb, rfl, k2, -, -⟩; have K2 := Lib.hid (two_new K1.out k2); clear k2)
    | (go_at_call 22; (with_reducible refine (cA.out _).mono ?_); rintro x w9 ⟨rfl, t9⟩))
    go_ret
    exact ⟨rfl, TT K2.out.turn t9⟩
  have hl : len ≤ 60 := by omega
  have hl2 : len2 ≤ 40 := by omega
  have hd : decide ((len : Int) > 60) = false := by simp; omega
  have hd2 : decide ((len2 : Int) > 40) = false := by simp; omega
  clear hlen hlen2
  go_enter Try.func7, Try.ntmps7
  go_wp2_with (first
    | (go_at_call 21; (with_reducible refine (cN.out w).mono ?_); rintro x w1 ⟨ca, rfl, k1, -, -⟩; have K1 := Lib.hid k1; clear k1)
    | (go_at_call 21; (with_reducible refine (cN.out _).mono ?_); rintro x w2 ⟨cb, rfl, k2, -, -⟩; have K2 := Lib.hid (two_new K1.out k2); clear k2))
  go_loopg [46] len (fun z s46 wr => ∃ (j : Nat) (L : List En), z = len - j ∧ j ≤ len ∧ s46 = .int .i64 (j : Int) ∧ Hid (Two w wr ca 100 0 L cb 100 0 L NoBlock ∧ ∀ e ∈ L, 0 < e.d))
  case atStart => exact ⟨0, [], rfl, Nat.zero_le _, rfl, Lib.hid ⟨K2.out, fun e he => by cases he⟩⟩
  case round =>
    obtain ⟨j, L, hz, hj, rfl, HR⟩ := hrel
    by_cases hlt : j < len
    · obtain ⟨d, hd3⟩ : ∃ d, zs[j]? = some d := ⟨_, List.getElem?_eq_getElem (by rw [HZ.out.1]; exact hlt)⟩
      obtain ⟨g, o, rfl, hcell⟩ := HZ.out.2.2 (by omega)
      have q0 := HR.out.1.turn.cell (hcell j d hd3) (fun h => h)
      have HD := Lib.hid (HZ.out.2.1 d (List.mem_of_getElem? hd3))
      have hjl : (j : Int) < (len : Int) := by omega
      have hw : IntKind.i64.wrap (-(j : Int)) = -(j : Int) := wrap_fit' _ (by unfold fit; omega)
      have HF := Lib.hid (show fit (-(j : Int)) by unfold fit; omega)
      clear hd3 hcell
      go_wp2_with (first
        | (go_at_call 23; (with_reducible refine (HR.out.1.set _ _ HF.out HD.out).mono ?_); rintro x w2 ⟨rfl, k2⟩; have K3 := Lib.hid k2.swap; clear k2)
        | (go_at_call 23; (with_reducible refine (K3.out.set _ _ HF.out HD.out).mono ?_); rintro x w3 ⟨rfl, k3⟩; have K4 := Lib.hid k3.swap; clear k3))
      go_roundg (len - (j + 1))
      case measure => omega
      case rel => exact ⟨j + 1, _, rfl, by omega, by go_num, Lib.hid ⟨K4.out, set_pos HR.out.2⟩⟩
    · have e : len = j := by omega
      subst e
      obtain ⟨e1, e2⟩ := rest_pos HR.out.2
      have HS := Lib.hid (show PP w wr ca cb L 0 (.slice none 0 0) from ⟨by rw [e1]; exact HR.out.1.turned (Turn.refl NoBlock wr) (fun k hk => hk.elim) (fun k hk => (blk_nil k hk).elim), by rw [e2]; exact wrow_nil _ _ _, fun k hk => (blk_nil k hk).elim⟩)
      clear HR hlt hz hj e1 e2
      go_wp2
      go_loopg [9, 10, 64] len2 (fun z s9 s10 s64 wr => ∃ (j : Nat) (s : Int) (v : Value), z = len2 - j ∧ j ≤ len2 ∧ s9 = .int .i64 s ∧ s10 = v ∧ s64 = .int .i64 (j : Int) ∧ 0 ≤ s ∧ s ≤ 1073741824 * (j : Int) ∧ Hid (PP w wr ca cb L s v))
      case atStart => exact ⟨0, 0, _, rfl, Nat.zero_le _, rfl, rfl, rfl, by omega, by omega, HS⟩
      case round =>
        obtain ⟨j, s, v, hz, hj, rfl, rfl, rfl, hs0, hs1, HR⟩ := hrel
        obtain ⟨pv, cv, hv⟩ := WRow.sl HR.out.row
        subst hv
        obtain ⟨m1, hm1⟩ : ∃ m1, (keysOf (gone L s)).length = m1 := ⟨_, rfl⟩
        rw [hm1] at HR ⊢
        have HM1 := Lib.hid hm1
        have hm1l : m1 ≤ 100 := by have := (keys_len L s).1; have := HR.out.len; omega
        clear hm1
        by_cases hlt : j < len2
        · obtain ⟨n, hn3⟩ : ∃ n, ys[j]? = some n := ⟨_, List.getElem?_eq_getElem (by rw [HY.out.1]; exact hlt)⟩
          obtain ⟨g, o, rfl, hcell⟩ := HY.out.2.2 (by omega)
          have q0 := HR.out.two.turn.cell (hcell j n hn3) (fun h => h)
          have hjl : (j : Int) < (len2 : Int) := by omega
          clear hn3 hcell
          by_cases hn0 : n < 0
          · go_wp2_with (first
              | (go_at_call 22; (with_reducible refine (cA.out _).mono ?_); rintro x w9 ⟨rfl, t9⟩))
            go_ret
            exact ⟨rfl, TT HR.out.two.turn t9⟩
          have g0 : decide (n < 0) = false := by simp; omega
          by_cases hn1 : 1073741824 < n
          · go_wp2_with (first
              | (go_at_call 22; (with_reducible refine (cA.out _).mono ?_); rintro x w9 ⟨rfl, t9⟩))
            go_ret
            exact ⟨rfl, TT HR.out.two.turn t9⟩
          have g1 : decide (1073741824 < n) = false := by simp; omega
          obtain ⟨t, ht⟩ : ∃ t, s + n = t := ⟨_, rfl⟩
          have hw : IntKind.i64.wrap (s + n) = t := by rw [ht]; exact wrap_fit' _ (by unfold fit; omega)
          have ht0 : 0 ≤ t := by omega
          have ht1 : t ≤ 1073741824 * ((j : Int) + 1) := by omega
          have CB := Lib.hid (HR.out.two.adv n t (by omega) ht (by omega))
          have HT := Lib.hid (And.intro (show 0 ≤ n by omega) ht)
          obtain ⟨m2, hm2⟩ : ∃ m2, (keysOf (gone (rest L s) t)).length = m2 := ⟨_, rfl⟩
          have hmm : m1 + m2 = (keysOf (gone L t)).length := by
            rw [(gone_more L (s := s) (t := t) (by omega)).1, keys_app, List.length_append, HM1.out, hm2]
          have HMM := Lib.hid (And.intro hmm hm2)
          have hml : m1 + m2 ≤ 100 := by have := (keys_len L t).1; have := HR.out.len; omega
          have HB := Lib.hid (And.intro (show m1 + m2 ≤ maxLen by unfold maxLen; omega) (show (m1 + m2) * 8 ≤ 140737488355328 by omega))
          clear hmm hm2 ht hn0 hn1 hs0 hs1
          obtain ⟨hi3, hz3, hs3, hb3⟩ := HI.out
          have HHI := Lib.hid (And.intro hi3 (And.intro hz3 (And.intro hs3 hb3)))
          have HPR := Lib.hid (fun (W : World) (k : Kp (Blk (.slice pv m1 cv)) wr W) => show WRow W 3 1 (.slice pv m1 cv) m1 (icells (keysOf (gone L s))) from by
            have := HR.out.row
            unfold Nums at this
            rw [HM1.out] at this
            exact k.row this (fun k hk => hk))
          clear hi3 hz3 hs3 hb3
          go_wp2_with (first
            | (go_at_call 28; (with_reducible refine CB.out.mono ?_); rintro x w3 ⟨v2, rfl, hv2, k3, kp3, kl3⟩; obtain ⟨p2, c2, rfl⟩ := WRow.sl hv2; rw [HMM.out.2] at hv2 k3 kl3 ⊢; have K3 := Lib.hid k3; have HRO := Lib.hid (HPR.out _ kp3); have HSR := Lib.hid (Rd.src (Nums.rd hv2) 36 3 intsT (icells_one _)); rw [HMM.out.2] at HSR; clear k3 kp3 kl3 hv2)
            | (at_builtin; refine wpList_append_w rfl (.tmp 86) (.tmp 87) 36 36 rfl HRO.out i3 _ 8 intsT HHI.out.1 HHI.out.2.1 HHI.out.2.2.1 HHI.out.2.2.2 rfl rfl rfl HSR.out HB.out.1 HB.out.2 ?_; intro v7 W7 r7 t7 k7; have S7 := Lib.hid (pp_app HR.out HT.out.1 HT.out.2 K3.out HMM.out.1 r7 t7 k7); clear r7 t7 k7))
          go_roundg (len2 - (j + 1))
          case measure => omega
          case rel => exact ⟨j + 1, t, v7, rfl, by omega, rfl, rfl, by go_num, ht0, by omega, S7⟩
        · have e : len2 = j := by omega
          subst e
          have CB := Lib.hid (HR.out.two.swap.adv s s (by omega) (by omega) (by omega))
          have HPR := Lib.hid (fun (W : World) (k : Kp (Blk (.slice pv m1 cv)) wr W) => show Nums (.slice pv m1 cv) (keysOf (gone L s)) W from k.row HR.out.row (fun k hk => hk))
          have HLE := Lib.hid (show (keysOf (gone L s)).length ≤ 1000000000 ∧ (keysOf (rest L s)).length ≤ 1000000000 from by have := keys_len L s; have := HR.out.len; omega)
          clear hs0 hs1
          go_wp2_with (first
            | (go_at_call 28; (with_reducible refine CB.out.mono ?_); rintro x w3 ⟨v2, rfl, hv2, k3, kp3, kl3⟩; have K3 := Lib.hid k3; have N3 := Lib.hid (And.intro hv2 (HPR.out _ kp3)); clear k3 kp3 kl3 hv2)
            | (go_at_call 30; (with_reducible refine (ints_eq _ _ _ _ HLE.out.1 N3.out.1 N3.out.2).mono ?_); rintro x w4 ⟨rfl, t4⟩; have K4 := Lib.hid (K3.out.past t4); clear t4)
            | (go_at_call 33; (with_reducible refine K4.out.swap.keys.mono ?_); rintro x w5 ⟨v5, rfl, hv5, t5⟩; have K5 := Lib.hid (And.intro (K4.out.past t5) hv5); clear t5 hv5)
            | (go_at_call 33; (with_reducible refine K5.out.1.keys.mono ?_); rintro x w6 ⟨v6, rfl, hv6, t6⟩; have K6 := Lib.hid (And.intro (K5.out.1.past t6) (And.intro (K5.out.2.past t6) hv6)); clear t6 hv6)
            | (go_at_call 30; (with_reducible refine (ints_eq _ _ _ _ HLE.out.2 K6.out.2.1 K6.out.2.2).mono ?_); rintro x w7 ⟨rfl, t7⟩; have K7 := Lib.hid (K6.out.1.past t7); clear t7)
            | (go_at_call 35; (with_reducible refine K7.out.swap.now'.mono ?_); rintro x w8 ⟨rfl, rfl⟩)
            | (go_at_call 22; (with_reducible refine (cA.out _).mono ?_); rintro x w9 ⟨rfl, t9⟩))
          go_ret
          exact ⟨rfl, TT K7.out.turn t9⟩
end Go.Proofs.Ytcbphfpfdfgehaa
