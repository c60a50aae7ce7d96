/-
  ChannelCalls' walk.
-/
import Derived.Test.YtekbnpocmmfkkaaCCallsM
import Derived.OwnWalk
namespace Go.Proofs.Ytekbnpocmmfkkaa
open Go.ChangeShapes Go.WideShapes Go.ChangeAt Go.RowKit

theorem lc_no {w0 w : World} {c i : Nat} {zs : List Int} {ws : List Wt} {v : Value} (h : LC w0 w c zs i ws v) (hi : i < 40) {x : Int} (ha : againL x ws = true) :
    Calls Try.prog 23 #[.pointer (some ⟨c, 0, none⟩), .int .i64 0, .int .i64 (i : Int), .agg #[.int .i64 x, .slice none 0 0, .slice none 0 0]] w fun e w' => ∃ s : Int, e = .returned (.int .i64 s) ∧ (s == 0) = false ∧ LC w0 w' c zs (i + 1) ws v := by
  obtain ⟨⟨N, q, hN, hq, hc⟩, hrow, hm, hok⟩ := h
  have fin : ∀ w', Turn NoBlock w w' → LC w0 w' c zs (i + 1) ws v := fun w' t => ⟨⟨N, q, by omega, hq, hc.past t⟩, hrow.past t, hm, hok.skip⟩
  by_cases h0 : x = 0
  · refine (hc.noargs0 rfl (i : Int) x (.inl h0) _ _ ⟨_, _, _, rfl⟩ ⟨_, _, _, rfl⟩).mono (fun e w' h => ?_)
    exact ⟨_, h.1, by decide, fin w' h.2⟩
  · unfold againL at ha
    rw [beq_eq_false_iff_ne.2 h0, Bool.false_or, List.any_eq_true] at ha
    obtain ⟨t, ht, hx⟩ := ha
    have hx' : t.tx = x := by simpa using hx
    refine (hc.barred0 (by omega) rfl (i : Int) x h0 (by omega) t ht (.inr hx') _ _ ⟨_, _, _, rfl⟩ ⟨_, _, _, rfl⟩).mono (fun e w' h => ?_)
    exact ⟨_, h.1, by decide, fin w' h.2⟩
/-- Behind a call that was taken. -/
structure LY (w0 w : World) (c : Nat) (zs : List Int) (i : Nat) (ws : List Wt) (x : Int) (v : Value) : Prop where
  st : ∃ N q, N ≤ 2 * (i + 1) ∧ q.length = ws.length + 1 ∧ CSt w0 w c 100 N (KC [] (ws ++ [⟨i, x⟩]) q) (Blk v)
  row : Nums v (ws.map (·.who)) w
  mine : ∀ k, Blk v k → w0.heap.size ≤ k
  ok : WOK zs (i + 1) (ws ++ [⟨i, x⟩])
theorem lc_yes {w0 w : World} {c i : Nat} {zs : List Int} {ws : List Wt} {v : Value} (h : LC w0 w c zs i ws v) (hi : i < 40) {x : Int} (hx : zs[i]? = some x) (ha : againL x ws = false) :
    Calls Try.prog 23 #[.pointer (some ⟨c, 0, none⟩), .int .i64 0, .int .i64 (i : Int), .agg #[.int .i64 x, .slice none 0 0, .slice none 0 0]] w fun e w' => e = .returned (.int .i64 0) ∧ LY w0 w' c zs i ws x v := by
  obtain ⟨⟨N, q, hN, hq, hc⟩, hrow, hm, hok⟩ := h
  unfold againL at ha
  rw [Bool.or_eq_false_iff] at ha
  have h0 : x ≠ 0 := beq_eq_false_iff_ne.1 ha.1
  have hn : ∀ t ∈ ws, t.tx ≠ x := fun t ht => by
    have := List.any_eq_false.1 ha.2 t ht
    simpa using this
  have hl := hok.len
  refine (hc.call0 (by omega) rfl rfl (i : Int) (by omega) ⟨x, [], []⟩ ⟨by simp, by simp⟩ h0 (fun t ht => ⟨?_, hn t ht⟩) (fun t ht => by simp [KC] at ht) (fun t ht => by simp [KC] at ht) (by show q.length < 100; omega) _ _ (rdb_nil _) (rdi_nil _)).mono (fun e w' h => ?_)
  · obtain ⟨_, j, h1, h2, _⟩ := hok.each t ht
    omega
  · refine ⟨h.1, ⟨N + 2, q ++ [⟨x, [], []⟩], by omega, by simp [hq], ?_⟩, h.2.2.row hrow (fun k hk => hk), hm, hok.add hx h0 hn⟩
    have e1 : updN (updN (KC [] ws q) 1 (msAdd (KC [] ws q 1) ⟨x, [], []⟩)) 0 ⟨(KC [] ws q 0).op, (KC [] ws q 0).q, (KC [] ws q 0).ws ++ [⟨(i : Int), x⟩]⟩ = KC [] (ws ++ [⟨(i : Int), x⟩]) (q ++ [⟨x, [], []⟩]) := by
      funext j
      unfold updN KC msAdd
      by_cases j0 : j = 0
      · simp [j0]
      · by_cases j1 : j = 1
        · simp [j1]
        · simp [j0, j1]
    rw [← e1]
    exact h.2.1
theorem ly_step {w0 w w' : World} {c i : Nat} {zs : List Int} {ws : List Wt} {x : Int} {v v' : Value} (h : LY w0 w c zs i ws x v) (t : Turn (Blk v) w w') (hr : Nums v' ((ws ++ [Wt.mk (i : Int) x]).map (·.who)) w') (hb : ∀ k, Blk v' k → Blk v k ∨ (w.heap.size ≤ k ∧ k < w'.heap.size)) : LC w0 w' c zs (i + 1) (ws ++ [⟨(i : Int), x⟩]) v' := by
  obtain ⟨⟨N, q, hN, hq, hc⟩, hrow, hm, hok⟩ := h
  refine ⟨⟨N, q, hN, by rw [hq]; simp, hc.more t hb hm⟩, hr, fun k hk => ?_, hok⟩
  rcases hb k hk with h | h
  · exact hm k h
  · have := hc.turn.size; omega
theorem calls_past (p : Option Addr) (len cap : Nat) (ans : Int) (f : Bool) (w : World) (h : 40 < len) : Calls Try.prog 6 #[.slice p len cap, .int .i64 ans, .bool f] w fun e w' => e = .returned (.bool true) ∧ Turn NoBlock w w' := by
  have c1 : Calls Try.prog 8 #[.int .i64 100] w fun x w' => x = .returned (.pointer (some ⟨w.heap.size, 0, none⟩)) ∧ CSt w w' w.heap.size 100 0 (fun _ => ⟨true, [], []⟩) NoBlock := cst_new 100 w (by omega) (by omega)
  have cA := Lib.hid awake11
  go_enter Try.func6, Try.ntmps6
  go_wp2_with (first
    | (go_at_call 8; (with_reducible refine c1.mono ?_); rintro e w1 ⟨rfl, k1⟩; have K1 := Lib.hid k1; clear k1)
    | (go_at_call 9; (with_reducible refine (cA.out _).mono ?_); rintro e w2 ⟨rfl, t2⟩))
  go_ret
  exact ⟨rfl, TT K1.out.turn t2⟩
theorem rdi_cells {w : World} {p : Option Addr} {len cap : Nat} {zs : List Int} (h : RdI w (.slice p len cap) zs) (hl : zs.length = len) (h0 : 0 < len) : ∃ g o, p = some ⟨g, o, none⟩ ∧ ∀ j x, zs[j]? = some x → w.cell? ⟨g, o + j, none⟩ = some (.int .i64 x) := by
  obtain ⟨p', c', he, hz, hc⟩ := h.form
  simp only [Value.slice.injEq] at he
  obtain ⟨rfl, h1, rfl⟩ := he
  cases p with
  | none => have := hz rfl; omega
  | some a =>
    obtain ⟨g, o, rfl, hj⟩ := hc a rfl
    refine ⟨g, o, rfl, fun j x hx => ?_⟩
    have hlt := (List.getElem?_eq_some_iff.1 hx).1
    rw [hj j (by omega)]
    unfold icells
    rw [List.getElem?_map, hx]
    rfl
theorem fin_put {w0 w : World} {c N : Nat} {q0 q : List Msg} {ws : List Wt} {X : Nat → Prop} (h : CSt w0 w c 100 N (KC q0 ws q) X) (hN : N ≤ 1000) (hq : q0.length < 100) (ans : Int) (hn : ∀ t ∈ ws, t.tx ≠ ans) :
    Calls Try.prog 21 #[.pointer (some ⟨c, 0, none⟩), .int .i64 1, .agg #[.int .i64 ans, .slice none 0 0, .slice none 0 0]] w fun x w' => x = .returned (.tuple #[.int .i64 (-1), .int .i64 0]) ∧ CSt w0 w' c 100 (N + 1) (KC (q0 ++ [⟨ans, [], []⟩]) ws q) X := by
  refine (h.put1 (by omega) rfl rfl ⟨ans, [], []⟩ ⟨by simp, by simp⟩ hn hq _ _ (rdb_nil _) (rdi_nil _)).mono (fun x w' h => ⟨h.1, ?_⟩)
  have e1 : updN (KC q0 ws q) 0 (msAdd (KC q0 ws q 0) ⟨ans, [], []⟩) = KC (q0 ++ [⟨ans, [], []⟩]) ws q := by
    funext j
    unfold updN KC msAdd
    by_cases j0 : j = 0
    · simp [j0]
    · simp [j0]
  rw [← e1]
  exact h.2.1
theorem fin_wake {w0 w : World} {c N : Nat} {q : List Msg} {ws : List Wt} {X : Nat → Prop} (h : CSt w0 w c 100 N (KC [] ws q) X) (hN : N ≤ 1000) (ans : Int) (k : Nat) (t : Wt) (hh : HitAt ans ws k t) :
    Calls Try.prog 21 #[.pointer (some ⟨c, 0, none⟩), .int .i64 1, .agg #[.int .i64 ans, .slice none 0 0, .slice none 0 0]] w fun x w' => x = .returned (.tuple #[.int .i64 t.who, .int .i64 0]) ∧ CSt w0 w' c 100 (N + 1) (KC [⟨ans, [], []⟩] (ws.eraseIdx k) q) X := by
  refine (h.wake1 (by omega) rfl rfl ⟨ans, [], []⟩ ⟨by simp, by simp⟩ k t hh.byTx hh.at' _ _ (rdb_nil _) (rdi_nil _) (fun j hj => (hj.elim (fun h => blk_nil j h) (fun h => blk_nil j h)).elim)).mono (fun x w' h => ⟨h.1, ?_⟩)
  have e1 : updN (KC [] ws q) 0 (msAns (KC [] ws q 0) k ⟨ans, [], []⟩) = KC [⟨ans, [], []⟩] (ws.eraseIdx k) q := by
    funext j
    unfold updN KC msAns
    by_cases j0 : j = 0
    · simp [j0]
    · simp [j0]
  rw [← e1]
  exact h.2.1
theorem fin_forget {w0 w : World} {c N : Nat} {q : List Msg} {ws : List Wt} {X : Nat → Prop} (h : CSt w0 w c 100 N (KC [] ws q) X) (hN : N ≤ 1000) (ans : Int) (k : Nat) (t : Wt) (hh : HitAt ans ws k t) :
    Calls Try.prog 25 #[.pointer (some ⟨c, 0, none⟩), .int .i64 0, .int .i64 t.who] w fun x w' => x = .returned (.int .i64 0) ∧ CSt w0 w' c 100 N (KC [] (ws.eraseIdx k) q) X := by
  refine (h.forget0 (by omega) rfl t.who k hh.byWho hh.lt).mono (fun x w' h => ⟨h.1, ?_⟩)
  have e1 : updN (KC [] ws q) 0 ⟨(KC [] ws q 0).op, (KC [] ws q 0).q, (KC [] ws q 0).ws.eraseIdx k⟩ = KC [] (ws.eraseIdx k) q := by
    funext j
    unfold updN KC
    by_cases j0 : j = 0
    · simp [j0]
    · simp [j0]
  rw [← e1]
  exact h.2.1
theorem fin_len {w0 w : World} {c N : Nat} {m n : Msg} {q : List Msg} {ws : List Wt} {X : Nat → Prop} (h : CSt w0 w c 100 N (KC [m, n] ws q) X) (hN : N ≤ 1000) : Calls Try.prog 13 #[.pointer (some ⟨c, 0, none⟩), .int .i64 0] w fun x w' => x = .returned (.int .i64 2) ∧ Turn NoBlock w w' :=
  h.len (by omega) (e := 0) (by omega)
theorem rdi_at {w : World} {g o len cap : Nat} {zs : List Int} (h : RdI w (.slice (some ⟨g, o, none⟩) len cap) zs) (hl : zs.length = len) (j : Nat) (x : Int) (hx : zs[j]? = some x) : w.cell? ⟨g, o + j, none⟩ = some (.int .i64 x) := by
  have hlt := (List.getElem?_eq_some_iff.1 hx).1
  obtain ⟨g', o', he, hc⟩ := rdi_cells h hl (by omega)
  simp only [Option.some.injEq, Addr.mk.injEq, and_true] at he
  obtain ⟨rfl, rfl⟩ := he
  exact hc j x hx
theorem LC.turn {w0 w : World} {c i : Nat} {zs : List Int} {ws : List Wt} {v : Value} (h : LC w0 w c zs i ws v) : Turn NoBlock w0 w := by
  obtain ⟨N, q, _, _, hcs⟩ := h.st
  exact hcs.turn
theorem LY.turn {w0 w : World} {c i : Nat} {zs : List Int} {ws : List Wt} {v : Value} {x : Int} (h : LY w0 w c zs i ws x v) : Turn NoBlock w0 w := by
  obtain ⟨N, q, _, _, hcs⟩ := h.st
  exact hcs.turn
set_option maxRecDepth 20000 in
set_option maxHeartbeats 4000000 in
theorem calls_walk (p : Option Addr) (len cap : Nat) (ans : Int) (f : Bool) (zs : List Int) (w : World) (h : len ≤ 40) (hl : zs.length = len) (hr : 0 < len → RdI w (.slice p len cap) zs) : Calls Try.prog 6 #[.slice p len cap, .int .i64 ans, .bool f] w fun e w' => e = .returned (.bool true) ∧ Turn NoBlock w w' := by
  have c1 : Calls Try.prog 8 #[.int .i64 100] w fun x w' => x = .returned (.pointer (some ⟨w.heap.size, 0, none⟩)) ∧ CSt w w' w.heap.size 100 0 (fun _ => ⟨true, [], []⟩) NoBlock := cst_new 100 w (by omega) (by omega)
  have cA := Lib.hid awake11
  obtain ⟨c, hc⟩ : ∃ c, w.heap.size = c := ⟨_, rfl⟩
  rw [hc] at c1
  have HL := Lib.hid hl
  have HR := Lib.hid (fun W (t : Turn NoBlock w W) (h0 : 0 < len) => RdI.past (hr h0) t)
  obtain ⟨iI, hiI, hzI, hsI, hbI⟩ := info_parts infoI
  have hl0 : (len : Int) ≤ 40 := by omega
  clear hc hr hl
  go_enter Try.func6, Try.ntmps6
  go_wp2_with (go_at_call 8; (with_reducible refine c1.mono ?_); rintro e w1 ⟨rfl, k1⟩; rw [kc_new] at k1; have K1 := Lib.hid k1; clear k1)
  go_loopg [8, 37] len (fun g s8 s37 wr => ∃ (i : Nat) (ws : List Wt) (p8 : Option Addr) (c8 : Nat), i ≤ len ∧ g = len - i ∧ s8 = .slice p8 ws.length c8 ∧ s37 = .int .i64 i ∧ Hid (LC w wr c zs i ws (.slice p8 ws.length c8)))
  case atStart => exact ⟨0, [], none, 0, by omega, by omega, rfl, rfl, Lib.hid ⟨⟨0, [], by omega, rfl, K1.out.fewer (fun k hk => (blk_nil k hk).elim)⟩, wrow_nil _ _ _, fun k hk => (blk_nil k hk).elim, WOK.zero zs⟩⟩
  case round =>
    obtain ⟨i, ws, p8, c8, hi, hg, rfl, rfl, HT⟩ := hrel
    by_cases hlt : i < len
    · obtain ⟨g0, o0, rfl, hcell⟩ := rdi_cells (HR.out _ HT.out.turn (by omega)) HL.out (by omega)
      obtain ⟨x, hx⟩ : ∃ x, zs[i]? = some x := ⟨_, List.getElem?_eq_getElem (by rw [HL.out]; exact hlt)⟩
      have d0 := hcell i x hx
      have HX := Lib.hid hx
      have hc0 := hcell
      clear hcell hx
      have hn : ws.length ≤ i := HT.out.ok.len
      have hi40 : i < 40 := by omega
      cases ha : againL x ws with
      | true =>
        have cC := lc_no HT.out hi40 ha
        have HA := Lib.hid ha
        clear ha
        have d0' := d0
        go_wp2_with (go_at_call 23; (with_reducible refine cC.mono ?_); rintro e w2 ⟨s, rfl, hs, k2⟩; have K2 := Lib.hid k2; clear k2)
        go_loopg [12, 51] ws.length (fun g s12 s51 wr => ∃ (m : Nat), m ≤ ws.length ∧ g = ws.length - m ∧ s12 = .bool (againL x (ws.take m)) ∧ s51 = .int .i64 m ∧ Hid (w2 = wr))
        case atStart => exact ⟨0, by omega, by omega, by rw [again_nil], rfl, Lib.hid rfl⟩
        case round =>
          obtain ⟨m, hm, hg2, rfl, rfl, HW⟩ := hrel
          obtain rfl := HW.out
          by_cases hlt2 : m < ws.length
          · obtain ⟨t, ht⟩ : ∃ t, ws[m]? = some t := ⟨_, List.getElem?_eq_getElem hlt2⟩
            obtain ⟨g8, o8, rfl, hc8⟩ := rdi_cells K2.out.row.rd (by simp) (by omega : 0 < ws.length)
            have d1 := hc8 m t.who (by rw [List.getElem?_map, ht]; rfl)
            obtain ⟨_, j, hj, hwho, hzj⟩ := HT.out.ok.each t (List.mem_of_getElem? ht)
            rw [hwho] at d1
            have d2 := rdi_at (HR.out w2 K2.out.turn (by omega)) HL.out j t.tx hzj
            have HS := Lib.hid (again_step x ws m t ht)
            have hjl : j < len := by omega
            clear hc8 hzj hwho ht
            cases hag : againL x (ws.take m) with
            | true =>
              rw [hag] at HS
              go_wp2
              go_roundg (ws.length - (m + 1))
              case measure => omega
              case rel => exact ⟨m + 1, by omega, by omega, by rw [HS.out]; rfl, by go_num, Lib.hid rfl⟩
            | false =>
              rw [hag] at HS
              go_wp2
              go_roundg (ws.length - (m + 1))
              case measure => omega
              case rel => exact ⟨m + 1, by omega, by omega, by rw [HS.out]; rfl, by go_num, Lib.hid rfl⟩
          · obtain rfl : m = ws.length := by omega
            rw [List.take_length, HA.out]
            go_wp2
            go_roundg (len - (i + 1))
            case measure => omega
            case rel => exact ⟨i + 1, ws, p8, c8, by omega, by omega, rfl, by go_num, K2⟩
      | false =>
        have cC := lc_yes HT.out hi40 HX.out ha
        have HA := Lib.hid ha
        clear ha
        have d0' := d0
        go_wp2_with (go_at_call 23; (with_reducible refine cC.mono ?_); rintro e w2 ⟨rfl, k2⟩; have K2 := Lib.hid k2; clear k2)
        go_loopg [12, 51] ws.length (fun g s12 s51 wr => ∃ (m : Nat), m ≤ ws.length ∧ g = ws.length - m ∧ s12 = .bool (againL x (ws.take m)) ∧ s51 = .int .i64 m ∧ Hid (w2 = wr))
        case atStart => exact ⟨0, by omega, by omega, by rw [again_nil], rfl, Lib.hid rfl⟩
        case round =>
          obtain ⟨m, hm, hg2, rfl, rfl, HW⟩ := hrel
          obtain rfl := HW.out
          by_cases hlt2 : m < ws.length
          · obtain ⟨t, ht⟩ : ∃ t, ws[m]? = some t := ⟨_, List.getElem?_eq_getElem hlt2⟩
            obtain ⟨g8, o8, rfl, hc8⟩ := rdi_cells K2.out.row.rd (by simp) (by omega : 0 < ws.length)
            have d1 := hc8 m t.who (by rw [List.getElem?_map, ht]; rfl)
            obtain ⟨_, j, hj, hwho, hzj⟩ := HT.out.ok.each t (List.mem_of_getElem? ht)
            rw [hwho] at d1
            have d2 := rdi_at (HR.out w2 K2.out.turn (by omega)) HL.out j t.tx hzj
            have HS := Lib.hid (again_step x ws m t ht)
            have hjl : j < len := by omega
            clear hc8 hzj hwho ht
            cases hag : againL x (ws.take m) with
            | true =>
              rw [hag] at HS
              go_wp2
              go_roundg (ws.length - (m + 1))
              case measure => omega
              case rel => exact ⟨m + 1, by omega, by omega, by rw [HS.out]; rfl, by go_num, Lib.hid rfl⟩
            | false =>
              rw [hag] at HS
              go_wp2
              go_roundg (ws.length - (m + 1))
              case measure => omega
              case rel => exact ⟨m + 1, by omega, by omega, by rw [HS.out]; rfl, by go_num, Lib.hid rfl⟩
          · obtain rfl : m = ws.length := by omega
            rw [List.take_length, HA.out]
            have hrow := K2.out.row
            have HB := Lib.hid (show ws.length + 1 ≤ maxLen by unfold maxLen; omega)
            have HB2 := Lib.hid (show (ws.length + 1) * 8 ≤ 140737488355328 by omega)
            unfold Nums at hrow
            rw [List.length_map] at hrow
            have HROW := Lib.hid hrow
            clear hrow
            have HSRC := Lib.hid (Rd.src (rd_new w2 3 1 #[.int .i64 (i : Int)] rfl) 36 3 intsT (fun u hu => by simp at hu; subst hu; rfl))
            go_wp2_with (at_builtin; refine wpList_append_w rfl (.tmp 71) (.tmp 73) 36 36 rfl (HROW.out.past ((Turn.refl NoBlock w2).alloc _)) iI _ 8 intsT hiI hzI hsI hbI rfl rfl rfl HSRC.out HB.out HB2.out ?_; intro v7 W7 r7 t7 k7; obtain ⟨p7, c7, rfl⟩ := r7.sl; have R7 := Lib.hid (And.intro r7 (And.intro t7 k7)); clear r7 t7 k7)
            go_roundg (len - (i + 1))
            case measure => omega
            case rel =>
              refine ⟨i + 1, ws ++ [⟨i, x⟩], p7, c7, by omega, by omega, ?_, by go_num, ?_⟩
              · rw [List.length_append]; rfl
              · refine Lib.hid (ly_step K2.out ?_ ?_ ?_)
                · exact (TU ((Turn.refl NoBlock w2).alloc _)).trans R7.out.2.1 (fun _ h => .inl h)
                · have hr7 := R7.out.1
                  unfold Nums
                  rw [List.length_map, List.map_append, List.length_append]
                  unfold icells
                  rw [List.map_append]
                  exact hr7
                · intro k hk
                  rw [List.length_append] at hk
                  rcases R7.out.2.2 k hk with h9 | h9
                  · exact .inl h9
                  · right
                    simp at h9
                    omega
    · obtain rfl : i = len := by omega
      clear hlt hg hi
      obtain ⟨N, q, hN, hq, hcs⟩ := HT.out.st
      have HC := Lib.hid (And.intro hcs (And.intro (show N ≤ 100 by omega) hq))
      have hn : ws.length ≤ i := HT.out.ok.len
      clear hcs hN hq
      go_wp2_with fail
      go_loopg [15, 78] ws.length (fun g s15 s78 wr' => ∃ (m : Nat), m ≤ ws.length ∧ g = ws.length - m ∧ s15 = .int .i64 (wantL ans (ws.take m)) ∧ s78 = .int .i64 m ∧ Hid (wr = wr'))
      case atStart => exact ⟨0, by omega, by omega, rfl, rfl, Lib.hid rfl⟩
      case round =>
        obtain ⟨m, hm, hg2, rfl, rfl, HW⟩ := hrel
        obtain rfl := HW.out
        by_cases hlt2 : m < ws.length
        · obtain ⟨t, ht⟩ : ∃ t, ws[m]? = some t := ⟨_, List.getElem?_eq_getElem hlt2⟩
          obtain ⟨g8, o8, rfl, hc8⟩ := rdi_cells HT.out.row.rd (by simp) (by omega : 0 < ws.length)
          have d1 := hc8 m t.who (by rw [List.getElem?_map, ht]; rfl)
          obtain ⟨_, j, hj, hwho, hzj⟩ := HT.out.ok.each t (List.mem_of_getElem? ht)
          rw [hwho] at d1
          obtain ⟨g0, o0, rfl, hcell⟩ := rdi_cells (HR.out _ HT.out.turn (by omega)) HL.out (by omega)
          have d2 := hcell j t.tx hzj
          have HS := Lib.hid (want_step ans ws m t ht)
          have HJ := Lib.hid hwho
          have hjl : j < i := by omega
          clear hc8 hzj hwho ht hcell
          by_cases hta : t.tx = ans
          · have hb : (t.tx == ans) = true := by simpa using hta
            rw [if_pos hta, HJ.out] at HS
            clear hta
            go_wp2
            go_roundg (ws.length - (m + 1))
            case measure => omega
            case rel => exact ⟨m + 1, by omega, by omega, by rw [HS.out], by go_num, Lib.hid rfl⟩
          · have hb : (t.tx == ans) = false := by simpa using hta
            rw [if_neg hta] at HS
            clear hta
            go_wp2
            go_roundg (ws.length - (m + 1))
            case measure => omega
            case rel => exact ⟨m + 1, by omega, by omega, by rw [HS.out], by go_num, Lib.hid rfl⟩
        · obtain rfl : m = ws.length := by omega
          rw [List.take_length]
          have e1 : wr.heap.size = wr.heap.size := rfl
          clear e1
          by_cases hx : ∃ t ∈ ws, t.tx = ans
          · obtain ⟨k, t, hh⟩ := hit_ex HT.out.ok ans hx
            have HH := Lib.hid hh
            have ht0 := hh.pos
            rw [hh.want]
            clear hh hx
            cases f with
            | true =>
              go_wp2_with (first
                | (go_at_call 13; (with_reducible refine (fin_len K3.out (by have := HC.out.2.1; omega)).mono ?_); rintro e w5 ⟨rfl, t5⟩)
                | (go_at_call 21; (with_reducible refine (fin_put K2.out (by have := HC.out.2.1; omega) (by simp) ans HH.out.rest).mono ?_); rintro e w4 ⟨rfl, k3⟩; have K3 := Lib.hid k3; clear k3)
                | (go_at_call 21; (with_reducible refine (fin_put K1.out (by have := HC.out.2.1; omega) (by simp) ans HH.out.rest).mono ?_); rintro e w3 ⟨rfl, k2⟩; have K2 := Lib.hid k2; clear k2)
                | (go_at_call 25; (with_reducible refine (fin_forget HC.out.1 (by have := HC.out.2.1; omega) ans k t HH.out).mono ?_); rintro e w2 ⟨rfl, k1⟩; have K1 := Lib.hid k1; clear k1)
                | (go_at_call 9; (with_reducible refine (cA.out _).mono ?_); rintro e w6 ⟨rfl, t6⟩))
              go_ret
              exact ⟨rfl, TT (TT K3.out.turn t5) t6⟩
            | false =>
              have hbb : (t.who == t.who) = true := by simp
              go_wp2_with (first
                | (go_at_call 13; (with_reducible refine (fin_len K3.out (by have := HC.out.2.1; omega)).mono ?_); rintro e w5 ⟨rfl, t5⟩)
                | (go_at_call 21; (with_reducible refine (fin_put K2.out (by have := HC.out.2.1; omega) (by simp) ans HH.out.rest).mono ?_); rintro e w4 ⟨rfl, k3⟩; have K3 := Lib.hid k3; clear k3)
                | (go_at_call 21; (with_reducible refine (fin_wake HC.out.1 (by have := HC.out.2.1; omega) ans k t HH.out).mono ?_); rintro e w3 ⟨rfl, k2⟩; have K2 := Lib.hid k2; clear k2)
                | (go_at_call 9; (with_reducible refine (cA.out _).mono ?_); rintro e w6 ⟨rfl, t6⟩))
              go_ret
              exact ⟨rfl, TT (TT K3.out.turn t5) t6⟩
          · have hno : ∀ t ∈ ws, t.tx ≠ ans := fun t ht he => hx ⟨t, ht, he⟩
            have HNO := Lib.hid hno
            rw [show wantL ans ws = -1 from want_miss ans ws (-1) hno]
            clear hno hx
            cases f with
            | true =>
              go_wp2_with (first
                | (go_at_call 13; (with_reducible refine (fin_len K3.out (by have := HC.out.2.1; omega)).mono ?_); rintro e w5 ⟨rfl, t5⟩)
                | (go_at_call 21; (with_reducible refine (fin_put K2.out (by have := HC.out.2.1; omega) (by simp) ans HNO.out).mono ?_); rintro e w4 ⟨rfl, k3⟩; have K3 := Lib.hid k3; clear k3)
                | (go_at_call 21; (with_reducible refine (fin_put HC.out.1 (by have := HC.out.2.1; omega) (by simp) ans HNO.out).mono ?_); rintro e w3 ⟨rfl, k2⟩; have K2 := Lib.hid k2; clear k2)
                | (go_at_call 9; (with_reducible refine (cA.out _).mono ?_); rintro e w6 ⟨rfl, t6⟩))
              go_ret
              exact ⟨rfl, TT (TT K3.out.turn t5) t6⟩
            | false =>
              go_wp2_with (first
                | (go_at_call 13; (with_reducible refine (fin_len K3.out (by have := HC.out.2.1; omega)).mono ?_); rintro e w5 ⟨rfl, t5⟩)
                | (go_at_call 21; (with_reducible refine (fin_put K2.out (by have := HC.out.2.1; omega) (by simp) ans HNO.out).mono ?_); rintro e w4 ⟨rfl, k3⟩; have K3 := Lib.hid k3; clear k3)
                | (go_at_call 21; (with_reducible refine (fin_put HC.out.1 (by have := HC.out.2.1; omega) (by simp) ans HNO.out).mono ?_); rintro e w3 ⟨rfl, k2⟩; have K2 := Lib.hid k2; clear k2)
                | (go_at_call 9; (with_reducible refine (cA.out _).mono ?_); rintro e w6 ⟨rfl, t6⟩))
              go_ret
              exact ⟨rfl, TT (TT K3.out.turn t5) t6⟩
end Go.Proofs.Ytekbnpocmmfkkaa
