/-
  The statement ListsMove answers true at all slices of numbers and all pairs of numbers.
-/
import Derived.Test.YtpfoleaampcibaaLawOrder
import Derived.Test.YtpfoleaampcibaaList
import Derived.Test.YtpfoleaampcibaaIntsEq
import Derived.Deep.RegionLaw
import Derived.IntWalk
namespace Go.Proofs.Ytpfoleaampcibaa
open Go.ChangeShapes Go.WideShapes Go.ChangeAt Go.RowKit

/-- Three things: the lists, the numbers that were put in, the rest. -/
def MovSt (w wr : World) (a : Nat) (F : Nat → Prop) (L : Nat → List Nat) (v : Value) (xs : List Int) (u : Value) (ys : List Int) : Prop :=
  St w wr F (fun w' => ListsAt w' a F 64 4 L) (Blk v) (Ints v xs) (Blk u) (Ints u ys)

section
variable {w wr wr' : World} {a : Nat} {F : Nat → Prop} {L L' : Nat → List Nat} {v v' u u' : Value} {xs ys zs : List Int}
theorem MovSt.lists (h : MovSt w wr a F L v xs u ys) : ListsAt wr a F 64 4 L := St.n1 h
theorem MovSt.want (h : MovSt w wr a F L v xs u ys) : Ints v xs wr := St.n2 h
theorem MovSt.rest (h : MovSt w wr a F L v xs u ys) : Ints u ys wr := St.n3 h
theorem MovSt.past (h : MovSt w wr a F L v xs u ys) (ht : Turn NoBlock wr wr') : MovSt w wr' a F L v xs u ys := St.past h ht
theorem MovSt.turn (h : MovSt w wr a F L v xs u ys) : Turn NoBlock w wr := St.turn h
theorem mov_push (h : MovSt w wr a F L v xs u ys) (hA : ListsAt wr' a F 64 4 L') (hT : Turn F wr wr') : MovSt w wr' a F L' v xs u ys :=
  St.step1 h (lists_own a F 64 4 L') hA hT (fun _ hk => .inl hk)
theorem mov_join {o : Obj} (h : MovSt w wr a F L v xs u ys) (hj : Joined v xs zs (wr.alloc o) v' wr') : MovSt w wr' a F L v' (xs ++ zs) u ys :=
  St.step2 (St.alloc h o) (own_ints v' (xs ++ zs)) hj.1 hj.2.1 hj.2.2.1
/-- Another list of numbers of one's own, made out of nothing. -/
theorem mov_rest (h : MovSt w wr a F L v xs u ys) (hi : Ints u' zs wr') (ht : Turn NoBlock wr wr') (hb : ∀ k, Blk u' k → wr.heap.size ≤ k) : MovSt w wr' a F L v xs u' zs :=
  St.step3 h (own_ints u' zs) hi (ht.mono (fun _ h => h.elim)) (fun k hk => .inr (hb k hk))
theorem MovSt.nodup (h : MovSt w wr a F L v xs u ys) : (L 0).Nodup ∧ ∀ x ∈ L 0, x < 64 := by
  obtain ⟨p, c, r, hm, hr, h1, h2, rfl⟩ := MovSt.lists h
  exact ⟨hr.nodup 0 (by omega), fun x hx => by rw [← h1]; exact (hr.inn 0 (by omega) x hx).1⟩
end

/-- An append onto an empty slice of one's own; another one behind it. -/
theorem join_new {wr w1 : World} {o : Obj} {v1 : Value} {xs zs : List Int} {n c : Nat} (h1 : Joined (.slice (some ⟨wr.heap.size, 0, none⟩) n c) zs xs (wr.alloc o).drew v1 w1) :
    Turn NoBlock wr w1 ∧ ∀ k, Blk v1 k → wr.heap.size ≤ k := by
  refine ⟨(((Turn.refl NoBlock wr).alloc o).drew).trans h1.2.1 (fun k hk => .inr (by simp [Blk, Value.ownBlock] at hk; omega)), fun k hk => ?_⟩
  rcases h1.2.2.1 k hk with h | h
  · simp [Blk, Value.ownBlock] at h; omega
  · change (wr.alloc o).heap.size ≤ k at h
    rw [World.size_alloc] at h; omega
theorem two_joins {wr w1 w2 : World} {o : Obj} {v1 v2 : Value} {xs ys : List Int} {n c : Nat} (h1 : Joined (.slice (some ⟨wr.heap.size, 0, none⟩) n c) [] xs (wr.alloc o).drew v1 w1) (h2 : Joined v1 xs ys w1 v2 w2) :
    Ints v2 (xs ++ ys) w2 ∧ Turn NoBlock wr w2 ∧ ∀ k, Blk v2 k → wr.heap.size ≤ k := by
  obtain ⟨t1, b1⟩ := join_new h1
  have s1 := t1.size
  refine ⟨h2.1, t1.trans h2.2.1 (fun k hk => .inr (b1 k hk)), fun k hk => ?_⟩
  rcases h2.2.2.1 k hk with h | h
  · exact b1 k h
  · omega

theorem ints_apart {w w' : World} {v u : Value} {xs : List Int} (h : Ints v xs w) (ht : Turn (Blk u) w w') (hd : ∀ k, Blk v k → ¬ Blk u k) : Ints v xs w' := (own_ints v xs).kept w w' _ h ht hd

theorem erase_at : ∀ (l : List Nat) (k : Nat), k < l.length → l.Nodup → l.erase (l.getD k 0) = l.take k ++ l.drop (k + 1) := by
  intro l
  induction l with
  | nil => intro k h; simp at h
  | cons x l ih =>
    intro k hk hn
    rw [List.nodup_cons] at hn
    cases k with
    | zero => simp
    | succ k =>
      have hk' : k < l.length := by simpa using hk
      have hne : x ≠ l.getD k 0 := fun e => hn.1 (by rw [e]; simp [List.getD, List.getElem?_eq_getElem hk'])
      rw [List.getD_cons_succ, List.erase_cons_tail (by simpa using hne), ih k hk' hn.2]
      simp

/-- All but the first queue are empty. -/
def Rest4 (L : Nat → List Nat) : Prop := ∀ q, q < 4 → q ≠ 0 → L q = []

theorem push0_acc {L : Nat → List Nat} {x : Int} (hr : Rest4 L) (h : putS 64 4 L 0 x = 0) : Rest4 (pushL 64 4 L 0 x) ∧ castL (pushL 64 4 L 0 x 0) = castL (L 0) ++ [x] := by
  obtain ⟨_, h2, _⟩ := putS_ok h
  unfold pushL
  rw [if_pos h]
  refine ⟨fun q hq h0 => ?_, ?_⟩
  · rw [show (0 : Int).toNat = 0 from rfl, upd_other _ _ h0]; exact hr q hq h0
  · rw [show (0 : Int).toNat = 0 from rfl, upd_same, castL_append]
    congr 1
    simp only [castL, List.map_cons, List.map_nil]
    congr 1
    have := h2.1
    omega

theorem move_says {L : Nat → List Nat} {y t : Nat} (hr : Rest4 L) (hn : (L 0).Nodup) (hy : y ∈ L 0) (hb : y < 64) (ht : t < 4) :
    ∃ L1 L2 : Nat → List Nat, remS 64 4 L y = 0 ∧ remL 64 4 L y = L1 ∧ whereAt 64 4 L1 y = -1 ∧ putS 64 4 L1 t y = 0 ∧ pushL 64 4 L1 t y = L2 ∧ whereAt 64 4 L2 y = t ∧
      (t = 0 → L2 0 = (L 0).erase y ++ [y]) ∧ (t ≠ 0 → L2 0 = (L 0).erase y ∧ L2 t = [y]) := by
  have hin : inQ 64 (y : Int) := inQ_cast hb
  have hw : whereOf 4 L y = (0 : Nat) := where_is (by decide) hy (fun q' h1 h2 => by
    by_cases e : q' = 0
    · exact e
    · rw [hr q' h1 e] at h2; simp at h2)
  have hs : remS 64 4 L y = 0 := by
    unfold remS
    rw [if_pos hin, Int.toNat_natCast, hw, if_neg (by decide)]
  have hL1 : remL 64 4 L y = upd L 0 ((L 0).erase y) := by
    unfold remL
    rw [if_pos hs, Int.toNat_natCast, hw]
    rfl
  have hn1 : whereOf 4 (upd L 0 ((L 0).erase y)) y = -1 := where_not (fun q' h1 => by
    by_cases e : q' = 0
    · subst e; rw [upd_same]; exact List.Nodup.not_mem_erase hn
    · rw [upd_other _ _ e, hr q' h1 e]; simp)
  have hp := putS_nat (n := 64) ht hb hn1
  have hL2 : pushL 64 4 (upd L 0 ((L 0).erase y)) t y = upd (upd L 0 ((L 0).erase y)) t (upd L 0 ((L 0).erase y) t ++ [y]) := by
    unfold pushL
    rw [if_pos hp]
    simp only [Int.toNat_natCast]
  refine ⟨_, _, hs, hL1, ?_, hp, hL2, ?_, fun e => ?_, fun e => ⟨?_, ?_⟩⟩
  · unfold whereAt
    rw [if_pos ⟨hin.1, hin.2⟩, Int.toNat_natCast, hn1]
  · have := (push_where hp).1
    rw [hL2] at this
    exact this
  · subst e
    rw [upd_same, upd_same]
  · rw [upd_other _ _ (fun h => e h.symm), upd_same]
  · rw [upd_same, upd_other _ _ e, hr t ht e]; rfl

theorem move_past (p : Option Addr) (len cap : Nat) (k0 t0 : Int) (w : World) (h : 60 < len) :
    Calls Try.prog 6 #[.slice p len cap, .int .i64 k0, .int .i64 t0] w fun e w' => e = .returned (.bool true) ∧ Turn NoBlock w w' := by
  have c1 : Calls Try.prog 8 #[.int .i64 4, .int .i64 64] w _ := new_yes 4 64 w (by decide) (by decide)
  have c2 := awake_any
  have h1 : (60 : Int) < len := by omega
  clear h
  go_enter Try.func6, Try.ntmps6
  go_wp2_with (first
    | (go_at_call 8; (with_reducible refine c1.mono ?_); rintro e w1 ⟨a, F, rfl, -, T1, -⟩; have T1' : Hid (Turn NoBlock w w1) := T1; clear T1)
    | (go_at_call 9; (with_reducible refine (c2 _).mono ?_); rintro e w9 ⟨rfl, T9⟩; have T9' : Hid (Turn NoBlock w w9) := (Hid.out T1').trans T9 (fun _ h => .inl h); clear T9))
  go_ret
  exact ⟨rfl, T9'.out⟩

/-- The same for two slices that are known apart in one world. -/
theorem ints_call (w : World) (va vb : Value) (xs : List Int) (ha : Ints va xs w) (hb : Ints vb xs w) (hx : xs.length ≤ 1000000) :
    Calls Try.prog 24 #[va, vb] w fun e w' => e = .returned (.bool true) ∧ ∃ n, w' = w.drewN n := ints_same w va vb xs ha hb (by omega)

set_option maxRecDepth 20000 in
set_option maxHeartbeats 4000000 in
theorem move_walk (zs : List Int) (p : Option Addr) (len cap : Nat) (k0 t0 : Int) (w : World) (h1 : len ≤ 60)
    (hp : 0 < len → ∃ b off, p = some ⟨b, off, none⟩ ∧ ∀ j, j < len → w.cell? ⟨b, off + j, none⟩ = some (.int .i64 (zs.getD j 0))) :
    Calls Try.prog 6 #[.slice p len cap, .int .i64 k0, .int .i64 t0] w fun e w' => e = .returned (.bool true) ∧ Turn NoBlock w w' := by
  have c1 : Calls Try.prog 8 #[.int .i64 4, .int .i64 64] w _ := new_yes 4 64 w (by decide) (by decide)
  have c9 := awake_any
  have HP : Hid (0 < len → ∃ b off, p = some ⟨b, off, none⟩ ∧ ∀ j, j < len → w.cell? ⟨b, off + j, none⟩ = some (.int .i64 (zs.getD j 0))) := hp
  clear hp
  go_enter Try.func6, Try.ntmps6
  go_wp2_with (go_at_call 8; (with_reducible refine c1.mono ?_); rintro e w1 ⟨a, F, rfl, A1, T1, L1⟩; have S1 : Hid (MovSt w w1 a F (fun _ => []) (.slice none 0 0) [] (.slice none 0 0) []) := (((St.begin w).step1 (lists_own _ _ _ _ _) A1 (T1.mono (fun _ h => .inl h)) (fun k hk => .inr (L1 k hk))).step2 (own_ints _ _) (ints_nil _) (Turn.refl _ _) (fun k hk => (blk_nil k hk).elim)).step3 (own_ints _ _) (ints_nil _) (Turn.refl _ _) (fun k hk => (blk_nil k hk).elim); clear A1 T1 L1)
  go_loopg [8, 28] len (fun g v c wr => ∃ (j : Nat) (L : Nat → List Nat), j ≤ len ∧ g = len - j ∧ c = .int .i64 j ∧ Hid (Rest4 L ∧ (L 0).length ≤ j) ∧ Hid (MovSt w wr a F L v (castL (L 0)) (.slice none 0 0) []))
  case atStart => exact ⟨0, fun _ => [], by omega, by omega, rfl, ⟨fun _ _ _ => rfl, by simp⟩, S1⟩
  case round =>
    clear S1
    obtain ⟨j, L, hj, hgk, rfl, hL, S2⟩ := hrel
    by_cases hlt : j < len
    · obtain ⟨b, off, rfl, hc⟩ := HP.out (by omega)
      have k1 := St.cell S2.out (hc j hlt)
      obtain ⟨x, hx⟩ : ∃ x, zs.getD j 0 = x := ⟨_, rfl⟩
      rw [hx] at k1
      clear hx hc
      have cp := fun W (h : ListsAt W a F 64 4 L) => push_any W a F 64 4 L 0 x h
      by_cases hp : putS 64 4 L 0 x = 0
      · obtain ⟨q1, q2⟩ := push0_acc hL.out.1 hp
        obtain ⟨L', hL'⟩ : ∃ L', pushL 64 4 L 0 x = L' := ⟨_, rfl⟩
        rw [hp, hL'] at cp
        rw [hL'] at q1 q2
        have HQ : Hid (Rest4 L' ∧ (L' 0).length ≤ j + 1 ∧ castL (L' 0) = castL (L 0) ++ [x] ∧ (castL (L 0)).length + 1 ≤ 1000000) := by
          have l1 := castL_len (L 0)
          have l2 := castL_len (L' 0)
          have l3 := hL.out.2
          rw [q2, List.length_append] at l2
          simp at l2
          exact ⟨q1, by omega, q2, by omega⟩
        clear hp hL' q1 q2
        go_wp2_with (first
          | (go_at_call 10; (with_reducible refine (cp _ (MovSt.lists (Hid.out S2))).mono ?_); rintro e w3 ⟨rfl, A3, T3⟩; have S3 : Hid (MovSt w w3 a F L' u8 (castL (L 0)) (.slice none 0 0) []) := mov_push (Hid.out S2) A3 T3; clear A3 T3 cp)
          | (at_builtin; refine wpList_join _ rfl (.tmp 36) (.tmp 38) rfl u8 (.slice (some ⟨w3.heap.size, 0, none⟩) 1 1) (castL (L 0)) [x] rfl rfl (MovSt.want (MovSt.past (Hid.out S3) ((Turn.refl _ _).alloc _))) (Src.of_ints (ints_new1 w3 x)) (Hid.out HQ).2.2.2 ?_; intro v4 w4 J4; have S4 : Hid (MovSt w w4 a F L' v4 (castL (L' 0)) (.slice none 0 0) []) := (by rw [(Hid.out HQ).2.2.1]; exact mov_join (Hid.out S3) J4); clear J4))
        go_roundg (len - (j + 1))
        case measure => omega
        case rel => exact ⟨j + 1, L', by omega, by omega, by go_num, ⟨HQ.out.1, HQ.out.2.1⟩, S4⟩
      · obtain ⟨s, hs⟩ : ∃ s, putS 64 4 L 0 x = s := ⟨_, rfl⟩
        have hL' : pushL 64 4 L 0 x = L := by unfold pushL; rw [if_neg hp]
        rw [hs, hL'] at cp
        rw [hs] at hp
        have hsb : (s == 0) = false := by simpa using hp
        clear hp hs hL'
        go_wp2_with (go_at_call 10; (with_reducible refine (cp _ (MovSt.lists (Hid.out S2))).mono ?_); rintro e w3 ⟨rfl, A3, T3⟩; have S3 : Hid (MovSt w w3 a F L u8 (castL (L 0)) (.slice none 0 0) []) := mov_push (Hid.out S2) A3 T3; clear A3 T3 cp)
        go_roundg (len - (j + 1))
        case measure => omega
        case rel => exact ⟨j + 1, L, by omega, by omega, by go_num, ⟨hL.out.1, by have := hL.out.2; omega⟩, S3⟩
    · obtain rfl : j = len := by omega
      obtain ⟨pu, cu, hu⟩ := ints_slice (MovSt.want S2.out)
      rw [castL_len] at hu
      obtain ⟨l, hl⟩ : ∃ l, L 0 = l := ⟨_, rfl⟩
      obtain ⟨n, hn⟩ : ∃ n, l.length = n := ⟨_, rfl⟩
      rw [hl, hn] at hu
      subst hu
      have hnd := MovSt.nodup S2.out
      have hLb := hL.out
      rw [hl] at hnd S2 hLb
      rw [hn] at hLb
      have hn2 : n ≤ 60 := by omega
      by_cases hbad : k0 < 0 ∨ (n : Int) ≤ k0 ∨ t0 < 0 ∨ 3 < t0
      · have cl : ∀ W, ListsAt W a F 64 4 L → Calls Try.prog 25 #[.pointer (some ⟨a, 0, none⟩), .int .i64 0] W fun e w' => ∃ v, e = .returned v ∧ Ints v (castL l) w' ∧ (∀ j, Blk v j → W.heap.size ≤ j) ∧ Turn NoBlock W w' := fun W h => by
          have := list_any W a F 64 4 L 0 h
          rw [show listOf 4 L 0 = L 0 from rfl, hl] at this
          exact this
        have ce : ∀ W v, Ints v (castL l) W → Ints (.slice pu n cu) (castL l) W → Calls Try.prog 24 #[v, .slice pu n cu] W fun e w' => e = .returned (.bool true) ∧ ∃ d, w' = W.drewN d := fun W v ha hb => ints_call W v _ (castL l) ha hb (by rw [castL_len]; omega)
        clear hl hn hnd hL hLb
        rcases (show k0 < 0 ∨ (0 ≤ k0 ∧ (n : Int) ≤ k0) ∨ (0 ≤ k0 ∧ k0 < n ∧ t0 < 0) ∨ (0 ≤ k0 ∧ k0 < n ∧ 0 ≤ t0 ∧ 3 < t0) from by omega) with g1 | ⟨g1, g2⟩ | ⟨g1, g2, g3⟩ | ⟨g1, g2, g3, g4⟩
        all_goals
          clear hbad
          go_wp2_with (first
            | (go_at_call 25; (with_reducible refine (cl _ (MovSt.lists (Hid.out S2))).mono ?_); rintro e w3 ⟨v, rfl, I3, -, T3⟩; have S3 : Hid (MovSt w w3 a F L (.slice pu n cu) (castL l) (.slice none 0 0) []) := MovSt.past (Hid.out S2) T3; have I3' : Hid (Ints v (castL l) w3) := I3; clear I3 T3 cl)
            | (go_at_call 24; (with_reducible refine (ce _ _ (Hid.out I3') (MovSt.want (Hid.out S3))).mono ?_); rintro e w4 ⟨rfl, d, rfl⟩)
            | (go_at_call 9; (with_reducible refine (c9 _).mono ?_); rintro e w9 ⟨rfl, T9⟩; have T9' : Hid (Turn NoBlock w w9) := ((MovSt.turn (Hid.out S3)).drewN _).trans T9 (fun _ h => .inl h); clear T9))
          go_ret
          exact ⟨rfl, T9'.out⟩
      · obtain ⟨k, rfl⟩ : ∃ k : Nat, k0 = k := ⟨k0.toNat, by omega⟩
        obtain ⟨t, rfl⟩ : ∃ t : Nat, t0 = t := ⟨t0.toNat, by omega⟩
        have hkn : k < n := by omega
        have ht3 : t ≤ 3 := by omega
        have hkl : k < l.length := by omega
        obtain ⟨y, hy⟩ : ∃ y, l.getD k 0 = y := ⟨_, rfl⟩
        have hym : y ∈ l := by rw [← hy]; simp [List.getD, List.getElem?_eq_getElem hkl]
        obtain ⟨L1, L2, m1, m2, m3, m4, m5, m6, m7, m8⟩ := move_says (y := y) (t := t) hLb.1 (by rw [hl]; exact hnd.1) (by rw [hl]; exact hym) (hnd.2 y hym) (by omega)
        rw [hl, ← hy, erase_at l k hkl hnd.1, hy] at m7 m8
        have HM : Hid ((t = 0 → L2 0 = (l.take k ++ l.drop (k + 1)) ++ [y]) ∧ (t ≠ 0 → L2 0 = l.take k ++ l.drop (k + 1) ∧ L2 t = [y])) := ⟨m7, m8⟩
        obtain ⟨g, cc, he, hcc, hcc'⟩ := ints_shape (MovSt.want S2.out) (by rw [castL_len]; omega)
        simp only [Value.slice.injEq] at he
        obtain ⟨rfl, hee, rfl⟩ := he
        rw [castL_len, hn] at hcc
        have q1 := ints_cell (MovSt.want S2.out) k (by rw [castL_len]; exact hkl)
        rw [castL_getD, hy] at q1
        have cr : ∀ W, ListsAt W a F 64 4 L → Calls Try.prog 16 #[.pointer (some ⟨a, 0, none⟩), .int .i64 y] W fun e w' => e = .returned (.int .i64 0) ∧ ListsAt w' a F 64 4 L1 ∧ Turn F W w' := fun W h => by
          have := remove_any W a F 64 4 L y h
          rw [m1, m2] at this
          exact this
        have cw : ∀ W, ListsAt W a F 64 4 L1 → Calls Try.prog 21 #[.pointer (some ⟨a, 0, none⟩), .int .i64 y] W fun e w' => e = .returned (.int .i64 (-1)) ∧ W = w' := fun W h => by
          have := where_any W a F 64 4 L1 y h
          rw [m3] at this
          exact this
        have cp : ∀ W, ListsAt W a F 64 4 L1 → Calls Try.prog 10 #[.pointer (some ⟨a, 0, none⟩), .int .i64 t, .int .i64 y] W fun e w' => e = .returned (.int .i64 0) ∧ ListsAt w' a F 64 4 L2 ∧ Turn F W w' := fun W h => by
          have := push_any W a F 64 4 L1 t y h
          rw [m4, m5] at this
          exact this
        have cv : ∀ W, ListsAt W a F 64 4 L2 → Calls Try.prog 21 #[.pointer (some ⟨a, 0, none⟩), .int .i64 y] W fun e w' => e = .returned (.int .i64 t) ∧ W = w' := fun W h => by
          have := where_any W a F 64 4 L2 y h
          rw [m6] at this
          exact this
        have HK : Hid (k < n ∧ l.length = n) := ⟨hkn, hn⟩
        clear hl hn hnd hL hLb m1 m2 m3 m4 m5 m6 m7 m8 hee hy hym hkl hbad
        go_wp2_with (first
          | (go_at_call 16; (with_reducible refine (cr _ (MovSt.lists (Hid.out S2))).mono ?_); rintro e w3 ⟨rfl, A3, T3⟩; have S3 : Hid (MovSt w w3 a F L1 (.slice (some ⟨g, 0, none⟩) n cu) (castL l) (.slice none 0 0) []) := mov_push (Hid.out S2) A3 T3; clear A3 T3 cr)
          | (go_at_call 21; (with_reducible refine (cw _ (MovSt.lists (Hid.out S3))).mono ?_); rintro e w4 ⟨rfl, rfl⟩; clear cw)
          | (go_at_call 10; (with_reducible refine (cp _ (MovSt.lists (Hid.out S3))).mono ?_); rintro e w5 ⟨rfl, A5, T5⟩; have S5 : Hid (MovSt w w5 a F L2 (.slice (some ⟨g, 0, none⟩) n cu) (castL l) (.slice none 0 0) []) := mov_push (Hid.out S3) A5 T5; clear A5 T5 cp)
          | (go_at_call 21; (with_reducible refine (cv _ (MovSt.lists (Hid.out S5))).mono ?_); rintro e w6 ⟨rfl, rfl⟩; clear cv))
        have HB : Hid ((castL (l.take k)).length ≤ 60 ∧ (castL (l.take k)).length + (castL (l.drop (k + 1))).length ≤ 60) := by
          have e := HK.out
          rw [castL_len, castL_len, List.length_take, List.length_drop]
          exact ⟨by omega, by omega⟩
        have HS1 : Hid (∀ W, Turn NoBlock w5 W → Src W (.slice (some ⟨g, 0, none⟩) k cu) (castL (l.take k))) := fun W hT => by
          have := Src.take (k := k) (MovSt.want (MovSt.past S5.out hT)) (by rw [castL_len]; have := HK.out; omega)
          rw [← castL_take] at this
          exact this
        have HS2 : Hid (∀ W, Turn NoBlock w5 W → Src W (.slice (if cu = k + 1 then some ⟨g, 0, none⟩ else some ⟨g, k + 1, none⟩) (n - (k + 1)) (cu - (k + 1))) (castL (l.drop (k + 1)))) := fun W hT => by
          have e := HK.out
          have ed : castL (l.drop (k + 1)) = (castL l).drop (k + 1) := by simp [castL]
          rw [ed]
          by_cases hl : k + 1 < n
          · rw [if_neg (by omega)]
            have := Src.drop (k := k + 1) (d := cu - (k + 1)) (MovSt.want (MovSt.past S5.out hT)) (by rw [castL_len]; omega)
            rw [castL_len, e.2] at this
            exact this
          · have e1 : n - (k + 1) = 0 := by omega
            have e2 : (castL l).drop (k + 1) = [] := List.drop_eq_nil_of_le (by rw [castL_len]; omega)
            rw [e1, e2]
            split
            · exact Src.none_left
            · exact Src.none_left
        obtain ⟨A, hA⟩ : ∃ A, (if cu = k + 1 then some (⟨g, 0, none⟩ : Addr) else some ⟨g, k + 1, none⟩) = A := ⟨_, rfl⟩
        rw [hA] at HS2
        have hkc : k ≤ cu := by omega
        have hk1 : k + 1 ≤ n := by omega
        have hk2 : (k : Int) + 1 ≤ n := by omega
        have hk3 : IntKind.i64.wrap ((k : Int) + 1) = (k : Int) + 1 := IntWalk.i64_in _ (by omega)
        have hk4 : ((k : Int) + 1).toNat = k + 1 := by omega
        have hk5 : (0 : Int) ≤ (k : Int) + 1 := by omega
        go_cut [12] (fun s12 wx => Hid (MovSt w wx a F L2 (.slice (some ⟨g, 0, none⟩) n cu) (castL l) s12 (castL (l.take k ++ l.drop (k + 1)))))
        case first =>
          go_region_law (first
            | (refine step_join _ rfl (.tmp 92) (.tmp 95) rfl (.slice (some ⟨w5.heap.size, 0, none⟩) 0 0) (.slice (some ⟨g, 0, none⟩) k cu) [] (castL (l.take k)) rfl rfl (Ints.past (ints_new0 w5) ((Turn.refl _ _).drew)) ((Hid.out HS1) _ (((Turn.refl _ _).alloc _).drew)) (Nat.le_trans (by simpa using (Hid.out HB).1) (by decide)) ?_; intro v1 w7 J1; have J1' : Hid (Joined (.slice (some ⟨w5.heap.size, 0, none⟩) 0 0) [] (castL (l.take k)) (w5.alloc (.cells #[] 3)).drew v1 w7) := J1; clear J1)
            | (refine step_join _ rfl (.tmp 96) (.tmp 100) rfl v1 (.slice A (n - (k + 1)) (cu - (k + 1))) (castL (l.take k)) (castL (l.drop (k + 1))) rfl rfl (Hid.out J1').1 ((Hid.out HS2) _ (join_new (Hid.out J1')).1) (Nat.le_trans (Hid.out HB).2 (by decide)) ?_; intro v2 w8 J2; have J2' : Hid (Joined v1 (castL (l.take k)) (castL (l.drop (k + 1))) w7 v2 w8) := J2; clear J2))
          go_wp2
          go_meet
          obtain ⟨j1, j2, j3⟩ := two_joins J1'.out J2'.out
          rw [← castL_append] at j1
          exact mov_rest S5.out j1 j2 j3
        case rest =>
          have HR : Hid (MovSt w wc a F L2 (.slice (some ⟨g, 0, none⟩) n cu) (castL l) u12 (castL (l.take k ++ l.drop (k + 1)))) := hcut
          have hRl : (l.take k ++ l.drop (k + 1)).length ≤ 60 := by
            have := HB.out.2
            rw [castL_len, castL_len] at this
            rw [List.length_append]; omega
          obtain ⟨R, hR⟩ : ∃ R, l.take k ++ l.drop (k + 1) = R := ⟨_, rfl⟩
          rw [hR] at HR HM hRl
          clear hcut hR hkc hk1 hk2 hk3 hk4 hk5 hA HS1 HS2 S5 HB
          by_cases ht0 : t = 0
          · subst ht0
            have hM := HM.out.1 rfl
            have cl : ∀ W, ListsAt W a F 64 4 L2 → Calls Try.prog 25 #[.pointer (some ⟨a, 0, none⟩), .int .i64 0] W fun e w' => ∃ v, e = .returned v ∧ Ints v (castL R ++ [(y : Int)]) w' ∧ (∀ j, Blk v j → W.heap.size ≤ j) ∧ Turn NoBlock W w' := fun W h => by
              have := list_any W a F 64 4 L2 0 h
              rw [show listOf 4 L2 0 = L2 0 from rfl, hM, castL_append] at this
              exact this
            have HBu : Hid (∀ j, Blk u12 j → j < wc.heap.size) := fun j hj => (own_ints u12 _).lt wc (MovSt.rest HR.out) j hj
            have ce : ∀ W v u, Ints v (castL R ++ [(y : Int)]) W → Ints u (castL R ++ [(y : Int)]) W → Calls Try.prog 24 #[v, u] W fun e w' => e = .returned (.bool true) ∧ ∃ d, w' = W.drewN d := fun W v u ha hb => ints_call W v u _ ha hb (by rw [List.length_append, castL_len]; simp; omega)
            have HRl : Hid ((castL R).length + ([(y : Int)] : List Int).length ≤ 1000000) := (show (castL R).length + 1 ≤ 1000000 by rw [castL_len]; omega)
            clear hM hRl
            go_wp2_with (first
              | (go_at_call 25; (with_reducible refine (cl _ (MovSt.lists (Hid.out HR))).mono ?_); rintro e w9 ⟨v5, rfl, I5, B5, T5⟩; have S9 : Hid (MovSt w w9 a F L2 (.slice (some ⟨g, 0, none⟩) n cu) (castL l) u12 (castL R)) := MovSt.past (Hid.out HR) T5; have I9 : Hid (Ints v5 (castL R ++ [(y : Int)]) w9 ∧ ∀ j, Blk v5 j → wc.heap.size ≤ j) := ⟨I5, B5⟩; clear I5 B5 T5 cl)
              | (at_builtin; refine wpList_join _ rfl (.tmp 106) (.tmp 108) rfl u12 (.slice (some ⟨w9.heap.size, 0, none⟩) 1 1) (castL R) [(y : Int)] rfl rfl (MovSt.rest (MovSt.past (Hid.out S9) ((Turn.refl _ _).alloc _))) (Src.of_ints (ints_new1 w9 y)) (Hid.out HRl) ?_; intro v6 w10 J6; have I10 : Hid (Ints v5 (castL R ++ [(y : Int)]) w10 ∧ Ints v6 (castL R ++ [(y : Int)]) w10) := ⟨ints_apart (Ints.past (Hid.out I9).1 ((Turn.refl _ _).alloc _)) J6.2.1 (fun j h1 h2 => Nat.lt_irrefl _ (Nat.lt_of_lt_of_le ((Hid.out HBu) j h2) ((Hid.out I9).2 j h1))), J6.1⟩; have T10 : Hid (Turn NoBlock w w10) := ((MovSt.turn (Hid.out S9)).alloc _).trans J6.2.1 (fun j hj => .inr ((Hid.out S9).l3 j hj)); clear J6)
              | (go_at_call 24; (with_reducible refine (ce _ _ _ (Hid.out I10).1 (Hid.out I10).2).mono ?_); rintro e w11 ⟨rfl, d, rfl⟩)
              | (go_at_call 9; (with_reducible refine (c9 _).mono ?_); rintro e w12 ⟨rfl, T12⟩; have T12' : Hid (Turn NoBlock w w12) := ((Hid.out T10).drewN _).trans T12 (fun _ h => .inl h); clear T12))
            go_ret
            exact ⟨rfl, T12'.out⟩
          · have hM := HM.out.2 ht0
            have htb : ((t : Int) == 0) = false := by simp; omega
            have ht4 : inQ 4 (t : Int) := inQ_cast (by omega)
            have cl : ∀ W, ListsAt W a F 64 4 L2 → Calls Try.prog 25 #[.pointer (some ⟨a, 0, none⟩), .int .i64 0] W fun e w' => ∃ v, e = .returned v ∧ Ints v (castL R) w' ∧ (∀ j, Blk v j → W.heap.size ≤ j) ∧ Turn NoBlock W w' := fun W h => by
              have := list_any W a F 64 4 L2 0 h
              rw [show listOf 4 L2 0 = L2 0 from rfl, hM.1] at this
              exact this
            have cm : ∀ W, ListsAt W a F 64 4 L2 → Calls Try.prog 25 #[.pointer (some ⟨a, 0, none⟩), .int .i64 t] W fun e w' => ∃ v, e = .returned v ∧ Ints v [(y : Int)] w' ∧ (∀ j, Blk v j → W.heap.size ≤ j) ∧ Turn NoBlock W w' := fun W h => by
              have := list_any W a F 64 4 L2 t h
              rw [show listOf 4 L2 t = L2 t from by unfold listOf; rw [if_pos ht4, Int.toNat_natCast], hM.2] at this
              exact this
            have ce : ∀ W v u, Ints v (castL R) W → Ints u (castL R) W → Calls Try.prog 24 #[v, u] W fun e w' => e = .returned (.bool true) ∧ ∃ d, w' = W.drewN d := fun W v u ha hb => ints_call W v u _ ha hb (by rw [castL_len]; omega)
            have cf : ∀ W v, Ints v [(y : Int)] W → Calls Try.prog 24 #[v, .slice (some ⟨W.heap.size, 0, none⟩) 1 1] (W.alloc (.cells #[.int .i64 y] 3)) fun e w' => e = .returned (.bool true) ∧ ∃ d, w' = (W.alloc (.cells #[.int .i64 y] 3)).drewN d := fun W v ha => ints_call _ v _ _ (Ints.past ha ((Turn.refl _ _).alloc _)) (ints_new1 W y) (by simp)
            clear hM hRl ht0 ht4
            go_wp2_with (first
              | (go_at_call 25; (with_reducible refine (cl _ (MovSt.lists (Hid.out HR))).mono ?_); rintro e w9 ⟨v5, rfl, I5, -, T5⟩; have S9 : Hid (MovSt w w9 a F L2 (.slice (some ⟨g, 0, none⟩) n cu) (castL l) u12 (castL R)) := MovSt.past (Hid.out HR) T5; have I9 : Hid (Ints v5 (castL R) w9) := I5; clear I5 T5 cl)
              | (go_at_call 24; (with_reducible refine (ce _ _ _ (Hid.out I9) (MovSt.rest (Hid.out S9))).mono ?_); rintro e w11 ⟨rfl, d, rfl⟩; clear ce)
              | (go_at_call 25; (with_reducible refine (cm _ (MovSt.lists (MovSt.past (Hid.out S9) ((Turn.refl _ _).drewN _)))).mono ?_); rintro e w12 ⟨v7, rfl, I7, -, T7⟩; have S12 : Hid (Turn NoBlock w w12) := ((MovSt.turn (Hid.out S9)).drewN _).trans T7 (fun _ h => .inl h); have I12 : Hid (Ints v7 [(y : Int)] w12) := I7; clear I7 T7 cm)
              | (go_at_call 24; (with_reducible refine (cf _ _ (Hid.out I12)).mono ?_); rintro e w13 ⟨rfl, d2, rfl⟩; clear cf)
              | (go_at_call 9; (with_reducible refine (c9 _).mono ?_); rintro e w14 ⟨rfl, T14⟩; have T14' : Hid (Turn NoBlock w w14) := (((Hid.out S12).alloc _).drewN _).trans T14 (fun _ h => .inl h); clear T14))
            go_ret
            exact ⟨rfl, T14'.out⟩

end Go.Proofs.Ytpfoleaampcibaa
