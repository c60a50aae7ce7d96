/-
  The statement ListsOrder answers true at all pairs of slices of numbers.
-/
import Derived.Test.YtpfoleaampcibaaAwake
import Derived.Test.YtpfoleaampcibaaSplice
import Derived.Test.YtpfoleaampcibaaCalls2
import Derived.Test.YtpfoleaampcibaaAppendInts
import Derived.Test.YtpfoleaampcibaaSays2
import Derived.Deep.LoopGhost
namespace Go.Proofs.Ytpfoleaampcibaa
open Go.ChangeShapes Go.WideShapes Go.ChangeAt Go.RowKit

theorem castL_append (l m : List Nat) : castL (l ++ m) = castL l ++ castL m := by simp [castL]
theorem castL_cons (x : Nat) (l : List Nat) : castL (x :: l) = (x : Int) :: castL l := rfl
theorem castL_len (l : List Nat) : (castL l).length = l.length := by simp [castL]

theorem order_past (pf : Option Addr) (lf cf : Nat) (pb : Option Addr) (lb cb : Nat) (w : World) (h : 60 < lf ∨ 60 < lb) :
    Calls Try.prog 5 #[.slice pf lf cf, .slice pb lb cb] w fun e w' => e = .returned (.bool true) ∧ Turn NoBlock w w' := by
  have c1 : Calls Try.prog 8 #[.int .i64 2, .int .i64 1024] w _ := new_yes 2 1024 w (by decide) (by decide)
  have c2 := awake_any
  rcases (show (60 : Int) < lf ∨ ((lf : Int) ≤ 60 ∧ (60 : Int) < lb) from by omega) with h1 | ⟨h1, h2⟩
  all_goals
    clear h
    go_enter Try.func5, Try.ntmps5
    go_wp2_with (first
      | (go_at_call 8; (with_reducible refine c1.mono ?_); rintro e w1 ⟨a, F, rfl, -, T1, -⟩; have T1' : Hid (Turn NoBlock w w1) := T1; clear T1)
      | (go_at_call 9; (with_reducible refine (c2 _).mono ?_); rintro e w9 ⟨rfl, T9⟩; have T9' : Hid (Turn NoBlock w w9) := (Hid.out T1').trans T9 (fun _ h => .inl h); clear T9))
    go_ret
    exact ⟨rfl, T9'.out⟩

/-- What holds of the two things of this law: the lists, and the numbers that were put in. -/
def OrdSt (w wr : World) (a : Nat) (F : Nat → Prop) (L : Nat → List Nat) (v : Value) (xs : List Int) : Prop :=
  St w wr F (fun w' => ListsAt w' a F 1024 2 L) (Blk v) (Ints v xs) NoBlock Nothing

/-- Behind a Push, or a Front, that is accepted. -/
theorem push_acc {L : Nat → List Nat} {x : Int} (h : putS 1024 2 L 1 x = 0) : pushL 1024 2 L 1 x 0 = L 0 ∧ castL (pushL 1024 2 L 1 x 1) = castL (L 1) ++ [x] := by
  obtain ⟨_, h2, _⟩ := putS_ok h
  unfold pushL
  rw [if_pos h]
  refine ⟨upd_other _ _ (by decide), ?_⟩
  rw [show (1 : Int).toNat = 1 from rfl, upd_same, castL_append]
  congr 1
  simp only [castL, List.map_cons, List.map_nil]
  congr 1
  have := h2.1
  omega
theorem front_acc {L : Nat → List Nat} {x : Int} (h : putS 1024 2 L 1 x = 0) : frontL 1024 2 L 1 x 0 = L 0 ∧ castL (frontL 1024 2 L 1 x 1) = x :: castL (L 1) := by
  obtain ⟨_, h2, _⟩ := putS_ok h
  unfold frontL
  rw [if_pos h]
  refine ⟨upd_other _ _ (by decide), ?_⟩
  rw [show (1 : Int).toNat = 1 from rfl, upd_same, castL_cons]
  congr 1
  have := h2.1
  omega

theorem OrdSt.lists {w wr : World} {a : Nat} {F : Nat → Prop} {L : Nat → List Nat} {v : Value} {xs : List Int} (h : OrdSt w wr a F L v xs) : ListsAt wr a F 1024 2 L := St.n1 h
theorem OrdSt.ints {w wr : World} {a : Nat} {F : Nat → Prop} {L : Nat → List Nat} {v : Value} {xs : List Int} (h : OrdSt w wr a F L v xs) (o : Obj) : Ints v xs (wr.alloc o) := (St.alloc h o).n2
theorem ord_push {w wr wr' : World} {a : Nat} {F : Nat → Prop} {L L' : Nat → List Nat} {v : Value} {xs : List Int} (h : OrdSt w wr a F L v xs) (hA : ListsAt wr' a F 1024 2 L') (hT : Turn F wr wr') : OrdSt w wr' a F L' v xs :=
  St.step1 h (lists_own a F 1024 2 L') hA hT (fun _ hk => .inl hk)
theorem ord_join {w wr wr' : World} {a : Nat} {F : Nat → Prop} {L : Nat → List Nat} {v v' : Value} {xs ys : List Int} {o : Obj} (h : OrdSt w wr a F L v xs) (hj : Joined v xs ys (wr.alloc o) v' wr') : OrdSt w wr' a F L v' (xs ++ ys) :=
  St.step2 (St.alloc h o) (own_ints v' (xs ++ ys)) hj.1 hj.2.1 hj.2.2.1
theorem OrdSt.nodup {w wr : World} {a : Nat} {F : Nat → Prop} {L : Nat → List Nat} {v : Value} {xs : List Int} (h : OrdSt w wr a F L v xs) (q : Nat) (hq : q < 2) : (L q).Nodup := by
  obtain ⟨p, c, r, hm, hr, h1, h2, rfl⟩ := OrdSt.lists h
  exact hr.nodup q (by omega)
theorem OrdSt.cell {w wr : World} {a : Nat} {F : Nat → Prop} {L : Nat → List Nat} {v : Value} {xs : List Int} (h : OrdSt w wr a F L v xs) : Ints v xs wr := St.n2 h

theorem splice_says {L : Nat → List Nat} (h0 : L 0 = []) : splL 2 L 0 1 0 = L 1 ∧ splL 2 L 0 1 1 = [] := by
  have hs : splS 2 0 1 = 0 := by decide
  unfold splL
  rw [if_pos hs]
  refine ⟨?_, rfl⟩
  rw [show (1 : Int).toNat = 1 from rfl, show (0 : Int).toNat = 0 from rfl, upd_other _ _ (by decide), upd_same, h0, List.nil_append]
theorem len_says {M : Nat → List Nat} (h : M 1 = []) : (listOf 2 M 1).length = 0 := by
  have e : listOf 2 M 1 = M 1 := rfl
  rw [e, h]; rfl
theorem pop_says {M : Nat → List Nat} {x : Nat} {l : List Nat} (h : M 0 = x :: l) (h1 : M 1 = []) (hn : x ∉ l) :
    popI 2 M 0 = x ∧ popS 2 M 0 = 0 ∧ popL 2 M 0 0 = l ∧ popL 2 M 0 1 = [] ∧ whereAt 1024 2 (popL 2 M 0) x = -1 := by
  have hq : inQ 2 0 := by decide
  have hs : popS 2 M 0 = 0 := by
    unfold popS
    rw [if_pos hq, show (0 : Int).toNat = 0 from rfl, if_neg (by rw [h]; simp)]
  have hl : popL 2 M 0 = upd M 0 l := by
    unfold popL
    rw [if_pos hs, show (0 : Int).toNat = 0 from rfl, h]; rfl
  refine ⟨?_, hs, ?_, ?_, ?_⟩
  · unfold popI listOf
    rw [if_pos hq, show (0 : Int).toNat = 0 from rfl, h]; rfl
  · rw [hl, upd_same]
  · rw [hl, upd_other _ _ (by decide), h1]
  · unfold whereAt
    split
    · rw [Int.toNat_natCast]
      apply where_not
      intro q hq'
      rw [hl]
      match q, hq' with
      | 0, _ => rw [upd_same]; exact hn
      | 1, _ => rw [upd_other _ _ (by decide), h1]; simp
    · rfl
theorem pop_none {M : Nat → List Nat} (h : M 0 = []) : popI 2 M 0 = 0 ∧ popS 2 M 0 = -25 ∧ popL 2 M 0 = M := by
  have hq : inQ 2 0 := by decide
  have hs : popS 2 M 0 = -25 := by
    unfold popS
    rw [if_pos hq, show (0 : Int).toNat = 0 from rfl, if_pos h]
  refine ⟨?_, hs, ?_⟩
  · unfold popI listOf
    rw [if_pos hq, show (0 : Int).toNat = 0 from rfl, h]; rfl
  · unfold popL
    rw [if_neg (by rw [hs]; decide)]
theorem castL_getD (l : List Nat) (j : Nat) : (castL l).getD j 0 = ((l.getD j 0 : Nat) : Int) := by
  simp only [castL, List.getD, List.getElem?_map]
  cases l[j]? <;> rfl

/-- 'append([]int{x}, xs...)'. -/
theorem ord_front {w wr wr' : World} {a : Nat} {F : Nat → Prop} {L : Nat → List Nat} {v v' : Value} {x : Int} {xs : List Int} (h : OrdSt w wr a F L v xs)
    (hj : Joined (.slice (some ⟨wr.heap.size, 0, none⟩) 1 1) [x] xs (wr.alloc (.cells #[.int .i64 x] 3)) v' wr') : OrdSt w wr' a F L v' (x :: xs) := by
  have hT : Turn NoBlock wr wr' := ((Turn.refl NoBlock wr).alloc (.cells #[.int .i64 x] 3)).trans hj.2.1 (fun k hk => .inr (by simp [Blk, Value.ownBlock] at hk; omega))
  refine St.step2 h (own_ints v' (x :: xs)) hj.1 (hT.mono (fun _ h => h.elim)) (fun k hk => ?_)
  rcases hj.2.2.1 k hk with h1 | h1
  · right; simp [Blk, Value.ownBlock] at h1; omega
  · right; simp at h1; omega

set_option maxRecDepth 20000 in
set_option maxHeartbeats 4000000 in
theorem order_walk (fs bs : List Int) (pf : Option Addr) (lf cf : Nat) (pb : Option Addr) (lb cb : Nat) (w : World) (h1 : lf ≤ 60) (h2 : lb ≤ 60)
    (hpf : 0 < lf → ∃ b off, pf = some ⟨b, off, none⟩ ∧ ∀ j, j < lf → w.cell? ⟨b, off + j, none⟩ = some (.int .i64 (fs.getD j 0)))
    (hpb : 0 < lb → ∃ b off, pb = some ⟨b, off, none⟩ ∧ ∀ j, j < lb → w.cell? ⟨b, off + j, none⟩ = some (.int .i64 (bs.getD j 0))) :
    Calls Try.prog 5 #[.slice pf lf cf, .slice pb lb cb] w fun e w' => e = .returned (.bool true) ∧ Turn NoBlock w w' := by
  have c1 : Calls Try.prog 8 #[.int .i64 2, .int .i64 1024] w _ := new_yes 2 1024 w (by decide) (by decide)
  have c9 := awake_any
  have HPF : Hid (0 < lf → ∃ b off, pf = some ⟨b, off, none⟩ ∧ ∀ j, j < lf → w.cell? ⟨b, off + j, none⟩ = some (.int .i64 (fs.getD j 0))) := hpf
  have HPB : Hid (0 < lb → ∃ b off, pb = some ⟨b, off, none⟩ ∧ ∀ j, j < lb → w.cell? ⟨b, off + j, none⟩ = some (.int .i64 (bs.getD j 0))) := hpb
  clear hpf hpb
  go_enter Try.func5, Try.ntmps5
  go_wp2_with (go_at_call 8; (with_reducible refine c1.mono ?_); rintro e w1 ⟨a, F, rfl, A1, T1, L1⟩; have S1 : Hid (OrdSt w w1 a F (fun _ => []) (.slice none 0 0) []) := ((St.begin w).step1 (lists_own _ _ _ _ _) A1 (T1.mono (fun _ h => .inl h)) (fun k hk => .inr (L1 k hk))).step2 (own_ints _ _) (ints_nil _) (Turn.refl _ _) (fun k hk => (blk_nil k hk).elim); clear A1 T1 L1)
  go_loopg [6, 37] lb (fun g v c wr => ∃ (j : Nat) (L : Nat → List Nat), j ≤ lb ∧ g = lb - j ∧ c = .int .i64 j ∧ Hid (L 0 = [] ∧ (L 1).length ≤ j) ∧ Hid (OrdSt w wr a F L v (castL (L 1))))
  case atStart => exact ⟨0, fun _ => [], by omega, by omega, rfl, ⟨rfl, by simp⟩, S1⟩
  case round =>
    obtain ⟨j, L, hj, hgk, rfl, hL, S2⟩ := hrel
    by_cases hlt : j < lb
    · obtain ⟨b, off, rfl, hc⟩ := HPB.out (by omega)
      have k1 := St.cell S2.out (hc j hlt)
      obtain ⟨x, hx⟩ : ∃ x, bs.getD j 0 = x := ⟨_, rfl⟩
      rw [hx] at k1
      clear hx hc
      have cp := fun W (h : ListsAt W a F 1024 2 L) => push_any W a F 1024 2 L 1 x h
      by_cases hp : putS 1024 2 L 1 x = 0
      · obtain ⟨q1, q2⟩ := push_acc hp
        obtain ⟨L', hL'⟩ : ∃ L', pushL 1024 2 L 1 x = L' := ⟨_, rfl⟩
        rw [hp, hL'] at cp
        rw [hL'] at q1 q2
        have HQ : Hid (L' 0 = [] ∧ (L' 1).length ≤ j + 1 ∧ castL (L' 1) = castL (L 1) ++ [x] ∧ (castL (L 1)).length + 1 ≤ 1000000) := by
          have l1 := castL_len (L 1)
          have l2 := castL_len (L' 1)
          have l3 := hL.out.2
          rw [q2, List.length_append] at l2
          simp at l2
          exact ⟨q1.trans hL.out.1, by omega, q2, by omega⟩
        clear hp hL' q1 q2
        go_wp2_with (first
          | (go_at_call 10; (with_reducible refine (cp _ (OrdSt.lists (Hid.out S2))).mono ?_); rintro e w3 ⟨rfl, A3, T3⟩; have S3 : Hid (OrdSt w w3 a F L' u6 (castL (L 1))) := ord_push (Hid.out S2) A3 T3; clear A3 T3 cp)
          | (at_builtin; refine wpList_join _ rfl (.tmp 45) (.tmp 47) rfl u6 (.slice (some ⟨w3.heap.size, 0, none⟩) 1 1) (castL (L 1)) [x] rfl rfl (OrdSt.ints (Hid.out S3) _) (Src.of_ints (ints_new1 w3 x)) (Hid.out HQ).2.2.2 ?_; intro v4 w4 J4; have S4 : Hid (OrdSt w w4 a F L' v4 (castL (L' 1))) := (by rw [(Hid.out HQ).2.2.1]; exact ord_join (Hid.out S3) J4); clear J4))
        go_roundg (lb - (j + 1))
        case measure => omega
        case rel => exact ⟨j + 1, L', by omega, by omega, by go_num, ⟨HQ.out.1, HQ.out.2.1⟩, S4⟩
      · obtain ⟨s, hs⟩ : ∃ s, putS 1024 2 L 1 x = s := ⟨_, rfl⟩
        have hL' : pushL 1024 2 L 1 x = L := by unfold pushL; rw [if_neg hp]
        rw [hs, hL'] at cp
        rw [hs] at hp
        have hsb : (s == 0) = false := by simpa using hp
        clear hp hs hL'
        go_wp2_with (go_at_call 10; (with_reducible refine (cp _ (OrdSt.lists (Hid.out S2))).mono ?_); rintro e w3 ⟨rfl, A3, T3⟩; have S3 : Hid (OrdSt w w3 a F L u6 (castL (L 1))) := ord_push (Hid.out S2) A3 T3; clear A3 T3 cp)
        go_roundg (lb - (j + 1))
        case measure => omega
        case rel => exact ⟨j + 1, L, by omega, by omega, by go_num, ⟨hL.out.1, by have := hL.out.2; omega⟩, S3⟩
    · obtain rfl : j = lb := by omega
      have S0 := S2
      clear S2
      go_wp2_with fail
      go_loopg [6, 52] lf (fun g v c wr => ∃ (i : Nat) (L : Nat → List Nat), i ≤ lf ∧ g = lf - i ∧ c = .int .i64 i ∧ Hid (L 0 = [] ∧ (L 1).length ≤ j + i) ∧ Hid (OrdSt w wr a F L v (castL (L 1))))
      case atStart => exact ⟨0, L, by omega, by omega, rfl, hL, S0⟩
      case round =>
        clear hL S0
        obtain ⟨i, L, hi, hgk2, rfl, hL, S2⟩ := hrel
        by_cases hlt : i < lf
        · obtain ⟨b, off, rfl, hc⟩ := HPF.out (by omega)
          have k1 := St.cell S2.out (hc i hlt)
          obtain ⟨x, hx⟩ : ∃ x, fs.getD i 0 = x := ⟨_, rfl⟩
          rw [hx] at k1
          clear hx hc
          have cp := fun W (h : ListsAt W a F 1024 2 L) => front_any W a F 1024 2 L 1 x h
          by_cases hp : putS 1024 2 L 1 x = 0
          · obtain ⟨q1, q2⟩ := front_acc hp
            obtain ⟨L', hL'⟩ : ∃ L', frontL 1024 2 L 1 x = L' := ⟨_, rfl⟩
            rw [hp, hL'] at cp
            rw [hL'] at q1 q2
            have HQ : Hid (L' 0 = [] ∧ (L' 1).length ≤ j + (i + 1) ∧ castL (L' 1) = x :: castL (L 1) ∧ 1 + (castL (L 1)).length ≤ 1000000) := by
              have l1 := castL_len (L 1)
              have l2 := castL_len (L' 1)
              have l3 := hL.out.2
              rw [q2, List.length_cons] at l2
              exact ⟨q1.trans hL.out.1, by omega, q2, by omega⟩
            clear hp hL' q1 q2
            go_wp2_with (first
              | (go_at_call 12; (with_reducible refine (cp _ (OrdSt.lists (Hid.out S2))).mono ?_); rintro e w3 ⟨rfl, A3, T3⟩; have S3 : Hid (OrdSt w w3 a F L' u6 (castL (L 1))) := ord_push (Hid.out S2) A3 T3; clear A3 T3 cp)
              | (at_builtin; refine wpList_join _ rfl (.tmp 61) (.tmp 62) rfl (.slice (some ⟨w3.heap.size, 0, none⟩) 1 1) u6 [x] (castL (L 1)) rfl rfl (ints_new1 w3 x) (Src.of_ints (OrdSt.ints (Hid.out S3) _)) (Hid.out HQ).2.2.2 ?_; intro v4 w4 J4; have S4 : Hid (OrdSt w w4 a F L' v4 (castL (L' 1))) := (by rw [(Hid.out HQ).2.2.1]; exact ord_front (Hid.out S3) J4); clear J4))
            go_roundg (lf - (i + 1))
            case measure => omega
            case rel => exact ⟨i + 1, L', by omega, by omega, by go_num, ⟨HQ.out.1, HQ.out.2.1⟩, S4⟩
          · obtain ⟨s, hs⟩ : ∃ s, putS 1024 2 L 1 x = s := ⟨_, rfl⟩
            have hL' : frontL 1024 2 L 1 x = L := by unfold frontL; rw [if_neg hp]
            rw [hs, hL'] at cp
            rw [hs] at hp
            have hsb : (s == 0) = false := by simpa using hp
            clear hp hs hL'
            go_wp2_with (go_at_call 12; (with_reducible refine (cp _ (OrdSt.lists (Hid.out S2))).mono ?_); rintro e w3 ⟨rfl, A3, T3⟩; have S3 : Hid (OrdSt w w3 a F L u6 (castL (L 1))) := ord_push (Hid.out S2) A3 T3; clear A3 T3 cp)
            go_roundg (lf - (i + 1))
            case measure => omega
            case rel => exact ⟨i + 1, L, by omega, by omega, by go_num, ⟨hL.out.1, by have := hL.out.2; omega⟩, S3⟩
        · obtain rfl : i = lf := by omega
          obtain ⟨pu, cu, hu⟩ := ints_slice (OrdSt.cell S2.out)
          rw [castL_len] at hu
          obtain ⟨l, hl⟩ : ∃ l, L 1 = l := ⟨_, rfl⟩
          obtain ⟨n, hn⟩ : ∃ n, l.length = n := ⟨_, rfl⟩
          rw [hl, hn] at hu
          subst hu
          have hnd := OrdSt.nodup S2.out 1 (by decide)
          rw [hl] at hnd S2
          have hsp := splice_says hL.out.1
          rw [hl] at hsp
          obtain ⟨M, hM⟩ : ∃ M, splL 2 L 0 1 = M := ⟨_, rfl⟩
          rw [hM] at hsp
          have hn2 : n ≤ 1000 := by have := hL.out.2; rw [hl] at this; omega
          have HN : Hid (l.length = n ∧ l.Nodup) := ⟨hn, hnd⟩
          have HM : Hid (M 0 = l ∧ M 1 = []) := hsp
          have cs : ∀ W, ListsAt W a F 1024 2 L → Calls Try.prog 18 #[.pointer (some ⟨a, 0, none⟩), .int .i64 0, .int .i64 1] W fun e w' => e = .returned (.int .i64 0) ∧ ListsAt w' a F 1024 2 M ∧ Turn F W w' := fun W h => by
            have := splice_any W a F 1024 2 L 0 1 h
            rw [hM] at this
            exact this
          have cl : ∀ W, ListsAt W a F 1024 2 M → Calls Try.prog 22 #[.pointer (some ⟨a, 0, none⟩), .int .i64 1] W fun e w' => e = .returned (.int .i64 0) ∧ W = w' := fun W h => by
            have := len_any W a F 1024 2 M 1 h
            rw [len_says HM.out.2] at this
            exact this
          clear hl hn hnd hsp hM hL
          go_wp2_with (first
            | (go_at_call 18; (with_reducible refine (cs _ (OrdSt.lists (Hid.out S2))).mono ?_); rintro e w3 ⟨rfl, A3, T3⟩; have S3 : Hid (OrdSt w w3 a F M (.slice pu n cu) (castL l)) := ord_push (Hid.out S2) A3 T3; clear A3 T3 cs)
            | (go_at_call 22; (with_reducible refine (cl _ (OrdSt.lists (Hid.out S3))).mono ?_); rintro e w4 ⟨rfl, rfl⟩))
          go_loopg [75] n (fun g c wr => ∃ (k : Nat) (M : Nat → List Nat), k ≤ n ∧ g = n - k ∧ c = .int .i64 k ∧ Hid (M 0 = l.drop k ∧ M 1 = []) ∧ Hid (OrdSt w wr a F M (.slice pu n cu) (castL l)))
          case atStart => exact ⟨0, M, by omega, by omega, rfl, HM, S3⟩
          case round =>
            clear HM S3 cl S2
            obtain ⟨k, M, hk, hgk3, rfl, HM, S3⟩ := hrel
            by_cases hlt2 : k < n
            · have hkl : k < l.length := by rw [HN.out.1]; exact hlt2
              obtain ⟨g, cc, he, hcc, hcc'⟩ := ints_shape (OrdSt.cell S3.out) (by rw [castL_len]; omega)
              simp only [Value.slice.injEq] at he
              obtain ⟨rfl, hee, rfl⟩ := he
              clear hee
              rw [castL_len, HN.out.1] at hcc
              have k1 := ints_cell (OrdSt.cell S3.out) k (by rw [castL_len]; exact hkl)
              rw [castL_getD] at k1
              obtain ⟨y, hy⟩ : ∃ y, l.getD k 0 = y := ⟨_, rfl⟩
              have hd : l.drop k = y :: l.drop (k + 1) := by
                rw [List.drop_eq_getElem_cons hkl, ← hy]
                simp [List.getD, List.getElem?_eq_getElem hkl]
              have hyn : y ∉ l.drop (k + 1) := by
                have := (List.drop_sublist k l).nodup HN.out.2
                rw [hd, List.nodup_cons] at this
                exact this.1
              rw [hy] at k1
              obtain ⟨p1, p2, p3, p4, p5⟩ := pop_says (HM.out.1.trans hd) HM.out.2 hyn
              have cp := fun W (h : ListsAt W a F 1024 2 M) => pop_any W a F 1024 2 M 0 h
              obtain ⟨M', hM'⟩ : ∃ M', popL 2 M 0 = M' := ⟨_, rfl⟩
              rw [p1, p2, hM'] at cp
              rw [hM'] at p3 p4 p5
              have cw : ∀ W, ListsAt W a F 1024 2 M' → Calls Try.prog 21 #[.pointer (some ⟨a, 0, none⟩), .int .i64 y] W fun e w' => e = .returned (.int .i64 (-1)) ∧ W = w' := fun W h => by
                have := where_any W a F 1024 2 M' y h
                rw [p5] at this
                exact this
              have HM' : Hid (M' 0 = l.drop (k + 1) ∧ M' 1 = []) := ⟨p3, p4⟩
              clear p1 p2 p3 p4 p5 hM' hd hyn hy hkl
              go_wp2_with (first
                | (go_at_call 14; (with_reducible refine (cp _ (OrdSt.lists (Hid.out S3))).mono ?_); rintro e w5 ⟨rfl, A5, T5⟩; have S5 : Hid (OrdSt w w5 a F M' (.slice (some ⟨g, 0, none⟩) n cu) (castL l)) := ord_push (Hid.out S3) A5 T5; clear A5 T5 cp)
                | (go_at_call 21; (with_reducible refine (cw _ (OrdSt.lists (Hid.out S5))).mono ?_); rintro e w6 ⟨rfl, rfl⟩))
              go_roundg (n - (k + 1))
              case measure => omega
              case rel => exact ⟨k + 1, M', by omega, by omega, by go_num, HM', S5⟩
            · obtain rfl : k = n := by omega
              have hd : l.drop k = [] := by rw [← HN.out.1]; exact List.drop_length
              obtain ⟨p1, p2, p3⟩ := pop_none (HM.out.1.trans hd)
              have cp := fun W (h : ListsAt W a F 1024 2 M) => pop_any W a F 1024 2 M 0 h
              rw [p1, p2, p3] at cp
              clear p1 p2 p3 hd
              go_wp2_with (first
                | (go_at_call 14; (with_reducible refine (cp _ (OrdSt.lists (Hid.out S3))).mono ?_); rintro e w5 ⟨rfl, A5, T5⟩; have S5 : Hid (OrdSt w w5 a F M (.slice pu k cu) (castL l)) := ord_push (Hid.out S3) A5 T5; clear A5 T5 cp)
                | (go_at_call 9; (with_reducible refine (c9 _).mono ?_); rintro e w9 ⟨rfl, T9⟩; have T9' : Hid (Turn NoBlock w w9) := (St.turn (Hid.out S5)).trans T9 (fun _ h => .inl h); clear T9))
              go_ret
              exact ⟨rfl, T9'.out⟩

end Go.Proofs.Ytpfoleaampcibaa
