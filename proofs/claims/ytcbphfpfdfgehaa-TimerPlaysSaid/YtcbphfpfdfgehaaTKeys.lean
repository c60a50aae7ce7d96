/-
  Keys in a law's state: all keys in their order. No conditions.
-/
import Derived.Test.YtcbphfpfdfgehaaTSort
import Derived.Test.YtcbphfpfdfgehaaTMake
import Derived.OwnWalk
namespace Go.Proofs.Ytcbphfpfdfgehaa
open Go.ChangeShapes Go.WideShapes Go.ChangeAt Go.RowKit

theorem wrow_empty2 (w : World) : WRow (w.alloc (.cells #[] 118)) 118 2 (.slice (some ⟨w.heap.size, 0, none⟩) 0 0) 0 [] :=
  ⟨rfl, .inr ⟨_, 0, 0, rfl, Nat.le_refl _, by unfold maxLen; omega, ⟨_, heap_alloc_new w _⟩, (fun j hj => by omega), fun j hj => by omega⟩⟩
theorem eq_none (n c : Nat) (w : World) : Sem.run Try.prog (binOp BinOp.eql 114 (.slice none n c) (.slice none 0 0)) w = .ok (.bool true) w := by kernel_rfl
theorem eq_some (a : Addr) (n c : Nat) (w : World) : Sem.run Try.prog (binOp BinOp.eql 114 (.slice (some a) n c) (.slice none 0 0)) w = .ok (.bool false) w := by kernel_rfl
set_option maxRecDepth 20000 in
theorem clone_any {w : World} {v : Value} {H : List En} (h : ERow v H w) (hl : H.length ≤ 65536) :
    Calls Try.prog 60 #[v] w fun x w' => ∃ v', x = .returned v' ∧ ERow v' H w' ∧ Turn NoBlock w w' ∧ ∀ k, Blk v' k → w.heap.size ≤ k := by
  obtain ⟨i5, hi5, hz5, hs5, hb5⟩ := info_parts infoE
  obtain ⟨p, c, rfl⟩ := h.sl
  obtain ⟨n, hn⟩ : ∃ n, H.length = n := ⟨_, rfl⟩
  cases p with
  | none =>
    have h0 : H.length = 0 := by
      rcases Nat.eq_zero_or_pos H.length with h0 | h0
      · exact h0
      · obtain ⟨g, o, cap, he, -⟩ := WRow.shape h h0
        cases he
    obtain rfl : H = [] := List.eq_nil_of_length_eq_zero h0
    have HH := Lib.hid h
    clear h h0 hn
    have q := eq_none 0 c w
    go_enter Try.func60, Try.ntmps60
    go_wp2
    go_ret
    exact ⟨_, rfl, wrow_nil _ _ _, Turn.refl _ _, fun k hk => (blk_nil k hk).elim⟩
  | some a =>
    have HS := Lib.hid (WRow.src (h.past ((Turn.refl NoBlock w).alloc (.cells #[] 118))) 114 entriesT (ecells_one H))
    have HR := Lib.hid (wrow_empty2 w)
    have HF := Lib.hid (And.intro (show 0 + H.length ≤ maxLen by unfold maxLen; omega) (show (0 + H.length) * 16 ≤ 140737488355328 by omega))
    rw [hn] at HS HF ⊢
    have q := eq_some a n c w
    clear h
    go_enter Try.func60, Try.ntmps60
    go_wp2_with (at_builtin; refine wpList_append_w rfl (.tmp 5) (.tmp 6) 114 114 rfl HR.out i5 _ 16 entriesT hi5 hz5 hs5 hb5 rfl rfl rfl HS.out HF.out.1 HF.out.2 ?_; intro v7 W7 r7 t7 k7; have R7 := Lib.hid (And.intro r7 (And.intro t7 k7)); clear r7 t7 k7)
    go_ret
    refine ⟨v7, rfl, ?_, ?_, fun k hk => ?_⟩
    · have := R7.out.1
      rw [Nat.zero_add, List.nil_append] at this
      unfold ERow
      rw [hn]
      exact this
    · exact ((Turn.refl NoBlock w).alloc _).trans R7.out.2.1 (fun k hk => .inr (by
        have : k = w.heap.size := by simpa [Blk, Value.ownBlock, eq_comm] using hk
        omega))
    · rcases R7.out.2.2 k hk with h1 | h1
      · have : k = w.heap.size := by simpa [Blk, Value.ownBlock, eq_comm] using h1
        omega
      · rw [h1.1, World.size_alloc]; omega
/-- The first j keys, and zeros behind them. -/
def mixK (S : List En) (n j : Nat) : List Int := (keysOf S).take j ++ List.replicate (n - j) 0
theorem mixK_zero (S : List En) (n : Nat) : mixK S n 0 = List.replicate n 0 := by simp [mixK]
theorem mixK_all {S : List En} {n : Nat} (h : S.length = n) : mixK S n n = keysOf S := by
  unfold mixK keysOf
  rw [Nat.sub_self, List.replicate_zero, List.append_nil, List.take_of_length_le (by rw [List.length_map, h]; exact Nat.le_refl _)]
theorem mixK_set {S : List En} {n j : Nat} (h : S.length = n) (hj : j < n) : (mixK S n j).set j (eAt S j).k = mixK S n (j + 1) := by
  have hl : ((keysOf S).take j).length = j := by unfold keysOf; rw [List.length_take, List.length_map]; omega
  have he : (keysOf S)[j]? = some (eAt S j).k := by unfold keysOf; rw [List.getElem?_map, eAt_some (by omega)]; rfl
  unfold mixK
  rw [List.set_append_right _ _ (by omega), hl, Nat.sub_self, show n - j = (n - (j + 1)) + 1 by omega, List.replicate_succ, List.set_cons_zero, List.take_add_one, he]
  simp
set_option maxRecDepth 20000 in
set_option maxHeartbeats 2000000 in
theorem TSt.keys {w0 w : World} {c : Nat} {most now : Int} {L : List En} {X : Nat → Prop} (h : TSt w0 w c most now L X) :
    Calls Try.prog 33 #[.pointer (some ⟨c, 0, none⟩)] w fun x w' => ∃ v, x = .returned v ∧ Nums v (keysOf L) w' ∧ Turn NoBlock w w' ∧ ∀ k, Blk v k → w.heap.size ≤ k := by
  obtain ⟨v, b, H, P, h1, h2, h3, -⟩ := h.ex
  have c2 := h1.c2
  have CC := Lib.hid (clone_any h1.row h1.len)
  obtain ⟨p, cap, rfl⟩ := h1.row.sl
  obtain ⟨n, hn⟩ : ∃ n, H.length = n := ⟨_, rfl⟩
  have hnl : n ≤ 65536 := by rw [← hn]; exact h1.len
  have CS := Lib.hid (fun (W : World) (v : Value) (hv : ERow v H W) => sort_any hv (by omega))
  have HL := Lib.hid (show ∀ S : List En, S.Perm H → S.Pairwise (fun p q => ¬ befE q p) → S = L ∧ S.length = n from fun S hp hs => ⟨rise_eq (hp.trans h3) h.right (List.Pairwise.imp_of_mem (fun ha hb hab => (cd_le (h1.fits _ (hp.mem_iff.1 ha)) (h1.fits _ (hp.mem_iff.1 hb))).2 hab) hs), by rw [hp.length_eq, hn]⟩)
  have HN := Lib.hid hn
  have MI := Lib.hid (fun W => mk_ints W n (by omega))
  rw [hn] at c2 CC
  clear h h1 h2 h3 hn
  go_enter Try.func33, Try.ntmps33
  go_wp2_with (first
    | (go_at_call 60; (with_reducible refine CC.out.mono ?_); rintro x w1 ⟨v1, rfl, e1, t1, k1⟩; have E1 := Lib.hid (And.intro e1 (And.intro t1 k1)); clear e1 t1 k1)
    | (go_at_call 61; (with_reducible refine (CS.out _ _ E1.out.1).mono ?_); rintro x w2 ⟨rfl, S, sp, ss, e2, t2⟩; obtain ⟨p2, cap2, rfl⟩ := e2.sl; obtain ⟨q1, q2⟩ := HL.out S sp ss; rw [q2] at e2; obtain ⟨W3, hm3, hr3, ht3, hs3⟩ := MI.out w2; have E2 := Lib.hid (And.intro e2 (And.intro t2 (And.intro q1 q2))); have E3 := Lib.hid (And.intro hr3 (And.intro ht3 hs3)); clear e2 t2 q1 sp ss hr3 ht3 hs3))
  obtain ⟨kb, hgk⟩ : ∃ kb, w2.heap.size = kb := ⟨_, rfl⟩
  rw [hgk] at E3
  rw [hgk]
  have HB := Lib.hid (show Turn NoBlock w w2 ∧ w.heap.size ≤ kb from by
    have t2 : Turn NoBlock w w2 := E1.out.2.1.trans E2.out.2.1 (fun k hk => .inr (E1.out.2.2 k hk))
    exact ⟨t2, by rw [← hgk]; exact t2.size⟩)
  have HST := Lib.hid (show Turn NoBlock w W3 ∧ ERow (.slice p2 n cap2) S W3 ∧ WRow W3 3 1 (.slice (some ⟨kb, 0, none⟩) n n) n (icells (mixK S n 0)) from ⟨TT HB.out.1 E3.out.2.1, E2.out.1.past E3.out.2.1, by rw [mixK_zero]; exact E3.out.1⟩)
  have hSn : S.length = n := q2
  have HQ := Lib.hid (And.intro E2.out.2.2.1 hSn)
  clear hm3 hgk hSn q2
  go_loopg [19] n (fun z s19 wr => ∃ j : Nat, z = n - j ∧ j ≤ n ∧ s19 = .int .i64 (j : Int) ∧ Hid (Turn NoBlock w wr ∧ ERow (.slice p2 n cap2) S wr ∧ WRow wr 3 1 (.slice (some ⟨kb, 0, none⟩) n n) n (icells (mixK S n j))))
  case atStart => exact ⟨0, rfl, Nat.zero_le _, rfl, HST⟩
  case round =>
    obtain ⟨j, hz, hj, rfl, HR⟩ := hrel
    by_cases hlt : j < n
    · obtain ⟨g, o, cc, he, -⟩ := WRow.shape HR.out.2.1 (by rw [HQ.out.2]; omega)
      simp only [Value.slice.injEq] at he
      obtain ⟨rfl, -, rfl⟩ := he
      obtain ⟨q0, q1⟩ := HR.out.2.1.two (j := j) (by rw [HQ.out.2]; exact hlt)
      have hkl : (mixK S n j).length = n := by
        have := HR.out.2.2.len
        rw [icells_len, Nat.mul_one] at this
        exact this
      obtain ⟨u, hu⟩ : ∃ u, wr.cell? ⟨kb, j, none⟩ = some u := by
        obtain ⟨g', o', c', he, -, -, -, hc, -⟩ := HR.out.2.2.shape (by omega)
        simp only [Value.slice.injEq, Option.some.injEq, Addr.mk.injEq, and_true, true_and] at he
        obtain ⟨⟨rfl, rfl⟩, rfl⟩ := he
        have := hc j (by omega)
        rw [Nat.zero_add] at this
        rw [this]
        exact ⟨_, List.getElem?_eq_getElem (by rw [icells_len, hkl]; exact hlt)⟩
      have hfk := (HR.out.2.2.typed (k := kb) rfl).free j
      have hglt : kb < wr.heap.size := HR.out.2.2.lt (k := kb) rfl
      have hjl : (j : Int) < (n : Int) := by omega
      have HSET := Lib.hid (mixK_set HQ.out.2 hlt)
      generalize eAt S j = e at *
      obtain ⟨ek, ed⟩ := e
      simp only at q0 q1 HSET
      clear hkl
      go_wp2
      go_roundg (n - (j + 1))
      case measure => omega
      case rel =>
        refine ⟨j + 1, rfl, by omega, by go_num, Lib.hid ⟨?_, ?_, ?_⟩⟩
        · exact (HR.out.1.setCell (p := ⟨kb, j, none⟩) (.inr HB.out.2) _).alloc _
        · refine (HR.out.2.1.kept ((Turn.refl (fun k => k = kb) _).setCell (p := ⟨kb, j, none⟩) (.inl rfl) _) (fun k hk e => ?_)).past ((Turn.refl NoBlock _).alloc _)
          subst e
          exact (WRow.typed HR.out.2.1 hk).unlike (HR.out.2.2.typed (k := k) rfl) (by decide) rfl
        · rw [← HSET.out]
          have := HR.out.2.2.setc (j := j) (by omega) (.int .i64 ek)
          rw [Nat.zero_add] at this
          have := this.past ((Turn.refl NoBlock _).alloc (.cells #[.int .i64 ek, .int .i64 ed] 118))
          unfold icells at this ⊢
          rw [List.map_set]
          exact this
    · have e : n = j := by omega
      subst e
      go_wp2
      go_ret
      refine ⟨_, rfl, ?_, HR.out.1, fun k hk => ?_⟩
      · have := HR.out.2.2
        rw [mixK_all HQ.out.2, HQ.out.1] at this
        unfold Nums
        have hl : (keysOf L).length = n := by unfold keysOf; rw [List.length_map, ← HQ.out.1, HQ.out.2]
        rw [hl]
        exact this
      · have : k = kb := by simpa [Blk, Value.ownBlock, eq_comm] using hk
        have := HB.out.2
        omega
end Go.Proofs.Ytcbphfpfdfgehaa
