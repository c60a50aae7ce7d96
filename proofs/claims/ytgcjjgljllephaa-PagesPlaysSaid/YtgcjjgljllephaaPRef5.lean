/-
  The reference's pool: what Write answers and what it makes of the frames. No conditions but that the pool is one that calls can make, and that the bytes lie apart from it.
-/
import Derived.Test.YtgcjjgljllephaaPRef4
namespace Go.Proofs.Ytgcjjgljllephaa
open Go.ChangeShapes Go.WideShapes Go.ChangeAt Go.RowKit

theorem putB_get {l bs : List UInt8} {o : Nat} (h : o + bs.length ≤ l.length) (i : Nat) : (putB l o bs)[i]? = if o ≤ i ∧ i < o + bs.length then bs[i - o]? else l[i]? := by
  unfold putB
  have h1 : (l.take o).length = o := by rw [List.length_take]; omega
  by_cases h2 : i < o
  · rw [List.getElem?_append_left (by omega), if_neg (by omega), List.getElem?_take, if_pos h2]
  · rw [List.getElem?_append_right (by omega), h1]
    by_cases h3 : i < o + bs.length
    · rw [List.getElem?_append_left (by omega), if_pos ⟨by omega, h3⟩]
    · rw [List.getElem?_append_right (by omega), if_neg (by omega), List.getElem?_drop, show o + bs.length + (i - o - bs.length) = i by omega]
theorem putB_step {l bs : List UInt8} {o i : Nat} {y : UInt8} (h : o + bs.length ≤ l.length) (hy : bs[i]? = some y) : (putB l o (bs.take i)).set (o + i) y = putB l o (bs.take (i + 1)) := by
  have hi := (List.getElem?_eq_some_iff.1 hy).1
  have l1 : (bs.take i).length = i := by rw [List.length_take]; omega
  have l2 : (bs.take (i + 1)).length = i + 1 := by rw [List.length_take]; omega
  apply List.ext_getElem?
  intro j
  rw [putB_get (by omega), l2]
  by_cases e : o + i = j
  · subst e
    rw [List.getElem?_set_self (by rw [putB_len (by omega)]; omega), if_pos (by omega), show o + i - o = i by omega, List.getElem?_take, if_pos (by omega), hy]
  · rw [List.getElem?_set_ne e, putB_get (by omega), l1]
    by_cases c : o ≤ j ∧ j < o + i
    · rw [if_pos c, if_pos (by omega), List.getElem?_take, List.getElem?_take, if_pos (by omega), if_pos (by omega)]
    · rw [if_neg c, if_neg (by omega)]
theorem putB_nil (l : List UInt8) (o : Nat) : putB l o [] = l := by simp [putB]

theorem write_cases {L : List Pg} {f b n : Int} : (usersL L f = 0 ∧ writeS L f b n = -25) ∨ (usersL L f ≠ 0 ∧ ¬ inB b n = true ∧ writeS L f b n = -14) ∨ (1 < usersL L f ∧ inB b n = true ∧ writeS L f b n = -20) ∨ (usersL L f = 1 ∧ inB b n = true ∧ writeS L f b n = 0) := by
  unfold writeS
  rcases within_cases (L := L) (f := f) (b := b) (n := n) with ⟨h1, h2⟩ | ⟨h1, h2, h3⟩ | ⟨h1, h2, h3⟩
  · exact .inl ⟨h1, by rw [h2]; rfl⟩
  · rw [h3]
    by_cases h4 : 1 < usersL L f
    · exact .inr (.inr (.inl ⟨h4, h2, by simp [h4]⟩))
    · exact .inr (.inr (.inr ⟨by omega, h2, by simp [h4]⟩))
  · exact .inr (.inl ⟨h1, h2, by rw [h3]; rfl⟩)

set_option maxRecDepth 20000 in
set_option maxHeartbeats 2000000 in
theorem rwrite_any {w : World} {x : Nat} {F : Nat → Prop} {L : List Pg} (h : RefAt w x F L) (f b : Int) (v : Value) (zs : List UInt8) (hv : ∀ w', Turn F w w' → Src w' v zs) (hz : zs.length ≤ 4096) :
    Calls Try.prog 26 #[.pointer (some ⟨x, 0, none⟩), .int .i64 f, .int .i64 b, v] w fun e w' => e = .returned (.int .i64 (writeS L f b zs.length)) ∧ RefAt w' x F (writeL L f b zs) ∧ Turn F w w' := by
  have c1 := rhas_any h f
  obtain ⟨sp, sc, hve⟩ := (hv w (Turn.refl _ _)).slice
  obtain ⟨n, hn⟩ : ∃ n, zs.length = n := ⟨_, rfl⟩
  have hwl : writeS L f b zs.length ≠ 0 → writeL L f b zs = L := fun h => by unfold writeL; rw [if_neg h]
  rw [hn] at hve hwl hz ⊢
  rcases write_cases (L := L) (f := f) (b := b) (n := n) with ⟨h1, h2⟩ | ⟨h1, h2, h3⟩ | ⟨h1, h2, h3⟩ | ⟨h1, h2, h3⟩
  · rw [h2] at hwl ⊢
    rw [hwl (by decide)]
    have hd : decide (usersL L f ≠ 0) = false := by simp [h1]
    rw [hd] at c1
    subst hve
    have H := Lib.hid h
    clear h hv h1 h2 hd hwl
    go_enter Try.func26, Try.ntmps26
    go_wp2_with (go_at_call 16; (with_reducible refine c1.mono ?_); rintro e w' ⟨rfl, rfl⟩)
    go_ret
    exact ⟨rfl, H.out, Turn.refl _ _⟩
  · rw [h3] at hwl ⊢
    rw [hwl (by decide)]
    have hd : decide (usersL L f ≠ 0) = true := by simp [h1]
    rw [hd] at c1
    subst hve
    have H := Lib.hid h
    have h4 := not_in h2
    clear h hv h1 h2 h3 hd hwl
    have h4 : b < 0 ∨ (0 ≤ b ∧ 64 < b) ∨ (0 ≤ b ∧ b ≤ 64 ∧ 64 - b < (n : Int)) := by omega
    rcases h4 with h4 | ⟨h4, h5⟩ | ⟨h4, h5, h6⟩
    all_goals
      go_enter Try.func26, Try.ntmps26
      go_wp2_with (go_at_call 16; (with_reducible refine c1.mono ?_); rintro e w' ⟨rfl, rfl⟩)
      go_ret
      exact ⟨rfl, H.out, Turn.refl _ _⟩
  · rw [h3] at hwl ⊢
    rw [hwl (by decide)]
    have hd : decide (usersL L f ≠ 0) = true := by simp; omega
    rw [hd] at c1
    subst hve
    have H := Lib.hid h
    obtain ⟨k, u, bb, v0, vd, vu, cap, ds, bs, us, rfl, hu, hR⟩ := h.frame f (by omega)
    obtain ⟨g, N, c, s1, s2, s3, s4, s5, s6, -⟩ := hR.store
    unfold inB at h2
    rw [decide_eq_true_iff] at h2
    obtain ⟨q1, q2, q3, q4⟩ := h2
    have hu1 : (1 : Int) < u := by omega
    clear h hv h1 h3 hd hwl hR hu
    go_enter Try.func26, Try.ntmps26
    go_wp2_with (go_at_call 16; (with_reducible refine c1.mono ?_); rintro e w' ⟨rfl, rfl⟩)
    go_ret
    exact ⟨rfl, H.out, Turn.refl _ _⟩
  · rw [h3]
    have hd : decide (usersL L f ≠ 0) = true := by simp; omega
    rw [hd] at c1
    subst hve
    obtain ⟨k, u, bb, v0, vd, vu, cap, ds, bs, us, rfl, hu, hR⟩ := h.frame f (by omega)
    obtain ⟨g, N, c, s1, s2, s3, s4, s5, s6, -⟩ := hR.store
    obtain rfl : u = 1 := by omega
    unfold inB at h2
    rw [decide_eq_true_iff] at h2
    obtain ⟨q1, q2, q3, q4⟩ := h2
    obtain ⟨o, rfl⟩ : ∃ o : Nat, b = o := ⟨b.toNat, by omega⟩
    have hB := hR.mem.each k v0 bb hR.dk hR.bk
    obtain ⟨gb, cb, hvb, hc, hc'⟩ := own_shape hB (by rw [hR.size]; omega)
    rw [hR.size] at hvb hc
    have hdk := hR.dk
    rw [hvb] at hdk
    have hkd := (List.getElem?_eq_some_iff.1 hdk).1
    have hgb : RFoot x vd vu ds gb := .inr (.inr (.inr ⟨k, _, hdk, rfl⟩))
    obtain ⟨NN, hNN⟩ : ∃ NN, ds.length = NN := ⟨_, rfl⟩
    have HR := Lib.hid hR
    have HL := Lib.hid (show writeL L (k : Int) o zs = L.set k ⟨1, putB bb o zs⟩ by
      unfold writeL
      rw [hn, if_pos h3, hR.pg, h1, Int.toNat_natCast, Int.toNat_natCast])
    have HG := Lib.hid (And.intro hgb (And.intro hdk hNN))
    have HZ := Lib.hid hn
    have HV := Lib.hid hv
    have hob : o + n ≤ 64 := by omega
    clear h hd hu hR hB hv h1 h3 hwl hvb hdk hkd hgb hNN hn
    have hM0 := Lib.hid (show RMem w x vd vu cap ds (bs.set k (putB bb o (zs.take 0))) us by
      rw [List.take_zero, putB_nil]
      have : bs.set k bb = bs := by
        apply List.ext_getElem?
        intro i
        by_cases e : k = i
        · subst e; rw [List.getElem?_set_self (List.getElem?_eq_some_iff.1 HR.out.bk).1, HR.out.bk]
        · rw [List.getElem?_set_ne e]
      rw [this]; exact HR.out.mem)
    go_enter Try.func26, Try.ntmps26
    go_wp2_with (go_at_call 16; (with_reducible refine c1.mono ?_); rintro e w' ⟨rfl, rfl⟩)
    go_loopg [9] n (fun g9 s9 wr => ∃ i : Nat, i ≤ n ∧ g9 = n - i ∧ s9 = .int .i64 i ∧ Hid (RMem wr x vd vu cap ds (bs.set k (putB bb o (zs.take i))) us) ∧ Hid (Turn (fun j => j = gb) w wr))
    case atStart => exact ⟨0, by omega, by omega, rfl, hM0, Lib.hid (Turn.refl _ _)⟩
    case round =>
      obtain ⟨i, hi, hg9, rfl, HM, HT⟩ := hrel
      by_cases hlt : i < n
      · have hF : F gb := by rw [HR.out.foot]; exact HG.out.1
        have hsr := HV.out wr (HT.out.mono (fun j hj => .inl (by subst hj; exact hF)))
        have hil : i < zs.length := by rw [HZ.out]; exact hlt
        obtain ⟨y, hy⟩ := get_some hil
        rcases hsr with ⟨-, e0⟩ | ⟨gs, off, c2, hse, hcs⟩
        · exfalso; rw [e0] at hil; simp at hil
        · simp only [Value.slice.injEq] at hse
          obtain ⟨rfl, -, rfl⟩ := hse
          have y1 := hcs i hil
          rw [show zs.getD i 0 = y by simp [List.getD, hy]] at y1
          have hM := HM.out
          obtain ⟨gd, cd, hvd, -, d2, d3, -⟩ := hM.bytes HG.out.2.1
          have d1 := hM.c0
          rw [hvd, HG.out.2.2] at d1
          have hkN : k < NN := by rw [← HG.out.2.2]; exact (List.getElem?_eq_some_iff.1 HG.out.2.1).1
          have hbl : (putB bb o (zs.take i)).length = 64 := by rw [putB_len (by rw [List.length_take, HR.out.size]; omega), HR.out.size]
          have hbk : (bs.set k (putB bb o (zs.take i)))[k]? = some (putB bb o (zs.take i)) := List.getElem?_set_self (List.getElem?_eq_some_iff.1 HR.out.bk).1
          obtain ⟨m1, m2⟩ := hM.byte (i := o + i) HG.out.2.1 hbk y
          rw [putB_step (by rw [HR.out.size, HZ.out]; omega) hy, List.set_set] at m1
          have hBb := hM.each k _ _ HG.out.2.1 hbk
          unfold Byts at hBb
          rw [hbl] at hBb
          have t1 : ∃ tv, wr.cell? ⟨gb, o + i, none⟩ = some tv := by
            rw [hBb.cellAt (o + i) (by omega), List.getElem?_eq_getElem (by rw [bcells_len, hbl]; omega)]; exact ⟨_, rfl⟩
          obtain ⟨tv, t1⟩ := t1
          have t2 := hBb.frozenAt (o + i)
          have K1 := Lib.hid m1
          have K2 := Lib.hid (HT.out.trans m2 (fun j hj => .inl hj))
          have hoi : (o : Int) + i < 64 := by omega
          clear m1 m2 hBb hbl hbk hM hvd hcs hil hy
          go_wp2
          go_region
          all_goals
            go_wp2
            go_roundg (n - (i + 1))
            case measure => omega
            case rel => exact ⟨i + 1, by omega, by omega, by go_num, Lib.hid (K1.out.past ((Turn.refl _ _).drewN _)), Lib.hid (K2.out.drewN _)⟩
      · obtain rfl : i = n := by omega
        rw [List.take_of_length_le (by rw [HZ.out]; exact Nat.le_refl _)] at HM
        go_wp2
        go_ret
        have hR := HR.out
        obtain ⟨o1, o2, o3, o4⟩ := hR.ok
        refine ⟨rfl, ?_, HT.out.mono (fun j hj => .inl (by subst hj; rw [hR.foot]; exact HG.out.1))⟩
        rw [HL.out]
        refine ⟨vd, vu, cap, ds, _, us, HM.out, ⟨by simpa using o1, o2, o3, fun b' hb' => ?_⟩, hR.foot, ?_⟩
        · rcases List.mem_or_eq_of_mem_set hb' with h1 | h1
          · exact o4 b' h1
          · rw [h1, putB_len (by rw [HZ.out, hR.size]; omega)]; exact hR.size
        · have e2 := rPg_set (u := 1) (b := putB bb o zs) o1 hR.klt
          have hus : us.set k 1 = us := by
            apply List.ext_getElem?
            intro i
            by_cases e : k = i
            · subst e; rw [List.getElem?_set_self hR.klt, hR.uk]
            · rw [List.getElem?_set_ne e]
          rw [hus] at e2
          rw [e2, padP_set _ (by rw [rP_len o1]; exact hR.klt), ← hR.is]; rfl
end Go.Proofs.Ytgcjjgljllephaa
