/-
  The reference's pool: what Read, Write, Own answer, and what they and a store of users make of it. No conditions but that the pool is one that calls can make, and that bytes lie apart from it.
-/
import Derived.Test.YtgcjjgljllephaaPRef3
import Derived.Test.YtgcjjgljllephaaPOwn
import Derived.Deep.RegionHeld3
namespace Go.Proofs.Ytgcjjgljllephaa
open Go.ChangeShapes Go.WideShapes Go.ChangeAt Go.RowKit

theorem rP_inv {us : List Nat} {bs : List (List UInt8)} {k : Nat} {p : Pg} (h : (rP us bs)[k]? = some p) : ∃ u b, us[k]? = some u ∧ bs[k]? = some b ∧ p = rPg u b := by
  unfold rP at h
  rw [List.getElem?_zipWith] at h
  cases hu : us[k]? with
  | none => rw [hu] at h; simp at h
  | some u =>
    cases hb : bs[k]? with
    | none => rw [hu, hb] at h; simp at h
    | some b =>
      rw [hu, hb] at h
      simp at h
      exact ⟨u, b, rfl, rfl, h.symm⟩
/-- One frame that is used. -/
structure RFr (w : World) (x : Nat) (F : Nat → Prop) (L : List Pg) (k u : Nat) (b : List UInt8) (v vd vu : Value) (cap : Nat) (ds : List Value) (bs : List (List UInt8)) (us : List Nat) : Prop where
  mem : RMem w x vd vu cap ds bs us
  ok : us.length = bs.length ∧ us.length ≤ cap ∧ cap ≤ 65536 ∧ ∀ b ∈ bs, b.length = 64
  foot : F = RFoot x vd vu ds
  is : L = padP cap (rP us bs)
  uk : us[k]? = some u
  bk : bs[k]? = some b
  dk : ds[k]? = some v
  pg : pgAt L k = ⟨u, b⟩
  size : b.length = 64
theorem RefAt.frame {w : World} {x : Nat} {F : Nat → Prop} {L : List Pg} (h : RefAt w x F L) (f : Int) (hu : usersL L f ≠ 0) : ∃ (k u : Nat) (b : List UInt8) (v vd vu : Value) (cap : Nat) (ds : List Value) (bs : List (List UInt8)) (us : List Nat),
    f = k ∧ usersL L f = u ∧ RFr w x F L k u b v vd vu cap ds bs us := by
  obtain ⟨k, p, rfl, hp, he⟩ := pgAt_used hu
  obtain ⟨vd, vu, cap, ds, bs, us, hM, hok, hF, hL⟩ := h
  have hpu : p.users ≠ 0 := by rw [← he]; exact hu
  have hp2 := hp
  rw [hL] at hp2
  obtain ⟨u, b, h1, h2, h3⟩ := rP_inv (pad_used hp2 hpu)
  have hlt := (List.getElem?_eq_some_iff.1 h2).1
  obtain ⟨v, hv⟩ := get_some (show k < ds.length by rw [hM.len]; exact hlt)
  have hu0 : u ≠ 0 := by rw [h3, rPg_users] at hpu; exact hpu
  have hpp : p = ⟨u, b⟩ := by rw [h3]; unfold rPg; rw [if_neg hu0]
  refine ⟨k, u, b, v, vd, vu, cap, ds, bs, us, rfl, by unfold usersL; rw [he, hpp], ⟨hM, hok, hF, hL, h1, h2, hv, by rw [he, hpp], hok.2.2.2 b (List.mem_of_getElem? h2)⟩⟩
theorem RFr.klt {w : World} {x : Nat} {F : Nat → Prop} {L : List Pg} {k u : Nat} {b : List UInt8} {v vd vu : Value} {cap : Nat} {ds : List Value} {bs : List (List UInt8)} {us : List Nat} (h : RFr w x F L k u b v vd vu cap ds bs us) : k < us.length := (List.getElem?_eq_some_iff.1 h.uk).1
/-- Where its users are stored. -/
theorem RFr.store {w : World} {x : Nat} {F : Nat → Prop} {L : List Pg} {k u : Nat} {b : List UInt8} {v vd vu : Value} {cap : Nat} {ds : List Value} {bs : List (List UInt8)} {us : List Nat} (h : RFr w x F L k u b v vd vu cap ds bs us) :
    ∃ g n c, w.cell? ⟨x, 1, none⟩ = some (.slice (some ⟨g, 0, none⟩) n c) ∧ k < n ∧ x ≠ g ∧ w.cell? ⟨g, k, none⟩ = some (.int .i64 (u : Int)) ∧ (∀ j, w.frozen? ⟨g, j, none⟩ = false) ∧ g < w.heap.size ∧
      ∀ u' : Nat, RefAt (w.setCell ⟨g, k, none⟩ (.int .i64 (u' : Int))) x F (L.set k (rPg u' b)) ∧ Turn F w (w.setCell ⟨g, k, none⟩ (.int .i64 (u' : Int))) := by
  obtain ⟨g, c, hvu, hx, hc, hf, hs⟩ := h.mem.user h.klt
  have c1 := h.mem.c1
  rw [hvu] at c1
  have e : us.getD k 0 = u := by simp [List.getD, h.uk]
  rw [e] at hc
  have hg : Blk vu g := by unfold Blk; rw [hvu]; rfl
  refine ⟨g, us.length, c, c1, h.klt, hx, hc, hf, h.mem.lt (.inr (.inr (.inl hg))), fun u' => ?_⟩
  obtain ⟨h1, h2⟩ := hs u'
  obtain ⟨o1, o2, o3, o4⟩ := h.ok
  refine ⟨⟨vd, vu, cap, ds, bs, us.set k u', h1, ⟨by simpa using o1, by simpa using o2, o3, o4⟩, h.foot, ?_⟩, h2.mono (fun j hj => .inl (by subst hj; rw [h.foot]; exact .inr (.inr (.inl hg))))⟩
  have hb : bs.set k b = bs := by
    apply List.ext_getElem?
    intro i
    by_cases e : k = i
    · subst e; rw [List.getElem?_set_self (List.getElem?_eq_some_iff.1 h.bk).1, h.bk]
    · rw [List.getElem?_set_ne e]
  have e2 := rPg_set (u := u') (b := b) o1 h.klt
  rw [hb] at e2
  rw [e2, padP_set _ (by rw [rP_len o1]; exact h.klt), ← h.is]

theorem win_of (g c b n : Nat) (hn : b + n ≤ 64) (hc : 64 ≤ c) : ∃ D : Option Addr, (∀ w, Sem.run Try.prog (Instr.slice 31 (.slice (some ⟨g, 0, none⟩) 64 c) (some (.int .i64 (b : Int))) (some (.int .i64 ((b : Int) + (n : Int)))) none) w = .ok (.slice D n (c - b)) w) ∧ (0 < n → D = some ⟨g, b, none⟩) := by
  have ht : Try.prog.underlying 31 = some (.slice (Try.prog.elem 31)) := by kernel_rfl
  have hsz : ∀ w, (sizeOf (Try.prog.elem 31)).run Try.prog w = .ok 1 w := fun w => by kernel_rfl
  refine ⟨if c = b then some ⟨g, 0, none⟩ else some ⟨g, b, none⟩, fun w => ?_, fun h0 => by rw [if_neg (by omega)]⟩
  have := run_slice_lh (P := Try.prog) w 31 (some ⟨g, 0, none⟩) 64 c ht .i64 .i64 (b : Int) ((b : Int) + n) (by omega) (by omega) (by omega)
  rw [hsz w] at this
  simp only [Result.andThen, Int.toNat_natCast] at this
  rw [this]
  have e : ((b : Int) + (n : Int)).toNat = b + n := by omega
  rw [e]
  by_cases h0 : c = b
  · subst h0
    have : n = 0 := by omega
    subst this
    simp [sliced]
  · simp [sliced, h0, Addr.add, show b + n - b = n by omega]
    try omega

theorem not_in {b n : Int} (h : ¬ inB b n = true) : b < 0 ∨ (0 ≤ b ∧ n < 0) ∨ (0 ≤ b ∧ 0 ≤ n ∧ 64 < b) ∨ (0 ≤ b ∧ 0 ≤ n ∧ b ≤ 64 ∧ 64 - b < n) := by
  unfold inB at h
  rw [decide_eq_true_iff] at h
  omega
theorem within_cases {L : List Pg} {f b n : Int} : (usersL L f = 0 ∧ withinS L f b n = -25) ∨ (usersL L f ≠ 0 ∧ inB b n = true ∧ withinS L f b n = 0) ∨ (usersL L f ≠ 0 ∧ ¬ inB b n = true ∧ withinS L f b n = -14) := by
  unfold withinS
  by_cases h : usersL L f = 0
  · exact .inl ⟨h, if_pos h⟩
  · by_cases h2 : inB b n = true
    · exact .inr (.inl ⟨h, h2, by rw [if_neg h, if_pos h2]⟩)
    · exact .inr (.inr ⟨h, h2, by rw [if_neg h, if_neg h2]⟩)

set_option maxRecDepth 20000 in
theorem rread_no {w : World} {x : Nat} {F : Nat → Prop} {L : List Pg} (h : RefAt w x F L) (f b n : Int) (hs : withinS L f b n ≠ 0) :
    Calls Try.prog 22 #[.pointer (some ⟨x, 0, none⟩), .int .i64 f, .int .i64 b, .int .i64 n] w fun e w' => e = .returned (.tuple #[.slice none 0 0, .int .i64 (withinS L f b n)]) ∧ w = w' := by
  have c1 := rhas_any h f
  rcases within_cases (L := L) (f := f) (b := b) (n := n) with ⟨h1, h2⟩ | ⟨h1, h2, h3⟩ | ⟨h1, h2, h3⟩
  · rw [h2]
    have hd : decide (usersL L f ≠ 0) = false := by simp [h1]
    rw [hd] at c1
    clear h hs h1 h2 hd
    go_enter Try.func22, Try.ntmps22
    go_wp2_with (go_at_call 16; (with_reducible refine c1.mono ?_); rintro e w' ⟨rfl, rfl⟩)
    go_ret2
    exact ⟨rfl, rfl⟩
  · exact absurd h3 hs
  · rw [h3]
    have hd : decide (usersL L f ≠ 0) = true := by simp [h1]
    rw [hd] at c1
    have h4 := not_in h2
    clear h hs h1 h2 h3 hd
    rcases h4 with h4 | ⟨h4, h5⟩ | ⟨h4, h5, h6⟩ | ⟨h4, h5, h6, h7⟩
    all_goals
      go_enter Try.func22, Try.ntmps22
      go_wp2_with (go_at_call 16; (with_reducible refine c1.mono ?_); rintro e w' ⟨rfl, rfl⟩)
      go_ret2
      exact ⟨rfl, rfl⟩
set_option maxRecDepth 20000 in
theorem rread_any {w : World} {x : Nat} {F : Nat → Prop} {L : List Pg} (h : RefAt w x F L) (f b n : Int) (hs : withinS L f b n = 0) :
    Calls Try.prog 22 #[.pointer (some ⟨x, 0, none⟩), .int .i64 f, .int .i64 b, .int .i64 n] w fun e w' => ∃ v, e = .returned (.tuple #[v, .int .i64 0]) ∧ Byts v (readB L f b n) w' ∧ (∀ j, Blk v j → w.heap.size ≤ j) ∧ Turn NoBlock w w' := by
  have c1 := rhas_any h f
  rcases within_cases (L := L) (f := f) (b := b) (n := n) with ⟨h1, h2⟩ | ⟨h1, h2, h3⟩ | ⟨h1, h2, h3⟩
  · rw [h2] at hs; simp at hs
  · have hd : decide (usersL L f ≠ 0) = true := by simp [h1]
    rw [hd] at c1
    clear hd
    obtain ⟨k, u, bb, v, vd, vu, cap, ds, bs, us, rfl, hu, hR⟩ := h.frame f h1
    unfold inB at h2
    rw [decide_eq_true_iff] at h2
    obtain ⟨q1, q2, q3, q4⟩ := h2
    obtain ⟨o, rfl⟩ : ∃ o : Nat, b = o := ⟨b.toNat, by omega⟩
    obtain ⟨m, rfl⟩ : ∃ m : Nat, n = m := ⟨n.toNat, by omega⟩
    have hq : readB L (k : Int) o m = (bb.drop o).take m := by unfold readB; rw [hR.pg, Int.toNat_natCast, Int.toNat_natCast]
    rw [hq]
    have hB := hR.mem.each k v bb hR.dk hR.bk
    obtain ⟨g, c, hv, hc, hc'⟩ := own_shape hB (by rw [hR.size]; omega)
    rw [hR.size] at hv hc
    obtain ⟨gd, cd, hvd, -, d2, d3, -⟩ := hR.mem.bytes hR.dk
    have d1 := hR.mem.c0
    have hkd := (List.getElem?_eq_some_iff.1 hR.dk).1
    rw [hvd] at d1
    rw [hv] at d2
    obtain ⟨D, hw, hD⟩ := win_of g c o m (by omega) hc
    have hsrc : Src w (.slice D m (c - o)) ((bb.drop o).take m) := by
      have hl : ((bb.drop o).take m).length = m := by rw [List.length_take, List.length_drop, hR.size]; omega
      rcases Nat.eq_zero_or_pos m with h0 | h0
      · subst h0
        exact .inl ⟨⟨_, _, rfl⟩, by simp⟩
      · refine .inr ⟨g, o, c - o, by rw [hD h0, hl], fun j hj => ?_⟩
        rw [hl] at hj
        unfold Byts at hB
        rw [hv, hR.size] at hB
        rw [hB.cellAt (o + j) (by omega)]
        simp [bcells, List.getD, List.getElem?_drop, hj, List.getElem?_eq_getElem (show o + j < bb.length by rw [hR.size]; omega)]
    have cC := rcopy_any _ _ hsrc (by rw [List.length_take]; omega)
    obtain ⟨N, hN⟩ : ∃ N, ds.length = N := ⟨_, rfl⟩
    rw [hN] at d1 hkd
    generalize (bb.drop o).take m = rs at *
    clear h hs h1 h3 hR hB hq hv hvd hsrc hD hN hu
    go_enter Try.func22, Try.ntmps22
    go_wp2_with (first
      | (go_at_call 16; (with_reducible refine c1.mono ?_); rintro e w' ⟨rfl, rfl⟩)
      | (go_at_call 24; (with_reducible refine cC.mono ?_); rintro e w2 ⟨v2, rfl, B2, f2, t2⟩; have K2 := Lib.hid (And.intro B2 (And.intro f2 t2)); clear B2 f2 t2))
    go_ret2
    exact ⟨_, rfl, K2.out⟩
  · rw [h3] at hs; simp at hs
end Go.Proofs.Ytgcjjgljllephaa
