/-
  What Read of a pool answers. No conditions but that the pool is one that calls can make.
-/
import Derived.Test.YtgcjjgljllephaaPWrite
namespace Go.Proofs.Ytgcjjgljllephaa
open Go.ChangeShapes Go.WideShapes Go.ChangeAt Go.RowKit

/-- Bytes in a slice of the call's own. -/
def Byts (v : Value) (bs : List UInt8) (w : World) : Prop := w.ownsRow 0 5 1 v bs.length (bcells bs)
theorem own_byts (v : Value) (bs : List UInt8) : Own (Blk v) (Byts v bs) :=
  ⟨fun _ _ _ h ht hf => ht.own h hf, fun _ h k hk => by obtain ⟨cur, hc⟩ := own_block h hk; exact lt_of_block hc⟩
theorem Byts.src {w : World} {v : Value} {bs : List UInt8} (h : Byts v bs w) : Src w v bs := by
  unfold Byts at h
  rcases h.2 with ⟨rfl, h0⟩ | ⟨g, cap, cur, rfl, _⟩
  · exact .inl ⟨⟨none, 0, rfl⟩, List.eq_nil_of_length_eq_zero h0⟩
  · refine .inr ⟨g, 0, cap, rfl, fun j hj => ?_⟩
    rw [Nat.zero_add, h.cellAt j (by omega)]
    simp [bcells, List.getD, List.getElem?_eq_getElem hj]
theorem info5 : (Try.prog.info? 5).map (fun i => (i.zero, i.size, i.bytes)) = some (some (.int .u8 0), 1, 1) := by kernel_rfl

def readB (L : List Pg) (f b n : Int) : List UInt8 := ((pgAt L f).bytes.drop b.toNat).take n.toNat

section
variable {w : World} {a cap : Nat} {vs vf : Value} {ps : List Pg} {fr : List Nat}
theorem read_no {F : Nat → Prop} {L : List Pg} (h : PoolAt w a F L) (f b n : Int) (hs : withinS L f b n ≠ 0) :
    Calls Try.prog 21 #[.pointer (some ⟨a, 0, none⟩), .int .i64 f, .int .i64 b, .int .i64 n] w fun e w' => e = .returned (.tuple #[.slice none 0 0, .int .i64 (withinS L f b n)]) ∧ w = w' := by
  have c1 := within_any h f b n
  have hb : (withinS L f b n != 0) = true := by simp [hs]
  generalize withinS L f b n = S at *
  clear h hs
  go_enter Try.func21, Try.ntmps21
  go_wp2_with (go_at_call 42; (with_reducible refine c1.mono ?_); rintro e w' ⟨rfl, rfl⟩)
  go_ret2
  exact ⟨rfl, rfl⟩

/-- The bytes of a frame from a place on, in new memory. -/
theorem copy_out (w : World) (g o b n gd : Nat) (D : Addr) (pb rs : List UInt8) (xs : List Value) (hD : b < 64 → D = ⟨g, o + b, none⟩) (hb : b + n ≤ 64) (hp : pb.length = 64) (hrs : rs = (pb.drop b).take n)
    (hr : w.rangeAt g o (bcells pb)) (hown : w.ownsRow 0 5 1 (.slice (some ⟨gd, 0, none⟩) n n) n xs) :
    ∃ W, (∀ ty, (Builtin.copy_ #[31, 31] ty #[.slice (some ⟨gd, 0, none⟩) n n, .slice (some D) (64 - b) (64 - b)]).run Try.prog w = .ok (goInt n) W) ∧ Byts (.slice (some ⟨gd, 0, none⟩) n n) rs W ∧ Turn (fun j => j = gd) w W := by
  have hl : rs.length = n := by rw [hrs, List.length_take, List.length_drop]; omega
  have hxl := hown.1
  rw [Nat.mul_one] at hxl
  have hput := own_putAt (bcells rs) 0 w xs hown (by rw [bcells_len, hl]; omega)
  have e : putAt xs 0 (bcells rs) = bcells rs := by
    unfold putAt
    rw [List.take_zero, List.nil_append, List.drop_of_length_le (by rw [bcells_len, hl]; omega), List.append_nil]
  rw [e] at hput
  refine ⟨w.setCells gd 0 (bcells rs), fun ty => ?_, by unfold Byts; rw [hl]; exact hput, turn_setCells (F := fun j => j = gd) rfl _ _ _ _ (Turn.refl _ _)⟩
  by_cases h0 : n = 0
  · subst h0
    obtain rfl : rs = [] := List.eq_nil_of_length_eq_zero hl
    exact run_copy_none (P := Try.prog) w 31 31 ty 5 _ _ 0 0 (64 - b) (64 - b) bytes31 elem5 (Nat.min_zero _)
  · have hDe := hD (by omega)
    subst hDe
    have := run_copy_cells (P := Try.prog) w 31 31 ty 5 gd 0 n n ⟨g, o + b, none⟩ (64 - b) (64 - b) (bcells rs) bytes31 elem5 (by rw [bcells_len, hl]; exact (Nat.min_eq_right (by omega)).symm) (fun j v hj => ?_) (fun j hj => ?_) (fun j _ => hown.frozenAt _) (bcells_one rs)
    · rw [bcells_len, hl] at this
      exact this
    · have hlt : j < n := by
        have := (List.getElem?_eq_some_iff.1 hj).1
        rwa [bcells_len, hl] at this
      rw [Addr.add_mid, Nat.add_assoc]
      refine hr (b + j) v ?_
      rw [← hj, hrs]
      simp only [bcells, List.getElem?_map, List.getElem?_take, List.getElem?_drop, if_pos hlt]
    · rw [bcells_len, hl] at hj
      rw [Nat.zero_add, hown.cellAt j (by omega), List.getElem?_eq_getElem (by omega)]; rfl

set_option maxRecDepth 20000 in
theorem read_mem (h : PMem w a vs vf cap ps fr) (k : Nat) (p : Pg) (hp : ps[k]? = some p) (b n : Nat) (hb : b + n ≤ 64)
    (c1 : Calls Try.prog 42 #[.pointer (some ⟨a, 0, none⟩), .int .i64 k, .int .i64 b, .int .i64 n] w fun e w' => e = .returned (.int .i64 0) ∧ w = w') :
    Calls Try.prog 21 #[.pointer (some ⟨a, 0, none⟩), .int .i64 k, .int .i64 b, .int .i64 n] w fun e w' => ∃ v, e = .returned (.tuple #[v, .int .i64 0]) ∧ Byts v ((p.bytes.drop b).take n) w' ∧ (∀ j, Blk v j → w.heap.size ≤ j) ∧ Turn NoBlock w w' := by
  obtain ⟨i, hi, hz0, hz1, hz2⟩ := info_parts info5
  have hsz := h.sized k p hp
  have HM := Lib.hid (fun w' (t : Turn NoBlock w w') => h.past t)
  have HP := Lib.hid hp
  obtain ⟨g, c, rfl, g1, g2, g3, g4, g5, g6, -, -, g7, g10⟩ := h.page hp
  have d1 := h.c1
  obtain ⟨D, hsl, hD⟩ := slice_from g (k * 65 + 1) b (by omega)
  have HD := Lib.hid hD
  have HS := Lib.hid hsz
  have alt := lt_of_block h.head
  obtain ⟨rs, hrs⟩ : ∃ rs, (p.bytes.drop b).take n = rs := ⟨_, rfl⟩
  rw [hrs]
  have HR := Lib.hid hrs
  obtain ⟨N, hNe⟩ : ∃ N, ps.length = N := ⟨_, rfl⟩
  rw [hNe] at HM d1 g1 g2
  clear h hp hsz hD hrs g6 g7 g10 hNe
  have q1 : i.bytes * n ≤ 281474976710656 := by rw [hz2]; omega
  have q2 : n ≤ maxLen := by unfold maxLen; omega
  go_enter Try.func21, Try.ntmps21
  go_wp2_with (first
    | (go_at_call 42; (with_reducible refine c1.mono ?_); rintro e w' ⟨rfl, rfl⟩)
    | (at_make; refine wpList_make_full _ rfl (.tmp 20) (.tmp 20) 31 rfl 0 5 i _ 1 bytes31 hi hz0 hz1 .i64 .i64 _ _ n rfl rfl rfl rfl q1 q2 (Nat.zero_le _) ?_; intro w2 hown hgrow; have T2 := Lib.hid (show Turn NoBlock w w2 from (Turn.refl NoBlock w).grown hgrow (fun k e => by cases e)); have M2 := HM.out w2 T2.out; obtain ⟨_, _, he, -, -, -, -, -, -, -, g9, -, -⟩ := M2.page HP.out; simp only [Value.slice.injEq, Option.some.injEq, Addr.mk.injEq, and_true] at he; obtain ⟨rfl, -, -⟩ := he; have e1 := M2.c1; obtain ⟨W, hcp, hB, hTW⟩ := copy_out w2 g (k * 65 + 1) b n w.heap.size D p.bytes rs _ HD.out hb HS.out HR.out.symm g9 hown; have KW := Lib.hid (And.intro hB hTW); clear hown hgrow M2 g9 hB hTW))
  go_ret2
  refine ⟨_, rfl, KW.out.1, fun j hj => ?_, T2.out.trans KW.out.2 (fun j hj => .inr (by subst hj; exact Nat.le_refl _))⟩
  simp [Blk, Value.ownBlock] at hj
  omega
end

theorem read_any {w : World} {a : Nat} {F : Nat → Prop} {L : List Pg} (h : PoolAt w a F L) (f b n : Int) (hs : withinS L f b n = 0) :
    Calls Try.prog 21 #[.pointer (some ⟨a, 0, none⟩), .int .i64 f, .int .i64 b, .int .i64 n] w fun e w' => ∃ v, e = .returned (.tuple #[v, .int .i64 0]) ∧ Byts v (readB L f b n) w' ∧ (∀ j, Blk v j → w.heap.size ≤ j) ∧ Turn NoBlock w w' := by
  have c1 := within_any h f b n
  rw [hs] at c1
  have h2 : usersL L f ≠ 0 := fun h => by unfold withinS at hs; rw [if_pos h] at hs; simp at hs
  have h3 : inB b n = true := by
    unfold withinS at hs
    rw [if_neg h2] at hs
    by_cases h3 : inB b n = true
    · exact h3
    · rw [if_neg h3] at hs; simp at hs
  unfold inB at h3
  rw [decide_eq_true_iff] at h3
  obtain ⟨vs, vf, cap, ps, fr, hM, ok, rfl, rfl⟩ := h
  have hf : ¬ f < 0 := fun hf => h2 (by unfold usersL; rw [pgAt_neg _ hf]; rfl)
  obtain ⟨k, rfl⟩ : ∃ k : Nat, f = k := ⟨f.toNat, by omega⟩
  obtain ⟨o, rfl⟩ : ∃ o : Nat, b = o := ⟨b.toNat, by omega⟩
  obtain ⟨m, rfl⟩ : ∃ m : Nat, n = m := ⟨n.toNat, by omega⟩
  have hg : pgAt (padP cap ps) k = ps.getD k Pg.none := by rw [pgAt_pad, pgAt_nat]
  have hlt : k < ps.length := by
    rcases Nat.lt_or_ge k ps.length with h | h
    · exact h
    · exfalso
      apply h2
      unfold usersL
      rw [hg, List.getD_eq_getElem?_getD, List.getElem?_eq_none h]; rfl
  obtain ⟨p, hp⟩ : ∃ p, ps[k]? = some p := ⟨_, List.getElem?_eq_getElem hlt⟩
  have hgp : pgAt (padP cap ps) k = p := by rw [hg]; simp [List.getD, hp]
  unfold readB
  rw [hgp, Int.toNat_natCast, Int.toNat_natCast]
  exact read_mem hM k p hp o m (by omega) c1
end Go.Proofs.Ytgcjjgljllephaa
