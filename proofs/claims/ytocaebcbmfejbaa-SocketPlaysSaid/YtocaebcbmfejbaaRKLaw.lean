/-
  The program's socket and the reference's side by side: what Write and Read make of both. No conditions.
-/
import Derived.Test.YtocaebcbmfejbaaRKWrite2
import Derived.Test.YtocaebcbmfejbaaRKReadS
import Derived.Test.YtocaebcbmfejbaaRKShows
namespace Go.Proofs.Ytocaebcbmfejbaa
open Go.RowKit

structure Rel (dg : Bool) (room : Nat) (K : Nat → En) (C M D : Nat → Bool) (Q : Nat → Pcs) : Prop where
  ok : ∀ e, e < 2 → EOK dg room (K e)
  c : ∀ e, e < 2 → C e = !(K e).op
  m : ∀ e, e < 2 → (K e).op = true → M e = (K e).nw
  d : ∀ e, e < 2 → (K e).op = true → D e = (K e).nr
  b : ∀ e, e < 2 → (K e).b = pb (Q e)
  p : ∀ e, e < 2 → dg = true → (K e).p = pl (Q e)
  one : ∀ e, e < 2 → dg = false → ∀ q ∈ Q e, q.2.length = 1
  pos : ∀ e, e < 2 → ∀ q ∈ Q e, 1 ≤ q.2.length
theorem pl_len (l : Pcs) : (pl l).length = l.length := by simp [pl]
theorem len_le_pb {l : Pcs} (h : ∀ q ∈ l, 1 ≤ q.2.length) : l.length ≤ (pb l).length := by
  rw [pb_len, ← pl_len l]
  exact sum_len (fun x hx => by
    unfold pl at hx
    obtain ⟨q, hq, rfl⟩ := List.mem_map.1 hx
    exact h q hq)
theorem pb_app (l m : Pcs) : pb (l ++ m) = pb l ++ pb m := by simp [pb]
theorem pl_app (l m : Pcs) : pl (l ++ m) = pl l ++ pl m := by simp [pl]
theorem pb_pcs1 (g o ca : Nat) (b : List UInt8) (m : Nat) (hm : m ≤ b.length) : pb (pcs1 g o ca b m) = b.take m := by
  induction m with
  | zero => rfl
  | succ m ih =>
    rw [pcs1_succ, pb_app, ih (by omega), List.take_add_one, List.getElem?_eq_getElem (by omega)]
    simp [pb, List.getD, List.getElem?_eq_getElem (show m < b.length by omega)]
section
variable {dg : Bool} {room : Nat} {K : Nat → En} {C M D : Nat → Bool} {Q : Nat → Pcs}
theorem Rel.blen (h : Rel dg room K C M D Q) {e : Nat} (he : e < 2) : (pb (Q e)).length ≤ room := by rw [← h.b e he]; exact (h.ok e he).len
theorem Rel.qlen (h : Rel dg room K C M D Q) {e : Nat} (he : e < 2) : (Q e).length ≤ room := Nat.le_trans (len_le_pb (h.pos e he)) (h.blen he)
/-- One end's bytes are others, alike on both sides. -/
theorem Rel.set (h : Rel dg room K C M D Q) {e : Nat} (he : e < 2) {s : En} {l : Pcs} (h1 : EOK dg room s) (h2 : s.op = (K e).op) (h3 : s.nw = (K e).nw) (h4 : s.nr = (K e).nr) (h5 : s.b = pb l) (h6 : dg = true → s.p = pl l) (h7 : dg = false → ∀ q ∈ l, q.2.length = 1) (h8 : ∀ q ∈ l, 1 ≤ q.2.length) : Rel dg room (updN K e s) C M D (updN Q e l) := by
  have hu : ∀ i, i ≠ e → updN K e s i = K i ∧ updN Q e l i = Q i := fun i hi => ⟨updN_other _ _ hi, updN_other _ _ hi⟩
  refine ⟨fun i hi => ?_, fun i hi => ?_, fun i hi => ?_, fun i hi => ?_, fun i hi => ?_, fun i hi => ?_, fun i hi => ?_, fun i hi => ?_⟩
  all_goals
    by_cases hie : i = e
    · subst hie
      first
        | (rw [updN_same, updN_same])
        | (rw [updN_same])
      first
        | exact h1
        | (rw [h2]; exact h.c i hi)
        | (rw [h2, h3]; exact h.m i hi)
        | (rw [h2, h4]; exact h.d i hi)
        | exact h5
        | exact h6
        | exact h7
        | exact h8
    · first
        | (rw [(hu i hie).1, (hu i hie).2])
        | (rw [(hu i hie).1])
        | (rw [(hu i hie).2])
      first
        | exact h.ok i hi
        | exact h.c i hi
        | exact h.m i hi
        | exact h.d i hi
        | exact h.b i hi
        | exact h.p i hi
        | exact h.one i hi
        | exact h.pos i hi
theorem upd_self {A : Type} (f : Nat → A) (e : Nat) {x : A} (h : x = f e) : updN f e x = f := by
  funext i
  unfold updN
  split
  · rename_i hi; rw [hi, h]
  · rfl
end
section
variable {w : World} {x room : Nat} {dg : Bool} {C M D : Nat → Bool} {U : Nat → Value} {Q : Nat → Pcs} {K : Nat → En}
theorem rw0 (h : RAt w x dg room C M D U Q) (R : Rel dg room K C M D Q) (hr2 : room ≤ 1048576) (vb : Value) (b : List UInt8) (hb : Byts vb b w) (hbl : b.length ≤ 100000) :
    Calls Try.prog 26 #[.pointer (some ⟨x, 0, none⟩), .int .i64 0, vb] w fun y w' => y = .returned (.tuple #[.int .i64 (wrN dg room K 0 b.length : Nat), .int .i64 (wrS dg room K 0 b.length)]) ∧ ∃ Q', RMadeQ w w' x dg room C M D U Q (Blk vb) Q' ∧ Rel dg room (wrK dg room K 0 b) C M D Q' := by
  have e0 : oth 0 = 1 := rfl
  have no : ∀ u : Int, u ≠ 0 → wrS dg room K 0 b.length = u → ∀ (y : Ending) (w' : World), (y = .returned (.tuple #[.int .i64 0, .int .i64 u]) ∧ Turn NoBlock w w') → y = .returned (.tuple #[.int .i64 (wrN dg room K 0 b.length : Nat), .int .i64 (wrS dg room K 0 b.length)]) ∧ ∃ Q', RMadeQ w w' x dg room C M D U Q (Blk vb) Q' ∧ Rel dg room (wrK dg room K 0 b) C M D Q' := by
    rintro u hu hs y w' ⟨rfl, t⟩
    unfold wrN wrK
    rw [hs, if_neg hu, if_neg hu]
    exact ⟨rfl, Q, RMadeQ.refl2 h t, R⟩
  have hlO := R.blen (e := 1) (by omega)
  have hqO := R.qlen (e := 1) (by omega)
  obtain ⟨pvb, cvb, hvb⟩ := WRow.sl hb
  cases ho : (K 0).op with
  | false =>
    have hc : C 0 = true := by rw [R.c 0 (by omega), ho]; rfl
    exact (rwrite_closed0 h hc vb).mono (fun y w' hh => no (-24) (by decide) (by unfold wrS; rw [if_pos ho]) y w' ⟨hh.1, by rw [← hh.2]; exact Turn.refl _ _⟩)
  | true =>
    have hc : C 0 = false := by rw [R.c 0 (by omega), ho]; rfl
    have e2 : wrS dg room K 0 b.length = if wayS (K 0) (K 1) = 0 then fitS dg room (room - (K 1).b.length) b.length else wayS (K 0) (K 1) := by unfold wrS; rw [if_neg (by rw [ho]; decide)]; rfl
    rcases wayS_any (K 0) (K 1) with hw | hw | hw
    · have hp0 : (K 1).op = false := hw.2.elim (fun h => by rw [ho] at h; cases h) (fun h => h)
      have hp : C 1 = true := by rw [R.c 1 (by omega), hp0]; rfl
      exact (rwrite_peer0 h hc hp vb).mono (fun y w' hh => no (-24) (by decide) (by rw [e2, hw.1]; rfl) y w' ⟨hh.1, by rw [← hh.2]; exact Turn.refl _ _⟩)
    · have hp : C 1 = false := by rw [R.c 1 (by omega), hw.2.2.1]; rfl
      have hs : M 0 = true ∨ D 1 = true := by
        rw [R.m 0 (by omega) ho, R.d 1 (by omega) hw.2.2.1]
        exact hw.2.2.2
      exact (rwrite_state0 h hc hp hs vb).mono (fun y w' hh => no (-20) (by decide) (by rw [e2, hw.1]; rfl) y w' ⟨hh.1, by rw [← hh.2]; exact Turn.refl _ _⟩)
    · obtain ⟨hw0, -, hpo, hnw, hnr⟩ := hw
      have hp : C 1 = false := by rw [R.c 1 (by omega), hpo]; rfl
      have hm : M 0 = false := by rw [R.m 0 (by omega) ho, hnw]
      have hd : D 1 = false := by rw [R.d 1 (by omega) hpo, hnr]
      rw [if_pos hw0] at e2
      have hbO := R.b 1 (by omega)
      have hfl := fit_le (dg := dg) (room := room) (fr := room - (K 1).b.length) (n := b.length) (by omega)
      have hok := R.ok 1 (by omega)
      have yes : ∀ (m : Nat), fitN dg room (room - (K 1).b.length) b.length = m → fitS dg room (room - (K 1).b.length) b.length = 0 → wrN dg room K 0 b.length = m ∧ wrS dg room K 0 b.length = 0 ∧ wrK dg room K 0 b = updN K 1 (wrE dg (K 1) m b) := fun m h1 h2 => by
        have h3 : wrS dg room K 0 b.length = 0 := by rw [e2, h2]
        have h4 : wrN dg room K 0 b.length = m := by unfold wrN; rw [if_pos h3]; exact h1
        exact ⟨h4, h3, by unfold wrK; rw [if_pos h3, h4]; rfl⟩
      rw [hbO] at e2 yes hfl
      rcases fit_any dg room (room - (pb (Q 1)).length) b.length (by omega) with hf | hf | hf | hf | hf | hf | hf | hf
      · rw [hvb]
        exact (rwrite_no0 h hr2 hc hp hm hd hlO (by omega) pvb b.length cvb (by omega) (-10) (.inl ⟨hf.1, hf.2.1, rfl⟩)).mono (by rw [← hvb]; exact no (-10) (by decide) (by rw [e2, hf.2.2.2]))
      · rw [hvb]
        exact (rwrite_no0 h hr2 hc hp hm hd hlO (by omega) pvb b.length cvb (by omega) (-14) (.inr (.inl ⟨hf.1, hf.2.1, hf.2.2.1, rfl⟩))).mono (by rw [← hvb]; exact no (-14) (by decide) (by rw [e2, hf.2.2.2.2]))
      · rw [hvb]
        exact (rwrite_no0 h hr2 hc hp hm hd hlO (by omega) pvb b.length cvb (by omega) (-22) (.inr (.inr (.inl ⟨hf.1, hf.2.1, hf.2.2.1, hf.2.2.2.1, rfl⟩)))).mono (by rw [← hvb]; exact no (-22) (by decide) (by rw [e2, hf.2.2.2.2.2]))
      · obtain ⟨rfl, h0, -, hn, h1, h2⟩ := hf
        obtain ⟨y1, y2, y3⟩ := yes _ h1 h2
        rw [y1, y2, y3]
        refine (rwrite_d0 h hr2 hc hp hm hd hlO (by omega) vb b hb h0 hn).mono (fun y w' hh => ⟨hh.1, _, hh.2, ?_⟩)
        refine R.set (by omega) (wrE_ok hok hpo (by omega) (by rw [hbO]; omega) (fun _ => h0)) rfl rfl rfl ?_ (fun _ => ?_) (fun h => by cases h) (fun q hq => ?_)
        · show (K 1).b ++ b.take b.length = _
          rw [List.take_length, hbO, pb_app]
          simp [pb]
        · show (K 1).p ++ [b.length] = _
          rw [R.p 1 (by omega) rfl, pl_app]
          rfl
        · rcases List.mem_append.1 hq with h5 | h5
          · exact R.pos 1 (by omega) q h5
          · simp at h5; subst h5; exact h0
      · rw [hvb]
        exact (rwrite_no0 h hr2 hc hp hm hd hlO (by omega) pvb b.length cvb (by omega) (-22) (.inr (.inr (.inr (.inr ⟨hf.1, hf.2.1, hf.2.2.1, rfl⟩))))).mono (by rw [← hvb]; exact no (-22) (by decide) (by rw [e2, hf.2.2.2.2]))
      · obtain ⟨rfl, h0, hfp, hn, h1, h2⟩ := hf
        obtain ⟨y1, y2, y3⟩ := yes _ h1 h2
        rw [y1, y2, y3]
        obtain ⟨g, o, ca, hv2, -⟩ := byts_shape hb h0
        rw [hv2] at hb ⊢
        refine (rwrite_s0 h hr2 hc hp hm hd hlO (by omega) g o ca b hb h0 hbl hfp b.length (by omega)).mono (fun y w' hh => ⟨hh.1, _, hh.2, ?_⟩)
        refine R.set (by omega) (wrE_ok hok hpo (Nat.le_refl _) (by rw [hbO]; omega) (fun h => by cases h)) rfl rfl rfl ?_ (fun h => by cases h) (fun _ q hq => ?_) (fun q hq => ?_)
        · show (K 1).b ++ b.take b.length = _
          rw [hbO, pb_app, pb_pcs1 _ _ _ _ _ (Nat.le_refl _)]
        · rcases List.mem_append.1 hq with h5 | h5
          · exact R.one 1 (by omega) rfl q h5
          · unfold pcs1 at h5; obtain ⟨i, _, rfl⟩ := List.mem_map.1 h5; rfl
        · rcases List.mem_append.1 hq with h5 | h5
          · exact R.pos 1 (by omega) q h5
          · unfold pcs1 at h5; obtain ⟨i, _, rfl⟩ := List.mem_map.1 h5; exact Nat.le_refl _
      · obtain ⟨rfl, h0, hfp, hn, h1, h2⟩ := hf
        obtain ⟨y1, y2, y3⟩ := yes _ h1 h2
        rw [y1, y2, y3]
        obtain ⟨g, o, ca, hv2, -⟩ := byts_shape hb h0
        rw [hv2] at hb ⊢
        refine (rwrite_s0 h hr2 hc hp hm hd hlO (by omega) g o ca b hb h0 hbl hfp (room - (pb (Q 1)).length) (by omega)).mono (fun y w' hh => ⟨hh.1, _, hh.2, ?_⟩)
        refine R.set (by omega) (wrE_ok hok hpo (by omega) (by rw [hbO]; omega) (fun h => by cases h)) rfl rfl rfl ?_ (fun h => by cases h) (fun _ q hq => ?_) (fun q hq => ?_)
        · show (K 1).b ++ b.take _ = _
          rw [hbO, pb_app, pb_pcs1 _ _ _ _ _ (by omega)]
        · rcases List.mem_append.1 hq with h5 | h5
          · exact R.one 1 (by omega) rfl q h5
          · unfold pcs1 at h5; obtain ⟨i, _, rfl⟩ := List.mem_map.1 h5; rfl
        · rcases List.mem_append.1 hq with h5 | h5
          · exact R.pos 1 (by omega) q h5
          · unfold pcs1 at h5; obtain ⟨i, _, rfl⟩ := List.mem_map.1 h5; exact Nat.le_refl _
      · obtain ⟨rfl, h0, h1, h2⟩ := hf
        obtain ⟨y1, y2, y3⟩ := yes _ h1 h2
        rw [y1, y2, y3, hvb]
        refine (rwrite_no0 h hr2 hc hp hm hd hlO (by omega) pvb b.length cvb (by omega) 0 (.inr (.inr (.inr (.inl ⟨rfl, h0, rfl⟩))))).mono (fun y w' hh => ⟨hh.1, Q, RMadeQ.refl2 h hh.2, ?_⟩)
        rw [upd_self K 1 (show wrE false (K 1) 0 b = K 1 by unfold wrE; simp)]
        exact R
theorem rw1 (h : RAt w x dg room C M D U Q) (R : Rel dg room K C M D Q) (hr2 : room ≤ 1048576) (vb : Value) (b : List UInt8) (hb : Byts vb b w) (hbl : b.length ≤ 100000) :
    Calls Try.prog 26 #[.pointer (some ⟨x, 0, none⟩), .int .i64 1, vb] w fun y w' => y = .returned (.tuple #[.int .i64 (wrN dg room K 1 b.length : Nat), .int .i64 (wrS dg room K 1 b.length)]) ∧ ∃ Q', RMadeQ w w' x dg room C M D U Q (Blk vb) Q' ∧ Rel dg room (wrK dg room K 1 b) C M D Q' := by
  have e0 : oth 1 = 0 := rfl
  have no : ∀ u : Int, u ≠ 0 → wrS dg room K 1 b.length = u → ∀ (y : Ending) (w' : World), (y = .returned (.tuple #[.int .i64 0, .int .i64 u]) ∧ Turn NoBlock w w') → y = .returned (.tuple #[.int .i64 (wrN dg room K 1 b.length : Nat), .int .i64 (wrS dg room K 1 b.length)]) ∧ ∃ Q', RMadeQ w w' x dg room C M D U Q (Blk vb) Q' ∧ Rel dg room (wrK dg room K 1 b) C M D Q' := by
    rintro u hu hs y w' ⟨rfl, t⟩
    unfold wrN wrK
    rw [hs, if_neg hu, if_neg hu]
    exact ⟨rfl, Q, RMadeQ.refl2 h t, R⟩
  have hlO := R.blen (e := 0) (by omega)
  have hqO := R.qlen (e := 0) (by omega)
  obtain ⟨pvb, cvb, hvb⟩ := WRow.sl hb
  cases ho : (K 1).op with
  | false =>
    have hc : C 1 = true := by rw [R.c 1 (by omega), ho]; rfl
    exact (rwrite_closed1 h hc vb).mono (fun y w' hh => no (-24) (by decide) (by unfold wrS; rw [if_pos ho]) y w' ⟨hh.1, by rw [← hh.2]; exact Turn.refl _ _⟩)
  | true =>
    have hc : C 1 = false := by rw [R.c 1 (by omega), ho]; rfl
    have e2 : wrS dg room K 1 b.length = if wayS (K 1) (K 0) = 0 then fitS dg room (room - (K 0).b.length) b.length else wayS (K 1) (K 0) := by unfold wrS; rw [if_neg (by rw [ho]; decide)]; rfl
    rcases wayS_any (K 1) (K 0) with hw | hw | hw
    · have hp0 : (K 0).op = false := hw.2.elim (fun h => by rw [ho] at h; cases h) (fun h => h)
      have hp : C 0 = true := by rw [R.c 0 (by omega), hp0]; rfl
      exact (rwrite_peer1 h hc hp vb).mono (fun y w' hh => no (-24) (by decide) (by rw [e2, hw.1]; rfl) y w' ⟨hh.1, by rw [← hh.2]; exact Turn.refl _ _⟩)
    · have hp : C 0 = false := by rw [R.c 0 (by omega), hw.2.2.1]; rfl
      have hs : M 1 = true ∨ D 0 = true := by
        rw [R.m 1 (by omega) ho, R.d 0 (by omega) hw.2.2.1]
        exact hw.2.2.2
      exact (rwrite_state1 h hc hp hs vb).mono (fun y w' hh => no (-20) (by decide) (by rw [e2, hw.1]; rfl) y w' ⟨hh.1, by rw [← hh.2]; exact Turn.refl _ _⟩)
    · obtain ⟨hw0, -, hpo, hnw, hnr⟩ := hw
      have hp : C 0 = false := by rw [R.c 0 (by omega), hpo]; rfl
      have hm : M 1 = false := by rw [R.m 1 (by omega) ho, hnw]
      have hd : D 0 = false := by rw [R.d 0 (by omega) hpo, hnr]
      rw [if_pos hw0] at e2
      have hbO := R.b 0 (by omega)
      have hfl := fit_le (dg := dg) (room := room) (fr := room - (K 0).b.length) (n := b.length) (by omega)
      have hok := R.ok 0 (by omega)
      have yes : ∀ (m : Nat), fitN dg room (room - (K 0).b.length) b.length = m → fitS dg room (room - (K 0).b.length) b.length = 0 → wrN dg room K 1 b.length = m ∧ wrS dg room K 1 b.length = 0 ∧ wrK dg room K 1 b = updN K 0 (wrE dg (K 0) m b) := fun m h1 h2 => by
        have h3 : wrS dg room K 1 b.length = 0 := by rw [e2, h2]
        have h4 : wrN dg room K 1 b.length = m := by unfold wrN; rw [if_pos h3]; exact h1
        exact ⟨h4, h3, by unfold wrK; rw [if_pos h3, h4]; rfl⟩
      rw [hbO] at e2 yes hfl
      rcases fit_any dg room (room - (pb (Q 0)).length) b.length (by omega) with hf | hf | hf | hf | hf | hf | hf | hf
      · rw [hvb]
        exact (rwrite_no1 h hr2 hc hp hm hd hlO (by omega) pvb b.length cvb (by omega) (-10) (.inl ⟨hf.1, hf.2.1, rfl⟩)).mono (by rw [← hvb]; exact no (-10) (by decide) (by rw [e2, hf.2.2.2]))
      · rw [hvb]
        exact (rwrite_no1 h hr2 hc hp hm hd hlO (by omega) pvb b.length cvb (by omega) (-14) (.inr (.inl ⟨hf.1, hf.2.1, hf.2.2.1, rfl⟩))).mono (by rw [← hvb]; exact no (-14) (by decide) (by rw [e2, hf.2.2.2.2]))
      · rw [hvb]
        exact (rwrite_no1 h hr2 hc hp hm hd hlO (by omega) pvb b.length cvb (by omega) (-22) (.inr (.inr (.inl ⟨hf.1, hf.2.1, hf.2.2.1, hf.2.2.2.1, rfl⟩)))).mono (by rw [← hvb]; exact no (-22) (by decide) (by rw [e2, hf.2.2.2.2.2]))
      · obtain ⟨rfl, h0, -, hn, h1, h2⟩ := hf
        obtain ⟨y1, y2, y3⟩ := yes _ h1 h2
        rw [y1, y2, y3]
        refine (rwrite_d1 h hr2 hc hp hm hd hlO (by omega) vb b hb h0 hn).mono (fun y w' hh => ⟨hh.1, _, hh.2, ?_⟩)
        refine R.set (by omega) (wrE_ok hok hpo (by omega) (by rw [hbO]; omega) (fun _ => h0)) rfl rfl rfl ?_ (fun _ => ?_) (fun h => by cases h) (fun q hq => ?_)
        · show (K 0).b ++ b.take b.length = _
          rw [List.take_length, hbO, pb_app]
          simp [pb]
        · show (K 0).p ++ [b.length] = _
          rw [R.p 0 (by omega) rfl, pl_app]
          rfl
        · rcases List.mem_append.1 hq with h5 | h5
          · exact R.pos 0 (by omega) q h5
          · simp at h5; subst h5; exact h0
      · rw [hvb]
        exact (rwrite_no1 h hr2 hc hp hm hd hlO (by omega) pvb b.length cvb (by omega) (-22) (.inr (.inr (.inr (.inr ⟨hf.1, hf.2.1, hf.2.2.1, rfl⟩))))).mono (by rw [← hvb]; exact no (-22) (by decide) (by rw [e2, hf.2.2.2.2]))
      · obtain ⟨rfl, h0, hfp, hn, h1, h2⟩ := hf
        obtain ⟨y1, y2, y3⟩ := yes _ h1 h2
        rw [y1, y2, y3]
        obtain ⟨g, o, ca, hv2, -⟩ := byts_shape hb h0
        rw [hv2] at hb ⊢
        refine (rwrite_s1 h hr2 hc hp hm hd hlO (by omega) g o ca b hb h0 hbl hfp b.length (by omega)).mono (fun y w' hh => ⟨hh.1, _, hh.2, ?_⟩)
        refine R.set (by omega) (wrE_ok hok hpo (Nat.le_refl _) (by rw [hbO]; omega) (fun h => by cases h)) rfl rfl rfl ?_ (fun h => by cases h) (fun _ q hq => ?_) (fun q hq => ?_)
        · show (K 0).b ++ b.take b.length = _
          rw [hbO, pb_app, pb_pcs1 _ _ _ _ _ (Nat.le_refl _)]
        · rcases List.mem_append.1 hq with h5 | h5
          · exact R.one 0 (by omega) rfl q h5
          · unfold pcs1 at h5; obtain ⟨i, _, rfl⟩ := List.mem_map.1 h5; rfl
        · rcases List.mem_append.1 hq with h5 | h5
          · exact R.pos 0 (by omega) q h5
          · unfold pcs1 at h5; obtain ⟨i, _, rfl⟩ := List.mem_map.1 h5; exact Nat.le_refl _
      · obtain ⟨rfl, h0, hfp, hn, h1, h2⟩ := hf
        obtain ⟨y1, y2, y3⟩ := yes _ h1 h2
        rw [y1, y2, y3]
        obtain ⟨g, o, ca, hv2, -⟩ := byts_shape hb h0
        rw [hv2] at hb ⊢
        refine (rwrite_s1 h hr2 hc hp hm hd hlO (by omega) g o ca b hb h0 hbl hfp (room - (pb (Q 0)).length) (by omega)).mono (fun y w' hh => ⟨hh.1, _, hh.2, ?_⟩)
        refine R.set (by omega) (wrE_ok hok hpo (by omega) (by rw [hbO]; omega) (fun h => by cases h)) rfl rfl rfl ?_ (fun h => by cases h) (fun _ q hq => ?_) (fun q hq => ?_)
        · show (K 0).b ++ b.take _ = _
          rw [hbO, pb_app, pb_pcs1 _ _ _ _ _ (by omega)]
        · rcases List.mem_append.1 hq with h5 | h5
          · exact R.one 0 (by omega) rfl q h5
          · unfold pcs1 at h5; obtain ⟨i, _, rfl⟩ := List.mem_map.1 h5; rfl
        · rcases List.mem_append.1 hq with h5 | h5
          · exact R.pos 0 (by omega) q h5
          · unfold pcs1 at h5; obtain ⟨i, _, rfl⟩ := List.mem_map.1 h5; exact Nat.le_refl _
      · obtain ⟨rfl, h0, h1, h2⟩ := hf
        obtain ⟨y1, y2, y3⟩ := yes _ h1 h2
        rw [y1, y2, y3, hvb]
        refine (rwrite_no1 h hr2 hc hp hm hd hlO (by omega) pvb b.length cvb (by omega) 0 (.inr (.inr (.inr (.inl ⟨rfl, h0, rfl⟩))))).mono (fun y w' hh => ⟨hh.1, Q, RMadeQ.refl2 h hh.2, ?_⟩)
        rw [upd_self K 0 (show wrE false (K 0) 0 b = K 0 by unfold wrE; simp)]
        exact R
end
end Go.Proofs.Ytocaebcbmfejbaa
