/-
  What Write makes of the socket where bytes come. No conditions but that the socket is one that calls can make, and that the bytes can be read.
-/
import Derived.Test.YtocaebcbmfejbaaKWrite
import Derived.OwnWalk
namespace Go.Proofs.Ytocaebcbmfejbaa
open Go.ChangeShapes Go.WideShapes Go.ChangeAt Go.RowKit

section
variable {w : World} {c room : Nat} {dg : Bool} {K : Nat → En} {V : Nat → EV}
set_option maxRecDepth 20000 in
set_option maxHeartbeats 1000000 in
theorem kput0_s (h : KMem w c false room K V) (ho : (K 0).op = true) (hw : wayS (K 0) (K 1) = 0) (vb : Value) (b : List UInt8) (hb : b.length ≤ 1000000) (hr : Rk w vb b) (hs : fitS false room (room - (K 1).b.length) b.length = 0) :
    Calls Try.prog 25 #[.pointer (some ⟨c, 0, none⟩), .int .i64 0, vb] w fun x w' => x = .returned (.tuple #[.int .i64 (fitN false room (room - (K 1).b.length) b.length : Nat), .int .i64 0]) ∧ KMade w w' c false room V (updN K 1 (wrE false (K 1) (fitN false room (room - (K 1).b.length) b.length) b)) := by
  obtain ⟨i5, hi5, hz5, hs5, hb5⟩ := info_parts infoB
  have HC := Lib.hid (kright_yes0 h ho)
  have HW := kway0 h
  rw [hw] at HW
  have HWh := Lib.hid HW
  have HF := fun W (t : Turn NoBlock w W) => kfits0 (h.past t) b.length (by unfold maxLen; omega)
  rw [hs] at HF
  have hfl := fit_le (dg := false) (room := room) (fr := room - (K 1).b.length) (n := b.length) (by omega)
  rw [hs] at hfl
  have hop : (K 1).op = true := by
    rcases wayS_any (K 0) (K 1) with h1 | h1 | h1
    · rw [h1.1] at hw; cases hw
    · rw [h1.1] at hw; cases hw
    · exact h1.2.2.1
  have hok := wrE_ok (b := b) (h.ok 1 (by omega)) hop hfl.1 hfl.2.1 (fun hd => hfl.2.2 hd rfl)
  generalize fitN false room (room - (K 1).b.length) b.length = n at *
  have HFh := Lib.hid HF
  obtain ⟨pn, cn, hsl, hrk⟩ := rk_take hr hfl.1
  obtain ⟨pb, cb, hvb, hcb⟩ := hr.sl
  have EA := h.s 1 (by omega)
  obtain ⟨p3, ca3, hv3⟩ := EA.rowB.sl
  have CO := Lib.hid (fun w => kother0 w)
  have o3 : w.cell? ⟨c, 10, none⟩ = some (V 1).b := EA.c3
  rw [hv3] at o3
  have hro := EA.rowB
  unfold Byts at hro
  rw [hv3] at hro
  have c0 := h.c0
  have HC0 := Lib.hid (And.intro c0 o3)
  have ROW := Lib.hid (fun W (t : Turn NoBlock w W) => hro.past t)
  have SRC := Lib.hid (fun W (t : Turn NoBlock w W) => Rz.src (hrk.past t).rz 35 5 bytesT (bcells_one _))
  have TYC := Lib.hid (fun W (t : Turn NoBlock w W) => EA.typ.kept t (fun h => h))
  have hnb := EA.nb
  rw [hv3] at hnb
  have HNB := Lib.hid hnb
  have hlb := (h.ok 1 (by omega)).len
  have hr2 := h.r2
  have hln : (b.take n).length = n := by rw [List.length_take]; have := hfl.1; omega
  have LB := Lib.hid (show (K 1).b.length + (b.take n).length ≤ maxLen ∧ ((K 1).b.length + (b.take n).length) * 1 ≤ 140737488355328 by unfold maxLen; have := hfl.1; omega)
  have HM := Lib.hid (And.intro h (And.intro hok (And.intro hv3 hln)))
  subst hvb
  have hni : (n : Int) ≤ 1000000 := by have := hfl.1; omega
  have hbi : (b.length : Int) ≤ 1000000 := by omega
  clear h ho hw hr hs hrk HW HF hfl hok hcb EA hv3 hro hnb hlb hr2 hop hb o3 c0
  obtain ⟨b2, hb2⟩ : ∃ b2, b.take n = b2 := ⟨_, rfl⟩
  rw [hb2] at hln LB SRC
  subst hln
  have HB2 := Lib.hid hb2
  clear hb2
  generalize b.length = bl at *
  go_enter Try.func25, Try.ntmps25
  go_wp2_with (first
    | (go_at_call 71; (with_reducible refine HC.out.mono ?_); rintro x w' ⟨rfl, rfl⟩)
    | (go_at_call 72; (with_reducible refine HWh.out.mono ?_); rintro x w' ⟨rfl, n2, rfl⟩)
    | (go_at_call 73; (with_reducible refine (HFh.out _ ((Turn.refl _ _).drewN _)).mono ?_); rintro x w' ⟨rfl, n3, rfl⟩))
  go_region_held3 (fun _ => True) (trivial) (first | (go_at_call 74; (with_reducible refine (CO.out _).mono ?_); rintro x w2 ⟨rfl, rfl⟩))
  go_wp2
  have T5 := Lib.hid (show Turn NoBlock w (w.drewN (n2 + n3 + 1)) from (Turn.refl _ _).drewN _)
  generalize w.drewN (n2 + n3 + 1) = W5 at *
  have o5 := T5.out.cell HC0.out.2 (fun h => h)
  have cl := (TYC.out _ T5.out).lt
  generalize hkl : (K 1).b.length = kl at *
  have HKL := Lib.hid hkl
  clear hkl
  go_region_law (first
    | (refine step_append_w rfl (.tmp 46) (.tmp 49) 35 35 rfl (ROW.out _ (by first | exact T5.out | exact T5.out.drew)) i5 _ 1 bytesT hi5 hz5 hs5 hb5 (by rfl) (by rfl) (by rfl) (SRC.out _ (by first | exact T5.out | exact T5.out.drew)) LB.out.1 LB.out.2 ?_; intro v7 W7 r7 t7 k7; obtain ⟨p7, c7, rfl⟩ := r7.sl; have t57 := show Turn NoBlock w W5.drew from T5.out.drew; have b7 := t7.cell (t57.cell HC0.out.2 (fun h => h)) HNB.out; have f7 := ((TYC.out _ t57).kept t7 HNB.out).free (7 + 3); have l7 := ((TYC.out _ t57).kept t7 HNB.out).lt; have d7 := t7.cell (t57.cell HC0.out.1 (fun h => h)) HNB.out; simp only [Nat.reduceAdd] at f7; have R7 := Lib.hid (And.intro r7 (And.intro t7 (And.intro k7 t57))); clear r7 t7 k7 t57))
  go_wp2
  go_ret2
  refine ⟨rfl, ?_⟩
  have EA := HM.out.1.s 1 (by omega)
  have st := EA.putB (w1 := W7) (b := (K 1).b ++ b2) ((TU R7.out.2.2.2).trans (by rw [HM.out.2.2.1]; exact R7.out.2.1) (fun k hk => .inl hk)) (vb := .slice p7 (kl + b2.length) c7) (by unfold Byts; rw [List.length_append, HKL.out, show bcells ((K 1).b ++ b2) = bcells (K 1).b ++ bcells b2 by simp [bcells]]; exact R7.out.1) (fun k hk => by
    rw [HM.out.2.2.1]
    rcases R7.out.2.2.1 k hk with h | h
    · exact .inl h
    · right; have := R7.out.2.2.2.size; omega)
  have := HM.out.1.step (e := 1) (by omega) st (by have := HM.out.2.1; unfold wrE at this; rw [HB2.out] at this; exact this)
  unfold wrE
  rw [HB2.out]
  exact this
set_option maxRecDepth 20000 in
set_option maxHeartbeats 1000000 in
theorem kput1_s (h : KMem w c false room K V) (ho : (K 1).op = true) (hw : wayS (K 1) (K 0) = 0) (vb : Value) (b : List UInt8) (hb : b.length ≤ 1000000) (hr : Rk w vb b) (hs : fitS false room (room - (K 0).b.length) b.length = 0) :
    Calls Try.prog 25 #[.pointer (some ⟨c, 0, none⟩), .int .i64 1, vb] w fun x w' => x = .returned (.tuple #[.int .i64 (fitN false room (room - (K 0).b.length) b.length : Nat), .int .i64 0]) ∧ KMade w w' c false room V (updN K 0 (wrE false (K 0) (fitN false room (room - (K 0).b.length) b.length) b)) := by
  obtain ⟨i5, hi5, hz5, hs5, hb5⟩ := info_parts infoB
  have HC := Lib.hid (kright_yes1 h ho)
  have HW := kway1 h
  rw [hw] at HW
  have HWh := Lib.hid HW
  have HF := fun W (t : Turn NoBlock w W) => kfits1 (h.past t) b.length (by unfold maxLen; omega)
  rw [hs] at HF
  have hfl := fit_le (dg := false) (room := room) (fr := room - (K 0).b.length) (n := b.length) (by omega)
  rw [hs] at hfl
  have hop : (K 0).op = true := by
    rcases wayS_any (K 1) (K 0) with h1 | h1 | h1
    · rw [h1.1] at hw; cases hw
    · rw [h1.1] at hw; cases hw
    · exact h1.2.2.1
  have hok := wrE_ok (b := b) (h.ok 0 (by omega)) hop hfl.1 hfl.2.1 (fun hd => hfl.2.2 hd rfl)
  generalize fitN false room (room - (K 0).b.length) b.length = n at *
  have HFh := Lib.hid HF
  obtain ⟨pn, cn, hsl, hrk⟩ := rk_take hr hfl.1
  obtain ⟨pb, cb, hvb, hcb⟩ := hr.sl
  have EA := h.s 0 (by omega)
  obtain ⟨p3, ca3, hv3⟩ := EA.rowB.sl
  have CO := Lib.hid (fun w => kother1 w)
  have o3 : w.cell? ⟨c, 5, none⟩ = some (V 0).b := EA.c3
  rw [hv3] at o3
  have hro := EA.rowB
  unfold Byts at hro
  rw [hv3] at hro
  have c0 := h.c0
  have HC0 := Lib.hid (And.intro c0 o3)
  have ROW := Lib.hid (fun W (t : Turn NoBlock w W) => hro.past t)
  have SRC := Lib.hid (fun W (t : Turn NoBlock w W) => Rz.src (hrk.past t).rz 35 5 bytesT (bcells_one _))
  have TYC := Lib.hid (fun W (t : Turn NoBlock w W) => EA.typ.kept t (fun h => h))
  have hnb := EA.nb
  rw [hv3] at hnb
  have HNB := Lib.hid hnb
  have hlb := (h.ok 0 (by omega)).len
  have hr2 := h.r2
  have hln : (b.take n).length = n := by rw [List.length_take]; have := hfl.1; omega
  have LB := Lib.hid (show (K 0).b.length + (b.take n).length ≤ maxLen ∧ ((K 0).b.length + (b.take n).length) * 1 ≤ 140737488355328 by unfold maxLen; have := hfl.1; omega)
  have HM := Lib.hid (And.intro h (And.intro hok (And.intro hv3 hln)))
  subst hvb
  have hni : (n : Int) ≤ 1000000 := by have := hfl.1; omega
  have hbi : (b.length : Int) ≤ 1000000 := by omega
  clear h ho hw hr hs hrk HW HF hfl hok hcb EA hv3 hro hnb hlb hr2 hop hb o3 c0
  obtain ⟨b2, hb2⟩ : ∃ b2, b.take n = b2 := ⟨_, rfl⟩
  rw [hb2] at hln LB SRC
  subst hln
  have HB2 := Lib.hid hb2
  clear hb2
  generalize b.length = bl at *
  go_enter Try.func25, Try.ntmps25
  go_wp2_with (first
    | (go_at_call 71; (with_reducible refine HC.out.mono ?_); rintro x w' ⟨rfl, rfl⟩)
    | (go_at_call 72; (with_reducible refine HWh.out.mono ?_); rintro x w' ⟨rfl, n2, rfl⟩)
    | (go_at_call 73; (with_reducible refine (HFh.out _ ((Turn.refl _ _).drewN _)).mono ?_); rintro x w' ⟨rfl, n3, rfl⟩))
  go_region_held3 (fun _ => True) (trivial) (first | (go_at_call 74; (with_reducible refine (CO.out _).mono ?_); rintro x w2 ⟨rfl, rfl⟩))
  go_wp2
  have T5 := Lib.hid (show Turn NoBlock w (w.drewN (n2 + n3 + 1)) from (Turn.refl _ _).drewN _)
  generalize w.drewN (n2 + n3 + 1) = W5 at *
  have o5 := T5.out.cell HC0.out.2 (fun h => h)
  have cl := (TYC.out _ T5.out).lt
  generalize hkl : (K 0).b.length = kl at *
  have HKL := Lib.hid hkl
  clear hkl
  go_region_law (first
    | (refine step_append_w rfl (.tmp 46) (.tmp 49) 35 35 rfl (ROW.out _ (by first | exact T5.out | exact T5.out.drew)) i5 _ 1 bytesT hi5 hz5 hs5 hb5 (by rfl) (by rfl) (by rfl) (SRC.out _ (by first | exact T5.out | exact T5.out.drew)) LB.out.1 LB.out.2 ?_; intro v7 W7 r7 t7 k7; obtain ⟨p7, c7, rfl⟩ := r7.sl; have t57 := show Turn NoBlock w W5.drew from T5.out.drew; have b7 := t7.cell (t57.cell HC0.out.2 (fun h => h)) HNB.out; have f7 := ((TYC.out _ t57).kept t7 HNB.out).free (2 + 3); have l7 := ((TYC.out _ t57).kept t7 HNB.out).lt; have d7 := t7.cell (t57.cell HC0.out.1 (fun h => h)) HNB.out; simp only [Nat.reduceAdd] at f7; have R7 := Lib.hid (And.intro r7 (And.intro t7 (And.intro k7 t57))); clear r7 t7 k7 t57))
  go_wp2
  go_ret2
  refine ⟨rfl, ?_⟩
  have EA := HM.out.1.s 0 (by omega)
  have st := EA.putB (w1 := W7) (b := (K 0).b ++ b2) ((TU R7.out.2.2.2).trans (by rw [HM.out.2.2.1]; exact R7.out.2.1) (fun k hk => .inl hk)) (vb := .slice p7 (kl + b2.length) c7) (by unfold Byts; rw [List.length_append, HKL.out, show bcells ((K 0).b ++ b2) = bcells (K 0).b ++ bcells b2 by simp [bcells]]; exact R7.out.1) (fun k hk => by
    rw [HM.out.2.2.1]
    rcases R7.out.2.2.1 k hk with h | h
    · exact .inl h
    · right; have := R7.out.2.2.2.size; omega)
  have := HM.out.1.step (e := 0) (by omega) st (by have := HM.out.2.1; unfold wrE at this; rw [HB2.out] at this; exact this)
  unfold wrE
  rw [HB2.out]
  exact this
end
end Go.Proofs.Ytocaebcbmfejbaa
