/-
  What Write makes of the socket where a piece comes. No conditions but that the socket is one that calls can make, and that the bytes can be read.
-/
import Derived.Test.YtocaebcbmfejbaaKWrite
import Derived.Test.YtocaebcbmfejbaaKPut
namespace Go.Proofs.Ytocaebcbmfejbaa
open Go.ChangeShapes Go.WideShapes Go.ChangeAt Go.RowKit

theorem rd_new_at (w : World) (t size : Nat) (cs : Array Value) (hs : cs.size = size) {B : Nat} (hB : w.heap.size = B) : Rd (w.alloc (.cells cs t)) size (.slice (some ⟨B, 0, none⟩) 1 1) 1 cs.toList := by
  subst hB
  exact rd_new w t size cs hs
section
variable {w : World} {c room : Nat} {dg : Bool} {K : Nat → En} {V : Nat → EV}
set_option maxRecDepth 20000 in
set_option maxHeartbeats 1000000 in
theorem kput0_d (h : KMem w c true room K V) (ho : (K 0).op = true) (hw : wayS (K 0) (K 1) = 0) (vb : Value) (b : List UInt8) (hb : b.length ≤ 1000000) (hr : Rk w vb b) (hs : fitS true room (room - (K 1).b.length) b.length = 0) :
    Calls Try.prog 25 #[.pointer (some ⟨c, 0, none⟩), .int .i64 0, vb] w fun x w' => x = .returned (.tuple #[.int .i64 (fitN true room (room - (K 1).b.length) b.length : Nat), .int .i64 0]) ∧ KMade w w' c true room V (updN K 1 (wrE true (K 1) (fitN true room (room - (K 1).b.length) b.length) b)) := by
  obtain ⟨i3, hi3, hz3, hs3, hb3⟩ := info_parts infoI
  obtain ⟨i5, hi5, hz5, hs5, hb5⟩ := info_parts infoB
  have HC := Lib.hid (kright_yes0 h ho)
  have HW := kway0 h
  rw [hw] at HW
  have HWh := Lib.hid HW
  have HF := fun W (t : Turn NoBlock w W) => kfits0 (h.past t) b.length (by unfold maxLen; omega)
  rw [hs] at HF
  have hfl := fit_le (dg := true) (room := room) (fr := room - (K 1).b.length) (n := b.length) (by omega)
  rw [hs] at hfl
  have hop : (K 1).op = true := by
    rcases wayS_any (K 0) (K 1) with h1 | h1 | h1
    · rw [h1.1] at hw; cases hw
    · rw [h1.1] at hw; cases hw
    · exact h1.2.2.1
  have hok := wrE_ok (b := b) (h.ok 1 (by omega)) hop hfl.1 hfl.2.1 (fun hd => hfl.2.2 hd rfl)
  generalize fitN true room (room - (K 1).b.length) b.length = n at *
  have HFh := Lib.hid HF
  obtain ⟨pn, cn, hsl, hrk⟩ := rk_take hr hfl.1
  obtain ⟨pb, cb, hvb, hcb⟩ := hr.sl
  have EA := h.s 1 (by omega)
  obtain ⟨p3, ca3, hv3⟩ := EA.rowB.sl
  have CO := Lib.hid (fun w => kother0 w)
  have o3 : w.cell? ⟨c, 10, none⟩ = some (V 1).b := EA.c3
  rw [hv3] at o3
  have hro := EA.rowB
  unfold Byts at hro
  rw [hv3] at hro
  have c0 := h.c0
  obtain ⟨p4, ca4, hv4⟩ := EA.rowP.sl
  have o4 : w.cell? ⟨c, 11, none⟩ = some (V 1).p := EA.c4
  rw [hv4] at o4
  have hrp := EA.rowP
  unfold Nums at hrp
  rw [hv4] at hrp
  have hbp := EA.bp
  rw [hv3, hv4] at hbp
  have hnp := EA.np
  rw [hv4] at hnp
  have hpl := (h.ok 1 (by omega)).plen
  have HP := Lib.hid (And.intro o4 (And.intro hrp (And.intro hbp (And.intro hnp hv4))))
  have LP := Lib.hid (show (pints (K 1).p).length + 1 ≤ maxLen ∧ ((pints (K 1).p).length + 1) * 8 ≤ 140737488355328 by rw [pints_len]; unfold maxLen; have := h.r2; omega)
  have HC0 := Lib.hid (And.intro c0 o3)
  have ROW := Lib.hid (fun W (t : Turn NoBlock w W) => hro.past t)
  have SRC := Lib.hid (fun W (t : Turn NoBlock w W) => Rz.src (hrk.past t).rz 35 5 bytesT (bcells_one _))
  have TYC := Lib.hid (fun W (t : Turn NoBlock w W) => EA.typ.kept t (fun h => h))
  have hnb := EA.nb
  rw [hv3] at hnb
  have HNB := Lib.hid hnb
  have hlb := (h.ok 1 (by omega)).len
  have hr2 := h.r2
  have hln : (b.take n).length = n := by rw [List.length_take]; have := hfl.1; omega
  have LB := Lib.hid (show (K 1).b.length + (b.take n).length ≤ maxLen ∧ ((K 1).b.length + (b.take n).length) * 1 ≤ 140737488355328 by unfold maxLen; have := hfl.1; omega)
  have HM := Lib.hid (And.intro h (And.intro hok (And.intro hv3 hln)))
  subst hvb
  have hni : (n : Int) ≤ 1000000 := by have := hfl.1; omega
  have hbi : (b.length : Int) ≤ 1000000 := by omega
  clear o4 hrp hbp hnp hv4 hpl h ho hw hr hs hrk HW HF hfl hok hcb EA hv3 hro hnb hlb hr2 hop hb o3 c0
  obtain ⟨b2, hb2⟩ : ∃ b2, b.take n = b2 := ⟨_, rfl⟩
  rw [hb2] at hln LB SRC
  subst hln
  have HB2 := Lib.hid hb2
  clear hb2
  generalize b.length = bl at *
  go_enter Try.func25, Try.ntmps25
  go_wp2_with (first
    | (go_at_call 71; (with_reducible refine HC.out.mono ?_); rintro x w' ⟨rfl, rfl⟩)
    | (go_at_call 72; (with_reducible refine HWh.out.mono ?_); rintro x w' ⟨rfl, n2, rfl⟩)
    | (go_at_call 73; (with_reducible refine (HFh.out _ ((Turn.refl _ _).drewN _)).mono ?_); rintro x w' ⟨rfl, n3, rfl⟩))
  go_region_held3 (fun _ => True) (trivial) (first | (go_at_call 74; (with_reducible refine (CO.out _).mono ?_); rintro x w2 ⟨rfl, rfl⟩))
  go_wp2
  have T5 := Lib.hid (show Turn NoBlock w (w.drewN (n2 + n3 + 1)) from (Turn.refl _ _).drewN _)
  generalize w.drewN (n2 + n3 + 1) = W5 at *
  have o5 := T5.out.cell HC0.out.2 (fun h => h)
  have cl := (TYC.out _ T5.out).lt
  generalize hkl : (K 1).b.length = kl at *
  have HKL := Lib.hid hkl
  clear hkl
  go_region_law (first
    | (refine step_append_w rfl (.tmp 46) (.tmp 49) 35 35 rfl (ROW.out _ (by first | exact T5.out | exact T5.out.drew)) i5 _ 1 bytesT hi5 hz5 hs5 hb5 (by rfl) (by rfl) (by rfl) (SRC.out _ (by first | exact T5.out | exact T5.out.drew)) LB.out.1 LB.out.2 ?_; intro v7 W7 r7 t7 k7; obtain ⟨p7, c7, rfl⟩ := r7.sl; have t57 := show Turn NoBlock w W5.drew from T5.out.drew; have b7 := t7.cell (t57.cell HC0.out.2 (fun h => h)) HNB.out; have f7 := ((TYC.out _ t57).kept t7 HNB.out).free (7 + 3); have l7 := ((TYC.out _ t57).kept t7 HNB.out).lt; have d7 := t7.cell (t57.cell HC0.out.1 (fun h => h)) HNB.out; simp only [Nat.reduceAdd] at f7; have R7 := Lib.hid (And.intro r7 (And.intro t7 (And.intro k7 t57))); clear r7 t7 k7 t57))
  have o47 := R7.out.2.1.cell (R7.out.2.2.2.cell HP.out.1 (fun h => h)) HNB.out
  have f74 := ((TYC.out _ R7.out.2.2.2).kept R7.out.2.1 HNB.out).free (7 + 4)
  simp only [Nat.reduceAdd] at f74
  have TY7 := Lib.hid ((TYC.out _ R7.out.2.2.2).kept R7.out.2.1 HNB.out)
  have RP := Lib.hid (show WRow ((W7.setCell ⟨c, 10, none⟩ (.slice p7 (kl + b2.length) c7)).alloc (.cells #[.int .i64 (b2.length : Nat)] 3)) 3 1 (.slice p4 (pints (K 1).p).length ca4) (pints (K 1).p).length (icells (pints (K 1).p)) from
    ((WRow.setC (((HP.out.2.1.past R7.out.2.2.2).kept R7.out.2.1 (fun k hk hk' => HP.out.2.2.1 k hk' hk))) TY7.out (by decide))).past ((Turn.refl _ _).alloc _))
  generalize hkp : (pints (K 1).p).length = kp at *
  have HKP := Lib.hid hkp
  clear hkp
  go_wp2_with (at_builtin; refine wpList_append_w rfl (.tmp 61) (.tmp 63) 36 36 rfl RP.out i3 _ 8 intsT hi3 hz3 hs3 hb3 rfl rfl rfl (Rd.src (rd_new_at (W7.setCell ⟨c, 10, none⟩ (.slice p7 (kl + b2.length) c7)) 3 1 #[.int .i64 (b2.length : Nat)] rfl (B := W7.heap.size) (by simp [World.setCell])) 36 3 intsT (fun u hu => by simp at hu; subst hu; rfl)) LP.out.1 LP.out.2 ?_; intro v8 W8 r8 t8 k8; obtain ⟨p8, c8, rfl⟩ := r8.sl; have ty8 := ((TY7.out.set (7 + 3) (.slice p7 (kl + b2.length) c7) c).kept ((Turn.refl NoBlock _).alloc (.cells #[.int .i64 (b2.length : Nat)] 3)) (fun h => h)).kept t8 HP.out.2.2.2.1; have f8 := ty8.free (7 + 4); have l8 := ty8.lt; have o48 := t8.cell (p := ⟨c, 11, none⟩) (show ((W7.setCell ⟨c, 10, none⟩ (.slice p7 (kl + b2.length) c7)).alloc (.cells #[.int .i64 (b2.length : Nat)] 3)).cell? ⟨c, 11, none⟩ = some (.slice p4 kp ca4) by go_simp) HP.out.2.2.2.1; simp only [Nat.reduceAdd] at f8 o48; have R8 := Lib.hid (And.intro r8 (And.intro t8 k8)); clear r8 t8 k8 ty8)
  go_ret2
  refine ⟨rfl, ?_⟩
  have EA := HM.out.1.s 1 (by omega)
  have st := EA.putB (w1 := W7) (b := (K 1).b ++ b2) ((TU R7.out.2.2.2).trans (by rw [HM.out.2.2.1]; exact R7.out.2.1) (fun k hk => .inl hk)) (vb := .slice p7 (kl + b2.length) c7) (by unfold Byts; rw [List.length_append, HKL.out, show bcells ((K 1).b ++ b2) = bcells (K 1).b ++ bcells b2 by simp [bcells]]; exact R7.out.1) (fun k hk => by
    rw [HM.out.2.2.1]
    rcases R7.out.2.2.1 k hk with h | h
    · exact .inl h
    · right; have := R7.out.2.2.2.size; omega)
  have st2 := st.trans (st.at'.putP (w1 := W8) (p := (K 1).p ++ [b2.length]) (((Turn.refl (Blk (.slice p4 kp ca4)) _).alloc _).trans R8.out.2.1 (fun k hk => .inl hk) |>.mono (fun k hk => .inl (show Blk (V 1).p k by rw [HP.out.2.2.2.2]; exact hk))) (vp := .slice p8 (kp + 1) c8) (by unfold Nums; rw [pints_add, List.length_append, HKP.out, show icells (pints (K 1).p ++ [((b2.length : Nat) : Int)]) = icells (pints (K 1).p) ++ [.int .i64 (b2.length : Nat)] by simp [icells]]; exact R8.out.1) (fun k hk => by
    show Blk (V 1).p k ∨ _
    rw [HP.out.2.2.2.2]
    rcases R8.out.2.2 k hk with h | h
    · exact .inl h
    · right; have := h.1; simp at this; simp; omega))
  have := HM.out.1.step (e := 1) (by omega) st2 (by have := HM.out.2.1; unfold wrE at this; rw [HB2.out] at this; exact this)
  unfold wrE
  rw [HB2.out]
  exact this
set_option maxRecDepth 20000 in
set_option maxHeartbeats 1000000 in
theorem kput1_d (h : KMem w c true room K V) (ho : (K 1).op = true) (hw : wayS (K 1) (K 0) = 0) (vb : Value) (b : List UInt8) (hb : b.length ≤ 1000000) (hr : Rk w vb b) (hs : fitS true room (room - (K 0).b.length) b.length = 0) :
    Calls Try.prog 25 #[.pointer (some ⟨c, 0, none⟩), .int .i64 1, vb] w fun x w' => x = .returned (.tuple #[.int .i64 (fitN true room (room - (K 0).b.length) b.length : Nat), .int .i64 0]) ∧ KMade w w' c true room V (updN K 0 (wrE true (K 0) (fitN true room (room - (K 0).b.length) b.length) b)) := by
  obtain ⟨i3, hi3, hz3, hs3, hb3⟩ := info_parts infoI
  obtain ⟨i5, hi5, hz5, hs5, hb5⟩ := info_parts infoB
  have HC := Lib.hid (kright_yes1 h ho)
  have HW := kway1 h
  rw [hw] at HW
  have HWh := Lib.hid HW
  have HF := fun W (t : Turn NoBlock w W) => kfits1 (h.past t) b.length (by unfold maxLen; omega)
  rw [hs] at HF
  have hfl := fit_le (dg := true) (room := room) (fr := room - (K 0).b.length) (n := b.length) (by omega)
  rw [hs] at hfl
  have hop : (K 0).op = true := by
    rcases wayS_any (K 1) (K 0) with h1 | h1 | h1
    · rw [h1.1] at hw; cases hw
    · rw [h1.1] at hw; cases hw
    · exact h1.2.2.1
  have hok := wrE_ok (b := b) (h.ok 0 (by omega)) hop hfl.1 hfl.2.1 (fun hd => hfl.2.2 hd rfl)
  generalize fitN true room (room - (K 0).b.length) b.length = n at *
  have HFh := Lib.hid HF
  obtain ⟨pn, cn, hsl, hrk⟩ := rk_take hr hfl.1
  obtain ⟨pb, cb, hvb, hcb⟩ := hr.sl
  have EA := h.s 0 (by omega)
  obtain ⟨p3, ca3, hv3⟩ := EA.rowB.sl
  have CO := Lib.hid (fun w => kother1 w)
  have o3 : w.cell? ⟨c, 5, none⟩ = some (V 0).b := EA.c3
  rw [hv3] at o3
  have hro := EA.rowB
  unfold Byts at hro
  rw [hv3] at hro
  have c0 := h.c0
  obtain ⟨p4, ca4, hv4⟩ := EA.rowP.sl
  have o4 : w.cell? ⟨c, 6, none⟩ = some (V 0).p := EA.c4
  rw [hv4] at o4
  have hrp := EA.rowP
  unfold Nums at hrp
  rw [hv4] at hrp
  have hbp := EA.bp
  rw [hv3, hv4] at hbp
  have hnp := EA.np
  rw [hv4] at hnp
  have hpl := (h.ok 0 (by omega)).plen
  have HP := Lib.hid (And.intro o4 (And.intro hrp (And.intro hbp (And.intro hnp hv4))))
  have LP := Lib.hid (show (pints (K 0).p).length + 1 ≤ maxLen ∧ ((pints (K 0).p).length + 1) * 8 ≤ 140737488355328 by rw [pints_len]; unfold maxLen; have := h.r2; omega)
  have HC0 := Lib.hid (And.intro c0 o3)
  have ROW := Lib.hid (fun W (t : Turn NoBlock w W) => hro.past t)
  have SRC := Lib.hid (fun W (t : Turn NoBlock w W) => Rz.src (hrk.past t).rz 35 5 bytesT (bcells_one _))
  have TYC := Lib.hid (fun W (t : Turn NoBlock w W) => EA.typ.kept t (fun h => h))
  have hnb := EA.nb
  rw [hv3] at hnb
  have HNB := Lib.hid hnb
  have hlb := (h.ok 0 (by omega)).len
  have hr2 := h.r2
  have hln : (b.take n).length = n := by rw [List.length_take]; have := hfl.1; omega
  have LB := Lib.hid (show (K 0).b.length + (b.take n).length ≤ maxLen ∧ ((K 0).b.length + (b.take n).length) * 1 ≤ 140737488355328 by unfold maxLen; have := hfl.1; omega)
  have HM := Lib.hid (And.intro h (And.intro hok (And.intro hv3 hln)))
  subst hvb
  have hni : (n : Int) ≤ 1000000 := by have := hfl.1; omega
  have hbi : (b.length : Int) ≤ 1000000 := by omega
  clear o4 hrp hbp hnp hv4 hpl h ho hw hr hs hrk HW HF hfl hok hcb EA hv3 hro hnb hlb hr2 hop hb o3 c0
  obtain ⟨b2, hb2⟩ : ∃ b2, b.take n = b2 := ⟨_, rfl⟩
  rw [hb2] at hln LB SRC
  subst hln
  have HB2 := Lib.hid hb2
  clear hb2
  generalize b.length = bl at *
  go_enter Try.func25, Try.ntmps25
  go_wp2_with (first
    | (go_at_call 71; (with_reducible refine HC.out.mono ?_); rintro x w' ⟨rfl, rfl⟩)
    | (go_at_call 72; (with_reducible refine HWh.out.mono ?_); rintro x w' ⟨rfl, n2, rfl⟩)
    | (go_at_call 73; (with_reducible refine (HFh.out _ ((Turn.refl _ _).drewN _)).mono ?_); rintro x w' ⟨rfl, n3, rfl⟩))
  go_region_held3 (fun _ => True) (trivial) (first | (go_at_call 74; (with_reducible refine (CO.out _).mono ?_); rintro x w2 ⟨rfl, rfl⟩))
  go_wp2
  have T5 := Lib.hid (show Turn NoBlock w (w.drewN (n2 + n3 + 1)) from (Turn.refl _ _).drewN _)
  generalize w.drewN (n2 + n3 + 1) = W5 at *
  have o5 := T5.out.cell HC0.out.2 (fun h => h)
  have cl := (TYC.out _ T5.out).lt
  generalize hkl : (K 0).b.length = kl at *
  have HKL := Lib.hid hkl
  clear hkl
  go_region_law (first
    | (refine step_append_w rfl (.tmp 46) (.tmp 49) 35 35 rfl (ROW.out _ (by first | exact T5.out | exact T5.out.drew)) i5 _ 1 bytesT hi5 hz5 hs5 hb5 (by rfl) (by rfl) (by rfl) (SRC.out _ (by first | exact T5.out | exact T5.out.drew)) LB.out.1 LB.out.2 ?_; intro v7 W7 r7 t7 k7; obtain ⟨p7, c7, rfl⟩ := r7.sl; have t57 := show Turn NoBlock w W5.drew from T5.out.drew; have b7 := t7.cell (t57.cell HC0.out.2 (fun h => h)) HNB.out; have f7 := ((TYC.out _ t57).kept t7 HNB.out).free (2 + 3); have l7 := ((TYC.out _ t57).kept t7 HNB.out).lt; have d7 := t7.cell (t57.cell HC0.out.1 (fun h => h)) HNB.out; simp only [Nat.reduceAdd] at f7; have R7 := Lib.hid (And.intro r7 (And.intro t7 (And.intro k7 t57))); clear r7 t7 k7 t57))
  have o47 := R7.out.2.1.cell (R7.out.2.2.2.cell HP.out.1 (fun h => h)) HNB.out
  have f74 := ((TYC.out _ R7.out.2.2.2).kept R7.out.2.1 HNB.out).free (2 + 4)
  simp only [Nat.reduceAdd] at f74
  have TY7 := Lib.hid ((TYC.out _ R7.out.2.2.2).kept R7.out.2.1 HNB.out)
  have RP := Lib.hid (show WRow ((W7.setCell ⟨c, 5, none⟩ (.slice p7 (kl + b2.length) c7)).alloc (.cells #[.int .i64 (b2.length : Nat)] 3)) 3 1 (.slice p4 (pints (K 0).p).length ca4) (pints (K 0).p).length (icells (pints (K 0).p)) from
    ((WRow.setC (((HP.out.2.1.past R7.out.2.2.2).kept R7.out.2.1 (fun k hk hk' => HP.out.2.2.1 k hk' hk))) TY7.out (by decide))).past ((Turn.refl _ _).alloc _))
  generalize hkp : (pints (K 0).p).length = kp at *
  have HKP := Lib.hid hkp
  clear hkp
  go_wp2_with (at_builtin; refine wpList_append_w rfl (.tmp 61) (.tmp 63) 36 36 rfl RP.out i3 _ 8 intsT hi3 hz3 hs3 hb3 rfl rfl rfl (Rd.src (rd_new_at (W7.setCell ⟨c, 5, none⟩ (.slice p7 (kl + b2.length) c7)) 3 1 #[.int .i64 (b2.length : Nat)] rfl (B := W7.heap.size) (by simp [World.setCell])) 36 3 intsT (fun u hu => by simp at hu; subst hu; rfl)) LP.out.1 LP.out.2 ?_; intro v8 W8 r8 t8 k8; obtain ⟨p8, c8, rfl⟩ := r8.sl; have ty8 := ((TY7.out.set (2 + 3) (.slice p7 (kl + b2.length) c7) c).kept ((Turn.refl NoBlock _).alloc (.cells #[.int .i64 (b2.length : Nat)] 3)) (fun h => h)).kept t8 HP.out.2.2.2.1; have f8 := ty8.free (2 + 4); have l8 := ty8.lt; have o48 := t8.cell (p := ⟨c, 6, none⟩) (show ((W7.setCell ⟨c, 5, none⟩ (.slice p7 (kl + b2.length) c7)).alloc (.cells #[.int .i64 (b2.length : Nat)] 3)).cell? ⟨c, 6, none⟩ = some (.slice p4 kp ca4) by go_simp) HP.out.2.2.2.1; simp only [Nat.reduceAdd] at f8 o48; have R8 := Lib.hid (And.intro r8 (And.intro t8 k8)); clear r8 t8 k8 ty8)
  go_ret2
  refine ⟨rfl, ?_⟩
  have EA := HM.out.1.s 0 (by omega)
  have st := EA.putB (w1 := W7) (b := (K 0).b ++ b2) ((TU R7.out.2.2.2).trans (by rw [HM.out.2.2.1]; exact R7.out.2.1) (fun k hk => .inl hk)) (vb := .slice p7 (kl + b2.length) c7) (by unfold Byts; rw [List.length_append, HKL.out, show bcells ((K 0).b ++ b2) = bcells (K 0).b ++ bcells b2 by simp [bcells]]; exact R7.out.1) (fun k hk => by
    rw [HM.out.2.2.1]
    rcases R7.out.2.2.1 k hk with h | h
    · exact .inl h
    · right; have := R7.out.2.2.2.size; omega)
  have st2 := st.trans (st.at'.putP (w1 := W8) (p := (K 0).p ++ [b2.length]) (((Turn.refl (Blk (.slice p4 kp ca4)) _).alloc _).trans R8.out.2.1 (fun k hk => .inl hk) |>.mono (fun k hk => .inl (show Blk (V 0).p k by rw [HP.out.2.2.2.2]; exact hk))) (vp := .slice p8 (kp + 1) c8) (by unfold Nums; rw [pints_add, List.length_append, HKP.out, show icells (pints (K 0).p ++ [((b2.length : Nat) : Int)]) = icells (pints (K 0).p) ++ [.int .i64 (b2.length : Nat)] by simp [icells]]; exact R8.out.1) (fun k hk => by
    show Blk (V 0).p k ∨ _
    rw [HP.out.2.2.2.2]
    rcases R8.out.2.2 k hk with h | h
    · exact .inl h
    · right; have := h.1; simp at this; simp; omega))
  have := HM.out.1.step (e := 0) (by omega) st2 (by have := HM.out.2.1; unfold wrE at this; rw [HB2.out] at this; exact this)
  unfold wrE
  rw [HB2.out]
  exact this
end
end Go.Proofs.Ytocaebcbmfejbaa
