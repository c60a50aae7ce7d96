/-
  One step of HandlesPlays: whatever the call, the table and the reference answer alike. No conditions but that both are what calls can make, alike and apart, and that the call's numbers are numbers of 64 bits, its list one of at most 60.
-/
import Derived.Test.YtacdhlhkpdlekaaHStepL
import Derived.Test.YtacdhlhkpdlekaaHSwC
namespace Go.Proofs.Ytacdhlhkpdlekaa
open Go.ChangeShapes Go.WideShapes Go.ChangeAt Go.RowKit

theorem step_in {w wc wr : World} {a x ob : Nat} {F G : Nat → Prop} {L : List Pl} {lv ve : Value} {xs zs : List Int} {es : List Ent} (hT : TableAt w a F L) (hR : RefAt w x G L) (hd : ∀ j, F j → ¬ G j) (hfr : FitR L)
    (hob : w.heap.size = ob) (hcs : ob < wc.heap.size) (hA : AllInv w wr lv (zs.map (pickN xs)) ve es) (hL : LoopT wc wr lv) (hx : ∀ y ∈ xs, fit y) (hz : ∀ z ∈ zs, fit z) :
    SwIn w wr a F x G L ob lv (zs.map (pickN xs)) := by
  have hs := hL.turn.size
  refine ⟨⟨hT.past hA.turn, hR.past hA.turn, hd, hA.turn.mono (fun _ h => h.elim), fun j hj => .inl hj, fun j hj => .inl hj, fun j hj => ?_⟩, hfr, hA.ints, fun z hm => ?_⟩
  · have h1 : w.heap.size ≤ j ∧ j < wr.heap.size := by
      rcases hj with rfl | hj
      · omega
      · have := hL.fresh j hj
        have := (own_ints _ _).lt _ hA.ints j hj
        omega
    exact ⟨h1.2, fun hf => by have := hT.lt hf; omega, fun hg => by have := hR.lt hg; omega⟩
  · obtain ⟨y, hy, rfl⟩ := List.mem_map.1 hm
    exact pickN_fit hx (hz y hy)

set_option maxRecDepth 100000 in
set_option maxHeartbeats 60000000 in
theorem step_any {w : World} {a x : Nat} {F G : Nat → Prop} {L : List Pl} (hT : TableAt w a F L) (hR : RefAt w x G L) (hd : ∀ j, F j → ¬ G j) (hfr : FitR L)
    (kind v0 nth n want draw eo ek er : Int) (lp : Option Addr) (zl lc : Nat) (zs : List Int) (hv0 : fit v0) (hn : fit n) (hw : fit want) (he : fit er) (hzl : zl ≤ 60) (hzs : NumsBy NoBlock w lp zl zs) :
    Calls Try.prog 11 #[.pointer (some ⟨a, 0, none⟩), .pointer (some ⟨x, 0, none⟩), .agg #[.int .i64 kind, .int .i64 v0, .int .i64 nth, .int .i64 n, .int .i64 want, .int .i64 draw, .int .i64 eo, .int .i64 ek, .int .i64 er, .slice lp zl lc]] w fun e w' => e = .returned (.bool true) ∧ Stepped w a F x G L w' := by
  have hb := heap_alloc_new w (.cells #[.int .i64 kind, .int .i64 v0, .int .i64 nth, .int .i64 n, .int .i64 want, .int .i64 draw, .int .i64 eo, .int .i64 ek, .int .i64 er, .slice lp zl lc] 35)
  have tA : Turn NoBlock w (w.alloc (.cells #[.int .i64 kind, .int .i64 v0, .int .i64 nth, .int .i64 n, .int .i64 want, .int .i64 draw, .int .i64 eo, .int .i64 ek, .int .i64 er, .slice lp zl lc] 35)) := (Turn.refl _ _).alloc _
  have cAll := rall_any (hR.past tA)
  have hxs := vals_fit hT
  have HS := Lib.hid (And.intro hT (And.intro hR (And.intro hd hfr)))
  have HB := Lib.hid (And.intro hb tA)
  have hz := Lib.hid hzs
  have htl : (takenL L).length ≤ 65536 := Nat.le_trans (List.length_filter_le _ _) hT.len
  have hxl : ((takenL L).map (·.value)).length ≤ 65536 := by simpa using htl
  obtain ⟨xs, hxse⟩ : ∃ xs, (takenL L).map (·.value) = xs := ⟨_, rfl⟩
  rw [hxse] at cAll hxs hxl
  have HXs := Lib.hid (And.intro hxse hxs)
  obtain ⟨m, hm⟩ : ∃ m, xs.length = m := ⟨_, rfl⟩
  rw [hm] at hxl
  have HXl := Lib.hid hm
  obtain ⟨ob, hob⟩ : ∃ ob, w.heap.size = ob := ⟨_, rfl⟩
  rw [hob] at HB
  have HOb := Lib.hid hob
  clear hb tA hT hR hd hfr hzs hxs hxse htl hm
  have hcs : nth < 0 ∨ (0 ≤ nth ∧ (m : Int) ≤ nth) ∨ (0 ≤ nth ∧ nth < (m : Int)) := by omega
  have hV := Lib.hid (pickV_fit HXs.out.2 hv0 (nth := nth))
  have HP := Lib.hid (show (nth < 0 ∨ (m : Int) ≤ nth → pickV xs v0 nth = v0) ∧ (0 ≤ nth ∧ nth < (m : Int) → pickV xs v0 nth = xs.getD nth.toNat 0) from ⟨fun h => by unfold pickV; rw [HXl.out, if_neg (by omega)], fun h => by unfold pickV; rw [HXl.out, if_pos h]⟩)
  generalize pickV xs v0 nth = V at *
  go_enter Try.func11, Try.ntmps11
  go_upto_region 3 with (go_at_call 12; (with_reducible refine cAll.mono ?_); rintro y wc ⟨v1, ve, rfl, hA⟩; obtain ⟨p1, c1, hv1⟩ := ints_slice hA.ints; rw [HXl.out] at hv1; subst hv1; have K1 := Lib.hid hA; have b2 := hA.turn.heap HB.out.1 (fun h => h); have k0 := cell_at b2 0; have k1 := cell_at b2 1; have k2 := cell_at b2 2; have k3 := cell_at b2 3; have k4 := cell_at b2 4; have k5 := cell_at b2 5; have k6 := cell_at b2 6; have k7 := cell_at b2 7; have k8 := cell_at b2 8; have k9 := cell_at b2 9; have K2 := Lib.hid (And.intro (show Turn NoBlock w wc from HB.out.2.trans hA.turn (fun _ h => .inl h)) (lt_of_block b2)); simp at k0 k1 k2 k3 k4 k5 k6 k7 k8 k9; clear hA b2)
  have H0 := Lib.hid (show AllInv w wc (.slice none 0 0) [] ve ((takenL L).map (·.e)) from ⟨ints_nil _, K1.out.ents, fun j hj => (blk_nil j hj).elim, fun j hj => Nat.le_trans HB.out.2.size (K1.out.le j hj), K2.out.1⟩)
  have HX2 := Lib.hid K1.out.ints
  rcases hcs with e1 | ⟨e1, e2⟩ | ⟨e1, e2⟩
  · have hVV := HP.out.1 (.inl e1)
    rw [hVV] at hV
    clear hVV
    go_wp2_with fail
    refine step_loop zl lc lp zs xs v0 ve _ NoBlock _ _ _ _ _ _ _ _ _ _ _ _ _ _ _ _ _ _ _ _ _ _ _ _ _ _ _ _ _ _ _ _ _ _ _ _ _ _ _ _ _ _ _ _ _ _ _ _ _ _ _ _ _ _ _ _ _ _ _ _ _ _ _ _ _ _ _ _ _ _ _ _ _ _ _ _ _ _ _ _ _ _ _ _ _ _ _ _ _ _ _ _ _ _ _ _ _ _ _ _ _ _ _ _ _ _ _ _ _ _ _ _ _ _ _ _ _ _ _ _ _ _ _ _ _ _ _ _ _ _ _ _ _ _ _ _ _ _ _ _ _ _ _ _ _ _ _ _ _ _ _ _ _ _ _ _ _ _ _ _ _ _ _ _ _ _ _ _ _ _ _ _ _ _ _ _ _ _ _ _ _ _ _ _ _ _ _ _ _ _ _ _ _ _ _ _ _ _ _ _ _ _ _ _ _ _ _ _ _ _ _ _ _ _ _ _ _ _ _ _ _ _ _ _ _ _ _ _ _ _ _ _ _ _ _ _ _ _ _ _ _ _ _ _ _ _ _ _ _ _ _ _ _ _ _ _ _ _ _ _ _ _ _ _ _ _ _ _ _ _ _ _ _ _ _ _ _ _ _ _ _ _ _ _ _ _ _ _ _ _ _ _ _ _ _ _ _ _ _ _ _ _ _ _ _ _ _ _ _ _ _ _ _ _ _ _ _ _ _ _ _ _ _ _ _ _ _ _ _ _ _ hz HXl hxl hzl H0 HX2 (Lib.hid ?_)
    · intro _y12 _y76 _y77 _y78 _y79 _y80 _y81 _y82 _y83 _y84 _y85 _y86 _y87 _y88 _y89 _y90 _y91 _y92 _y93 _y94 _y95 _y96 _y97 _y98 _y99 pr cr wr hA hT
      have K5 := Lib.hid (step_in HS.out.1 HS.out.2.1 HS.out.2.2.1 HS.out.2.2.2 HOb.out K2.out.2 hA hT HXs.out.2 hz.out.2.1)
      have bb := hA.turn
      have c0 := hT.turn.cell k0 (fun h => h)
      have c1' := hT.turn.cell k1 (fun h => h)
      have c2 := hT.turn.cell k2 (fun h => h)
      have c3 := hT.turn.cell k3 (fun h => h)
      have c4 := hT.turn.cell k4 (fun h => h)
      have c5 := hT.turn.cell k5 (fun h => h)
      have c6 := hT.turn.cell k6 (fun h => h)
      have c7 := hT.turn.cell k7 (fun h => h)
      have c8 := hT.turn.cell k8 (fun h => h)
      have HLn := Lib.hid (show (zs.map (pickN xs)).length = zl by rw [List.length_map]; exact hz.out.1)
      clear hA hT bb k0 k1 k2 k3 k4 k5 k6 k7 k8 k9
      go_upto_if 104 with fail
      refine sw1 zl cr kind v0 v0 nth n want draw eo ek er _ _ _ _ _ _ _ _ _ _ _ _ _ _ _ _ _ _ _ _ _ _ _ _ _ _ _ _ _ _ _ _ _ _ _ _ _ _ _ _ _ _ _ _ _ _ _ _ _ _ _ _ _ _ _ _ _ _ _ _ _ _ _ _ _ _ _ _ _ _ _ _ _ _ _ _ _ _ _ _ _ _ _ _ _ _ _ _ _ _ _ _ _ _ _ _ _ _ _ _ _ _ _ _ _ _ _ _ _ _ _ _ _ _ _ _ _ _ _ _ _ _ _ _ _ _ _ _ _ _ _ _ _ _ _ _ _ _ _ _ _ _ _ _ _ _ _ _ _ _ _ _ _ _ _ _ _ _ _ _ _ _ _ _ _ _ _ _ _ _ _ _ _ _ _ _ _ _ _ _ _ _ _ _ _ _ _ _ _ _ _ _ _ _ _ _ _ _ _ _ _ _ _ _ _ _ _ _ _ _ _ _ _ _ _ _ _ _ _ _ _ _ _ _ _ _ _ _ _ _ _ _ _ _ _ _ _ _ _ _ _ _ _ _ _ _ _ _ _ _ _ _ _ _ _ _ _ _ _ _ _ _ _ _ _ _ _ _ _ _ _ _ _ _ _ _ _ _ _ _ _ _ _ _ _ _ _ _ _ _ _ _ _ _ _ _ _ _ _ _ _ _ _ _ _ _ _ _ _ _ _ _ _ _ _ _ _ _ _ _ _ _ _ _ _ _ _ _ _ _ _ _ c0 c1' c2 c3 c4 c5 c6 c7 c8 hV.out hn hw he hzl HLn K5 (Lib.hid fun _ _ h => h) (Lib.hid ?_)
      intros
      go_wp2_with fail
      go_ret
      exact ⟨rfl, K5.out.inv.ends K5.out.fr rfl⟩
  · have hVV := HP.out.1 (.inr e2)
    rw [hVV] at hV
    clear hVV
    go_wp2_with fail
    refine step_loop zl lc lp zs xs v0 ve _ NoBlock _ _ _ _ _ _ _ _ _ _ _ _ _ _ _ _ _ _ _ _ _ _ _ _ _ _ _ _ _ _ _ _ _ _ _ _ _ _ _ _ _ _ _ _ _ _ _ _ _ _ _ _ _ _ _ _ _ _ _ _ _ _ _ _ _ _ _ _ _ _ _ _ _ _ _ _ _ _ _ _ _ _ _ _ _ _ _ _ _ _ _ _ _ _ _ _ _ _ _ _ _ _ _ _ _ _ _ _ _ _ _ _ _ _ _ _ _ _ _ _ _ _ _ _ _ _ _ _ _ _ _ _ _ _ _ _ _ _ _ _ _ _ _ _ _ _ _ _ _ _ _ _ _ _ _ _ _ _ _ _ _ _ _ _ _ _ _ _ _ _ _ _ _ _ _ _ _ _ _ _ _ _ _ _ _ _ _ _ _ _ _ _ _ _ _ _ _ _ _ _ _ _ _ _ _ _ _ _ _ _ _ _ _ _ _ _ _ _ _ _ _ _ _ _ _ _ _ _ _ _ _ _ _ _ _ _ _ _ _ _ _ _ _ _ _ _ _ _ _ _ _ _ _ _ _ _ _ _ _ _ _ _ _ _ _ _ _ _ _ _ _ _ _ _ _ _ _ _ _ _ _ _ _ _ _ _ _ _ _ _ _ _ _ _ _ _ _ _ _ _ _ _ _ _ _ _ _ _ _ _ _ _ _ _ _ _ _ _ _ _ _ _ _ _ _ _ _ _ _ _ _ hz HXl hxl hzl H0 HX2 (Lib.hid ?_)
    · intro _y12 _y76 _y77 _y78 _y79 _y80 _y81 _y82 _y83 _y84 _y85 _y86 _y87 _y88 _y89 _y90 _y91 _y92 _y93 _y94 _y95 _y96 _y97 _y98 _y99 pr cr wr hA hT
      have K5 := Lib.hid (step_in HS.out.1 HS.out.2.1 HS.out.2.2.1 HS.out.2.2.2 HOb.out K2.out.2 hA hT HXs.out.2 hz.out.2.1)
      have bb := hA.turn
      have c0 := hT.turn.cell k0 (fun h => h)
      have c1' := hT.turn.cell k1 (fun h => h)
      have c2 := hT.turn.cell k2 (fun h => h)
      have c3 := hT.turn.cell k3 (fun h => h)
      have c4 := hT.turn.cell k4 (fun h => h)
      have c5 := hT.turn.cell k5 (fun h => h)
      have c6 := hT.turn.cell k6 (fun h => h)
      have c7 := hT.turn.cell k7 (fun h => h)
      have c8 := hT.turn.cell k8 (fun h => h)
      have HLn := Lib.hid (show (zs.map (pickN xs)).length = zl by rw [List.length_map]; exact hz.out.1)
      clear hA hT bb k0 k1 k2 k3 k4 k5 k6 k7 k8 k9
      go_upto_if 104 with fail
      refine sw1 zl cr kind v0 v0 nth n want draw eo ek er _ _ _ _ _ _ _ _ _ _ _ _ _ _ _ _ _ _ _ _ _ _ _ _ _ _ _ _ _ _ _ _ _ _ _ _ _ _ _ _ _ _ _ _ _ _ _ _ _ _ _ _ _ _ _ _ _ _ _ _ _ _ _ _ _ _ _ _ _ _ _ _ _ _ _ _ _ _ _ _ _ _ _ _ _ _ _ _ _ _ _ _ _ _ _ _ _ _ _ _ _ _ _ _ _ _ _ _ _ _ _ _ _ _ _ _ _ _ _ _ _ _ _ _ _ _ _ _ _ _ _ _ _ _ _ _ _ _ _ _ _ _ _ _ _ _ _ _ _ _ _ _ _ _ _ _ _ _ _ _ _ _ _ _ _ _ _ _ _ _ _ _ _ _ _ _ _ _ _ _ _ _ _ _ _ _ _ _ _ _ _ _ _ _ _ _ _ _ _ _ _ _ _ _ _ _ _ _ _ _ _ _ _ _ _ _ _ _ _ _ _ _ _ _ _ _ _ _ _ _ _ _ _ _ _ _ _ _ _ _ _ _ _ _ _ _ _ _ _ _ _ _ _ _ _ _ _ _ _ _ _ _ _ _ _ _ _ _ _ _ _ _ _ _ _ _ _ _ _ _ _ _ _ _ _ _ _ _ _ _ _ _ _ _ _ _ _ _ _ _ _ _ _ _ _ _ _ _ _ _ _ _ _ _ _ _ _ _ _ _ _ _ _ _ _ _ _ _ _ _ _ _ c0 c1' c2 c3 c4 c5 c6 c7 c8 hV.out hn hw he hzl HLn K5 (Lib.hid fun _ _ h => h) (Lib.hid ?_)
      intros
      go_wp2_with fail
      go_ret
      exact ⟨rfl, K5.out.inv.ends K5.out.fr rfl⟩
  · have hVV := HP.out.2 ⟨e1, e2⟩
    obtain ⟨g, c, he2, -, -⟩ := ints_shape K1.out.ints (by rw [HXl.out]; omega)
    have hc := ints_cell (by rw [HXl.out] at he2; rw [← he2]; exact K1.out.ints) nth.toNat (by rw [HXl.out]; omega)
    rw [HXl.out] at he2
    simp only [Value.slice.injEq] at he2
    obtain ⟨rfl, -, rfl⟩ := he2
    rw [← hVV] at hc
    clear hVV
    go_wp2_with fail
    refine step_loop zl lc lp zs xs V ve _ NoBlock _ _ _ _ _ _ _ _ _ _ _ _ _ _ _ _ _ _ _ _ _ _ _ _ _ _ _ _ _ _ _ _ _ _ _ _ _ _ _ _ _ _ _ _ _ _ _ _ _ _ _ _ _ _ _ _ _ _ _ _ _ _ _ _ _ _ _ _ _ _ _ _ _ _ _ _ _ _ _ _ _ _ _ _ _ _ _ _ _ _ _ _ _ _ _ _ _ _ _ _ _ _ _ _ _ _ _ _ _ _ _ _ _ _ _ _ _ _ _ _ _ _ _ _ _ _ _ _ _ _ _ _ _ _ _ _ _ _ _ _ _ _ _ _ _ _ _ _ _ _ _ _ _ _ _ _ _ _ _ _ _ _ _ _ _ _ _ _ _ _ _ _ _ _ _ _ _ _ _ _ _ _ _ _ _ _ _ _ _ _ _ _ _ _ _ _ _ _ _ _ _ _ _ _ _ _ _ _ _ _ _ _ _ _ _ _ _ _ _ _ _ _ _ _ _ _ _ _ _ _ _ _ _ _ _ _ _ _ _ _ _ _ _ _ _ _ _ _ _ _ _ _ _ _ _ _ _ _ _ _ _ _ _ _ _ _ _ _ _ _ _ _ _ _ _ _ _ _ _ _ _ _ _ _ _ _ _ _ _ _ _ _ _ _ _ _ _ _ _ _ _ _ _ _ _ _ _ _ _ _ _ _ _ _ _ _ _ _ _ _ _ _ _ _ _ _ _ _ _ _ _ hz HXl hxl hzl H0 HX2 (Lib.hid ?_)
    · intro _y12 _y76 _y77 _y78 _y79 _y80 _y81 _y82 _y83 _y84 _y85 _y86 _y87 _y88 _y89 _y90 _y91 _y92 _y93 _y94 _y95 _y96 _y97 _y98 _y99 pr cr wr hA hT
      have K5 := Lib.hid (step_in HS.out.1 HS.out.2.1 HS.out.2.2.1 HS.out.2.2.2 HOb.out K2.out.2 hA hT HXs.out.2 hz.out.2.1)
      have bb := hA.turn
      have c0 := hT.turn.cell k0 (fun h => h)
      have c1' := hT.turn.cell k1 (fun h => h)
      have c2 := hT.turn.cell k2 (fun h => h)
      have c3 := hT.turn.cell k3 (fun h => h)
      have c4 := hT.turn.cell k4 (fun h => h)
      have c5 := hT.turn.cell k5 (fun h => h)
      have c6 := hT.turn.cell k6 (fun h => h)
      have c7 := hT.turn.cell k7 (fun h => h)
      have c8 := hT.turn.cell k8 (fun h => h)
      have HLn := Lib.hid (show (zs.map (pickN xs)).length = zl by rw [List.length_map]; exact hz.out.1)
      clear hA hT bb k0 k1 k2 k3 k4 k5 k6 k7 k8 k9
      go_upto_if 104 with fail
      refine sw1 zl cr kind V v0 nth n want draw eo ek er _ _ _ _ _ _ _ _ _ _ _ _ _ _ _ _ _ _ _ _ _ _ _ _ _ _ _ _ _ _ _ _ _ _ _ _ _ _ _ _ _ _ _ _ _ _ _ _ _ _ _ _ _ _ _ _ _ _ _ _ _ _ _ _ _ _ _ _ _ _ _ _ _ _ _ _ _ _ _ _ _ _ _ _ _ _ _ _ _ _ _ _ _ _ _ _ _ _ _ _ _ _ _ _ _ _ _ _ _ _ _ _ _ _ _ _ _ _ _ _ _ _ _ _ _ _ _ _ _ _ _ _ _ _ _ _ _ _ _ _ _ _ _ _ _ _ _ _ _ _ _ _ _ _ _ _ _ _ _ _ _ _ _ _ _ _ _ _ _ _ _ _ _ _ _ _ _ _ _ _ _ _ _ _ _ _ _ _ _ _ _ _ _ _ _ _ _ _ _ _ _ _ _ _ _ _ _ _ _ _ _ _ _ _ _ _ _ _ _ _ _ _ _ _ _ _ _ _ _ _ _ _ _ _ _ _ _ _ _ _ _ _ _ _ _ _ _ _ _ _ _ _ _ _ _ _ _ _ _ _ _ _ _ _ _ _ _ _ _ _ _ _ _ _ _ _ _ _ _ _ _ _ _ _ _ _ _ _ _ _ _ _ _ _ _ _ _ _ _ _ _ _ _ _ _ _ _ _ _ _ _ _ _ _ _ _ _ _ _ _ _ _ _ _ _ _ _ _ _ _ _ _ c0 c1' c2 c3 c4 c5 c6 c7 c8 hV.out hn hw he hzl HLn K5 (Lib.hid fun _ _ h => h) (Lib.hid ?_)
      intros
      go_wp2_with fail
      go_ret
      exact ⟨rfl, K5.out.inv.ends K5.out.fr rfl⟩
end Go.Proofs.Ytacdhlhkpdlekaa
