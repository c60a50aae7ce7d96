/-
  Drop of an object that has no parent, where no other one was dropped: the others stay as they are. No conditions but that the set is one that calls can make.
-/
import Derived.Test.YtdddmjdlikjedaaGreatVAll3
namespace Go.Proofs.YtdddmjdlikjedaaGreat
open Go.ChangeShapes Go.WideShapes Go.ChangeAt Go.RowKit

section
variable {w w' wr w5 w6 : World} {s : Nat} {r r5 rr : Rep} {M M1 : Mod} {c : Int} {v : Value} {l : List Int}
set_option maxRecDepth 20000 in
set_option maxHeartbeats 4000000 in
theorem drop_lone (h : SMem w s r M) (hi : Inv8 M) (ht : Tree M) (hd : ∀ j o, M.O j = some o → o.drp = true → 0 < o.kids) (hmd : M.made < 140737488355) {i : Int} {o : Ob} (hO : M.O i = some o) (hdr : o.drp = false) (hlone : ∀ j x, M.O j = some x → x.par = 0 ∧ x.drp = false) :
    Calls Tryz.prog 9 #[.pointer (some ⟨s, 0, none⟩), .int .i64 i] w fun e w' => ∃ p cp l r' M', e = .returned (.tuple #[.slice p l.length cp, .int .i64 0]) ∧ Dropped w w' s r M i r' M' (.slice p l.length cp) l ∧ (∀ j, j ≠ i → M'.O j = M.O j) := by
  obtain ⟨iv, hi3, hz0, hz1, hz2⟩ := info_parts info3
  obtain ⟨a0, pb0, hA0, hB0, hcell0, hpm0⟩ := h.live hO
  have c49 := find_yes h i (ht.fit (by omega) hO).1 hO hdr hA0
  have hf6 := (ocells hcell0).f 6
  have hc6 := (ocells hcell0).c6
  have halt := lt_of_block hcell0
  have HS := Lib.hid (drop_start h hi ht hd hO hA0)
  have HO := Lib.hid hO
  have HLN := Lib.hid hlone
  have HK0 := Lib.hid (show (∀ j, j ≠ i → (dropM M i o).O j = M.O j) ∧ ∀ x, (dropM M i o).O i = some x → x.par = 0 from ⟨fun j hj => by
    show updI M.O i _ j = _
    unfold updI
    rw [if_neg hj], fun x hx => by
    have hx' : updI M.O i _ i = some x := hx
    rw [updI_same] at hx'
    cases hx'
    exact (hlone i o hO).1⟩)
  have Hm := Lib.hid hmd
  have HA0 := Lib.hid hA0
  have Hlv := Lib.hid (show (dropM M i o).live ≤ M.made from by show M.live ≤ _; rw [ht.live]; exact cntI_le _ _)
  clear hlone h hi ht hd hO hA0 hB0 hcell0 hpm0 hmd hdr
  go_enter Tryz.func9, Tryz.ntmps9
  go_wp2_with (go_at_call 21; (with_reducible refine c49.mono ?_); rintro x w1 ⟨rfl, rfl⟩)
  go_loopg [1, 4, 6] M.live (fun g s1 s4 s6 wr => ∃ (c : Int) (M' : Mod) (rr : Rep) (p : Option Addr) (cp n : Nat) (l : List Int), g = M'.live ∧ s1 = .int .i64 c ∧ s4 = .slice p n cp ∧ ((s6 = .pointer none ∧ rr.A c = none) ∨ ∃ a, s6 = .pointer (some ⟨a, 0, none⟩) ∧ rr.A c = some a) ∧
    Hid (DropI w wr s r (dropM M i o) rr M' c (.slice p n cp) l ∧ l.length = n ∧ (∀ j, j ≠ i → M'.O j = M.O j) ∧ ∀ x, M'.O i = some x → x.par = 0))
  case atStart => exact ⟨i, dropM M i o, r, none, 0, 0, [], rfl, rfl, rfl, .inr ⟨a0, rfl, HA0.out⟩, HS.out, rfl, HK0.out.1, HK0.out.2⟩
  case round =>
    obtain ⟨c, M', rr, p, cp, n, l, hg, rfl, rfl, hs6, HA⟩ := hrel
    rcases hs6 with ⟨rfl, hAc⟩ | ⟨a, rfl, hAc⟩
    · have HX := Lib.hid hAc
      clear hAc
      go_wp2
      go_ret2
      obtain ⟨h1, h2, h9, -⟩ := HA.out
      subst h2
      exact ⟨p, cp, l, rr, M', rfl, h1.done HO.out (fun x hx => by
        have := (h1.mem.no c HX.out).1
        rw [this] at hx; cases hx), h9⟩
    · obtain ⟨oc, pbc, hOc, hBc, hcell, hpm⟩ := HA.out.1.mem.ob c a hAc
      have oo := ocells hcell
      have d6 := oo.c6
      have d2 := oo.c2
      by_cases hdc : oc.drp = true ∧ oc.kids = 0
      · obtain ⟨hd1, hd2⟩ := hdc
        rw [hd1] at d6
        rw [hd2] at d2
        have T := HA.out.1.tree
        have hmade : M'.made < 140737488355 := by rw [HA.out.1.made]; exact Hm.out
        have hfit := T.fit (by omega) hOc
        have hln : n ≤ 140737488355 := by
          have h1 := HA.out.1.live
          have h2 := HA.out.2.1
          have h3 : (dropM M i o).live ≤ M.made := Hlv.out
          have := Hm.out
          omega
        have cE := end_any HA.out.1.mem hOc hAc HA.out.1.inv.few hfit.1 hfit.2 (by have := (T.par c oc hOc).1; omega) (fun q hq => by
          obtain ⟨u1, u2, u3, u4⟩ := T.up hOc hq
          exact ⟨u1, by omega, u3, by omega⟩)
        have q3 : n + 1 ≤ maxLen := by unfold maxLen; omega
        have q4 : (n + 1) * 8 ≤ 140737488355328 := by omega
        have HST := Lib.hid (fun (w5 w6 : World) r5 S' ks (E : Ended wr w5 s rr M' c oc a r5 S' ks) g cap hown hgrow hat => HA.out.1.step (w5 := w5) (w6 := w6) hOc hAc hd2 E (.cells #[.int .i64 c] 3) (g := g) (cap := cap) HA.out.2.1 hown hgrow hat)
        have HI := Lib.hid (fun (w5 : World) r5 S' ks (E : Ended wr w5 s rr M' c oc a r5 S' ks) => show (w5.alloc (.cells #[.int .i64 c] 3)).ownsRow 0 3 1 (.slice p n cp) n (l.map (Value.int .i64)) from by
          have h1 := HA.out.1.ints
          unfold Ints at h1
          rw [HA.out.2.1] at h1
          exact World.ownsRow.alloc (E.next.turn.own h1 (fun j hj hF => HA.out.1.apart j hj hF)) _)
        have HF := Lib.hid hfit.2
        have HLV := Lib.hid (show 1 ≤ M'.live ∧ ∀ S', (endM M' c oc S').live = M'.live - 1 from ⟨(T.ended (M' := endM M' c oc ⟨[], fun _ => none, 0⟩) hOc hd2 (endM_O (by have := (T.par c oc hOc).1; omega)) (endM_rest _ _ _ _).1 (endM_rest _ _ _ _).2.1).2, fun S' => (endM_rest _ _ _ _).2.1⟩)
        have hci : c = i := Classical.byContradiction fun e => by
          have h5 := HA.out.2.2.1 c e
          rw [hOc] at h5
          have h6 := (HLN.out c oc h5.symm).2
          rw [hd1] at h6
          cases h6
        have hpar0 : oc.par = 0 := HA.out.2.2.2 oc (by rw [← hci]; exact hOc)
        have HKS := Lib.hid (show ∀ S', (∀ j, j ≠ i → (endM M' c oc S').O j = M.O j) ∧ ∀ x, (endM M' c oc S').O i = some x → x.par = 0 from fun S' => by
          have hne : (oc.par : Int) ≠ c := by have := (T.par c oc hOc).1; omega
          refine ⟨fun j hj => ?_, fun x hx => ?_⟩
          · rw [endM_O hne, if_neg (by rw [hci]; exact hj)]
            split
            · rename_i e
              rw [hpar0] at e
              have h0 := T.zero
              rw [show j = 0 from e] at hj ⊢
              rw [← HA.out.2.2.1 0 hj, h0]
              rfl
            · exact HA.out.2.2.1 j hj
          · rw [endM_O hne, if_pos hci.symm] at hx
            cases hx)
        clear hci hpar0
        clear hAc hOc hBc hcell hpm oo hd1 hd2 T hmade hfit hln
        go_wp2_with (first
          | (go_at_call 22; (with_reducible refine cE.mono ?_); rintro x w5 ⟨rfl, r5, S5, ks5, E5⟩; have KE := Lib.hid E5; clear E5)
          | (at_builtin; refine wpList_append_lies _ rfl (.tmp 38) (.tmp 40) 31 rfl 0 3 iv _ 1 8 intsUnder hi3 hz0 hz1 hz2 rfl (by decide) (.slice p n cp) n (l.map (Value.int .i64)) rfl (HI.out _ _ _ _ KE.out) ⟨w5.heap.size, 0, none⟩ 1 1 [.int .i64 c] rfl rfl (fun j u hu => World.news_of_block (heap_alloc_new w5 _) j u (by simpa using hu)) (by simp [Value.oneCell']) (by decide) q3 q4 (Nat.zero_le _) (w5.heap.size + 1) (by simp) ?_; intro g6 c6 w6 hown hgrow hat hlt6; obtain ⟨k6, z1⟩ := HST.out _ w6 _ _ _ KE.out g6 c6 hown hgrow hat; have z3 := k6.mem.c3; have lk0 := k6.mem.omap.look (oc.par : Int) HF.out; have lkd := (k6.mem.past ((Turn.refl NoBlock w6).drew)).omap.look (oc.par : Int) HF.out; have K6 := Lib.hid k6; clear k6 hown hgrow hat hlt6))
        go_region
        all_goals
          go_wp2
          go_roundg (M'.live - 1)
          case measure => have := HLV.out.1; omega
          case rel =>
            refine ⟨(oc.par : Int), endM M' c oc S5, r5, _, c6, n + 1, l ++ [c], (HLV.out.2 _).symm, rfl, rfl, ?_, K6.out.past ((Turn.refl NoBlock w6).drew), by rw [List.length_append, HA.out.2.1]; rfl, (HKS.out S5).1, (HKS.out S5).2⟩
            cases hx : r5.A (oc.par : Int) with
            | none => exact .inl ⟨rfl, rfl⟩
            | some b => exact .inr ⟨b, rfl, rfl⟩
      · have hcs : (oc.drp = false) ∨ (oc.drp = true ∧ ((oc.kids : Int) == 0) = false) := by
          cases hdd : oc.drp with
          | false => exact .inl rfl
          | true =>
            have hk0 : oc.kids ≠ 0 := fun e => hdc ⟨(by first | exact hdd | rfl), e⟩
            exact .inr ⟨rfl, by simp; omega⟩
        have HX := Lib.hid (And.intro hOc hdc)
        clear hAc hOc hBc hcell hpm oo hdc
        have fin : ∀ (_ : True), Dropped w wr s r M i rr M' (.slice p n cp) l := fun _ => by
          refine HA.out.1.done HO.out (fun x hx hxd => ?_)
          rw [HX.out.1] at hx
          cases hx
          have := HX.out.2
          rcases Nat.eq_zero_or_pos oc.kids with e | e
          · exact absurd ⟨hxd, e⟩ this
          · exact e
        have FIN := Lib.hid fin
        clear fin
        rcases hcs with e | ⟨e, e2⟩
        · rw [e] at d6
          go_wp2
          go_ret2
          obtain ⟨h1, h2, h9, -⟩ := HA.out
          subst h2
          exact ⟨p, cp, l, rr, M', rfl, FIN.out trivial, h9⟩
        · rw [e] at d6
          go_wp2
          go_ret2
          obtain ⟨h1, h2, h9, -⟩ := HA.out
          subst h2
          exact ⟨p, cp, l, rr, M', rfl, FIN.out trivial, h9⟩
end
end Go.Proofs.YtdddmjdlikjedaaGreat
