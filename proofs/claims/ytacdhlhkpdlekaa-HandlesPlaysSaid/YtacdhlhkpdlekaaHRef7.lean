/-
  What the reference's All tells: the values and entries of all places that are taken. No conditions but that the table is one that calls can make.
-/
import Derived.Test.YtacdhlhkpdlekaaHRef3b
import Derived.Test.YtacdhlhkpdlekaaHOps
namespace Go.Proofs.Ytacdhlhkpdlekaa
open Go.ChangeShapes Go.WideShapes Go.ChangeAt Go.RowKit

structure AllInv (w wr : World) (v : Value) (xs : List Int) (ve : Value) (es : List Ent) : Prop where
  ints : Ints v xs wr
  ents : REnts ve es wr
  lv : ∀ j, Blk v j → w.heap.size ≤ j
  le : ∀ j, Blk ve j → w.heap.size ≤ j
  turn : Turn NoBlock w wr
section
variable {w wr w1 : World} {v ve : Value} {xs : List Int} {es : List Ent}
theorem AllInv.ne (h : AllInv w wr v xs ve es) {j : Nat} (hj : Blk v j) : ¬ Blk ve j := ne_own2 h.ints h.ents (by decide) hj
theorem AllInv.pushV {o : Obj} {x : Int} {n g c : Nat} (h : AllInv w wr v xs ve es) (hn : xs.length = n)
    (hown : w1.ownsRow 0 3 1 (.slice (some ⟨g, 0, none⟩) (n + 1) c) (n + 1) (xs.map (Value.int .i64) ++ [.int .i64 x])) (hgrow : (wr.alloc o).grownBy w1 v.ownBlock) (hat : v.ownBlock = some g ∨ g = wr.heap.size + 1) :
    AllInv w w1 (.slice (some ⟨g, 0, none⟩) (n + 1) c) (xs ++ [x]) ve es := by
  obtain ⟨h1, h2, h3⟩ := ints_push hn hown hgrow hat
  have hs := h.turn.size
  refine ⟨h1, (own_rents _ _).kept _ _ _ h.ents h2 (fun j hj hb => h.ne hb hj), fun j hj => ?_, h.le, h.turn.trans h2 (fun j hj => .inr (h.lv j hj))⟩
  rcases h3 j hj with h4 | h4
  · exact h.lv j h4
  · omega
theorem AllInv.pushE {o : Obj} {x : Ent} {n g c : Nat} (h : AllInv w wr v xs ve es) (hn : es.length = n)
    (hown : w1.ownsRow 0 76 3 (.slice (some ⟨g, 0, none⟩) (n + 1) c) (n + 1) (entsOf es ++ [.int .i64 x.o, .int .i64 x.k, .int .i64 x.r])) (hgrow : (wr.alloc o).grownBy w1 ve.ownBlock) (hat : ve.ownBlock = some g ∨ g = wr.heap.size + 1) :
    AllInv w w1 v xs (.slice (some ⟨g, 0, none⟩) (n + 1) c) (es ++ [x]) := by
  obtain ⟨h1, h2, h3⟩ := rents_push hn hown hgrow hat
  have hs := h.turn.size
  refine ⟨(own_ints _ _).kept _ _ _ h.ints h2 (fun j hj hb => h.ne hj hb), h1, h.lv, fun j hj => ?_, h.turn.trans h2 (fun j hj => .inr (h.le j hj))⟩
  rcases h3 j hj with h4 | h4
  · exact h.le j h4
  · omega
end

set_option maxRecDepth 20000 in
set_option maxHeartbeats 4000000 in
theorem rall_mem {w : World} {x cap : Nat} {va ea : Value} {R : List Pl} (h : RMem w x va ea cap (valsR R) (entsR R)) (ok : ROK cap R) :
    Calls Try.prog 12 #[.pointer (some ⟨x, 0, none⟩)] w fun e w' => ∃ v ve, e = .returned (.tuple #[v, ve]) ∧ AllInv w w' v ((takenL R).map (·.value)) ve ((takenL R).map (·.e)) := by
  obtain ⟨iv, hiv, hvz0, hvz1, hvz2⟩ := info_parts info3
  obtain ⟨ie, hie, hez0, hez1, hez2⟩ := info_parts info76
  have htop : R.length ≤ 65536 := by have := ok.len; have := ok.top; omega
  obtain ⟨n, hn⟩ : ∃ n, R.length = n := ⟨_, rfl⟩
  have hvl : (valsR R).length = n := by rw [← hn]; simp [valsR]
  have hel : (entsR R).length = n := by rw [← hn]; simp [entsR]
  rw [hn] at htop
  obtain ⟨pv, cv, hva⟩ := ints_slice h.vals
  obtain ⟨pe, ce, hea⟩ := own_slice h.ents
  rw [hvl] at hva
  rw [hel] at hea
  subst hva hea
  have HM := Lib.hid h
  have HN := Lib.hid (And.intro hn (And.intro hvl hel))
  have H0 := Lib.hid (show AllInv w w (.slice none 0 0) [] (.slice none 0 0) [] from ⟨World.ownsRow_nil _ _ _ _, World.ownsRow_nil _ _ _ _, fun j hj => (blk_nil j hj).elim, fun j hj => (blk_nil j hj).elim, Turn.refl _ _⟩)
  clear h ok hn hvl hel
  go_enter Try.func12, Try.ntmps12
  go_wp2
  go_loopg [4, 5, 6] n (fun g s4 s5 s6 wr => ∃ (k : Nat), g = n - k ∧ k ≤ n ∧ s6 = .int .i64 k ∧ Hid (AllInv w wr s4 ((takenL (R.take k)).map (·.value)) s5 ((takenL (R.take k)).map (·.e))))
  case atStart => exact ⟨0, by omega, by omega, rfl, H0⟩
  case round =>
    obtain ⟨k, hg, hk, rfl, HA⟩ := hrel
    have HM2 := Lib.hid (HM.out.past HA.out.turn)
    have d0 := HM2.out.c0
    have d1 := HM2.out.c1
    by_cases hlt : k < n
    · obtain ⟨p, hp⟩ : ∃ p, R[k]? = some p := ⟨_, List.getElem?_eq_getElem (by rw [HN.out.1]; exact hlt)⟩
      obtain ⟨gv, _, he, hcv1, hcv2, hxv, -, hcell, hfz⟩ := HM2.out.valAt (k := k) (by rw [HN.out.2.1]; exact hlt)
      rw [HN.out.2.1] at he hcv1
      simp only [Value.slice.injEq] at he
      obtain ⟨rfl, -, rfl⟩ := he
      rw [valsR_getD hp] at hcell
      by_cases hv : p.value = 0
      · have e := taken_no R k p hp hv
        have HT := Lib.hid (show AllInv w wr u4 ((takenL (R.take (k + 1))).map (·.value)) u5 ((takenL (R.take (k + 1))).map (·.e)) by rw [e]; exact HA.out)
        rw [hv] at hcell
        clear hp hv e
        go_wp2
        go_roundg (n - (k + 1))
        case measure => omega
        case rel => exact ⟨k + 1, rfl, by omega, by go_num, HT⟩
      · have heo : (entsR R)[k]? = some p.e := by simp [entsR, hp]
        obtain ⟨ge, _, he, -, hce1, hce2, hxe, hve, e0, e1, e2, efz⟩ := HM2.out.entAt heo
        rw [HN.out.2.2] at he hce1
        simp only [Value.slice.injEq] at he
        obtain ⟨rfl, -, rfl⟩ := he
        have e := taken_yes R k p hp hv
        have hlen := taken_len R k
        have HT := Lib.hid (show ∀ w1 v1 v2, AllInv w w1 v1 ((takenL (R.take k)).map (·.value) ++ [p.value]) v2 ((takenL (R.take k)).map (·.e) ++ [p.e]) → AllInv w w1 v1 ((takenL (R.take (k + 1))).map (·.value)) v2 ((takenL (R.take (k + 1))).map (·.e)) from fun w1 v1 v2 h => by rw [e]; simpa using h)
        have hb : (p.value != 0) = true := by simp [hv]
        have hxl : ((takenL (R.take k)).map (·.value)).length = (takenL (R.take k)).length := by simp
        have hyl : ((takenL (R.take k)).map (·.e)).length = (takenL (R.take k)).length := by simp
        generalize (takenL (R.take k)).map (·.value) = xs at *
        generalize (takenL (R.take k)).map (·.e) = es at *
        generalize (takenL (R.take k)).length = m at *
        generalize p.value = pvl at *
        generalize p.e = pe0 at *
        obtain ⟨eo, ek, er⟩ := pe0
        have HEo := Lib.hid heo
        clear hp hv e heo hve
        have hso := HA.out.ints
        unfold Ints at hso
        rw [hxl] at hso
        obtain ⟨pr, cr, hu4⟩ := own_slice hso
        obtain ⟨ps, cs, hu5⟩ := own_slice HA.out.ents
        rw [hyl] at hu5
        subst hu4 hu5
        have HL := Lib.hid (And.intro hxl hyl)
        clear hxl hyl
        obtain ⟨zs, hzs⟩ : ∃ zs, xs.map (Value.int .i64) = zs := ⟨_, rfl⟩
        rw [hzs] at hso
        have HX := Lib.hid hzs
        clear hzs
        have q2 : ∀ u ∈ [Value.int .i64 pvl], u.oneCell' = true := by
          intro u hu
          simp at hu
          subst hu
          rfl
        have q2e : ∀ u ∈ [Value.int .i64 eo, .int .i64 ek, .int .i64 er], u.oneCell' = true := by
          intro u hu
          simp at hu
          rcases hu with rfl | rfl | rfl <;> rfl
        have q3 : m + 1 ≤ maxLen := by unfold maxLen; omega
        have q4 : (m + 1) * 8 ≤ 140737488355328 := by omega
        have q5 : (m + 1) * 24 ≤ 140737488355328 := by omega
        go_wp2_with (first
          | (at_builtin; refine wpList_append_lies _ rfl (.tmp 24) (.tmp 32) 27 rfl 0 3 iv _ 1 8 slice27 hiv hvz0 hvz1 hvz2 rfl (by decide) (.slice pr m cr) m zs rfl (World.ownsRow.alloc hso _) ⟨wr.heap.size, 0, none⟩ 1 1 [.int .i64 pvl] rfl rfl (fun j u hu => World.news_of_block (heap_alloc_new wr _) j u (by simpa using hu)) q2 (by decide) q3 q4 (Nat.zero_le _) (wr.heap.size + 1) (by simp) ?_; intro g3 c3 w3 hown hgrow hat hlt3; rw [← HX.out] at hown; have K2 := Lib.hid (HA.out.pushV HL.out.1 hown hgrow hat); have HM3 := Lib.hid (HM.out.past K2.out.turn); have y1 := HM3.out.c1; obtain ⟨_, _, he, -, -, -, -, -, z0, z1, z2, zf⟩ := HM3.out.entAt HEo.out; simp only [Value.slice.injEq, Option.some.injEq, Addr.mk.injEq, and_true] at he; obtain ⟨rfl, -, -⟩ := he; have hso2 := K2.out.ents; unfold REnts at hso2; rw [HL.out.2] at hso2; clear hown hgrow hat)
          | (at_builtin; go_loud (refine wpList_append_lies _ rfl (.tmp 34) (.tmp 42) 28 rfl 0 76 ie _ 3 24 slice28 hie hez0 hez1 hez2 rfl (by decide) (.slice ps m cs) m (entsOf es) rfl (World.ownsRow.alloc hso2 _) ⟨w3.heap.size, 0, none⟩ 1 1 [.int .i64 eo, .int .i64 ek, .int .i64 er] rfl rfl (fun j u hu => World.news_of_block (heap_alloc_new w3 _) j u (by simpa using hu)) q2e (by decide) q3 q5 (Nat.zero_le _) (w3.heap.size + 1) (by simp) ?_; intro g4 c4 w4 hown hgrow hat hlt4; have K3 := Lib.hid (AllInv.pushE (x := ⟨eo, ek, er⟩) K2.out HL.out.2 hown hgrow hat); clear hown hgrow hat)))
        go_roundg (n - (k + 1))
        case measure => omega
        case rel => exact ⟨k + 1, rfl, by omega, by go_num, Lib.hid (HT.out _ _ _ K3.out)⟩
    · obtain rfl : k = n := by omega
      have e := List.take_of_length_le (Nat.le_of_eq HN.out.1)
      rw [e] at HA
      go_wp2
      go_ret2
      exact ⟨_, _, rfl, HA.out⟩

theorem rall_any {w : World} {x : Nat} {G : Nat → Prop} {L : List Pl} (h : RefAt w x G L) :
    Calls Try.prog 12 #[.pointer (some ⟨x, 0, none⟩)] w fun e w' => ∃ v ve, e = .returned (.tuple #[v, ve]) ∧ AllInv w w' v ((takenL L).map (·.value)) ve ((takenL L).map (·.e)) := by
  obtain ⟨va, ea, cap, R, hM, ok, rfl, rfl⟩ := h
  rw [taken_pad]
  exact rall_mem hM ok
end Go.Proofs.Ytacdhlhkpdlekaa
