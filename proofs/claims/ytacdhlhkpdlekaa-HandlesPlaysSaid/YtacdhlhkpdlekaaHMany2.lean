/-
  The walk of CloseMany. No conditions but that the table is one that calls can make, and that the numbers are numbers of 64 bits that lie apart from it.
-/
import Derived.Test.YtacdhlhkpdlekaaHMany
import Derived.Deep.LoopGhost
import Derived.Deep.AppendLies
namespace Go.Proofs.Ytacdhlhkpdlekaa
open Go.ChangeShapes Go.WideShapes Go.ChangeAt Go.RowKit

/-- Numbers that lie apart from the blocks of F. -/
def NumsBy (F : Nat → Prop) (W : World) (p : Option Addr) (len : Nat) (zs : List Int) : Prop := zs.length = len ∧ (∀ z ∈ zs, fit z) ∧ (0 < len → ∃ b off, p = some ⟨b, off, none⟩ ∧ ¬ F b ∧ ∀ j, j < len → W.cell? ⟨b, off + j, none⟩ = some (.int .i64 (zs.getD j 0)))

structure MInv (w wr : World) (a : Nat) (F F' : Nat → Prop) (L : List Pl) (v : Value) (es : List Ent) : Prop where
  tab : TableAt wr a F' L
  ents : Ents v es wr
  turn : Turn F w wr
  lf : ∀ j, F' j → F j ∨ w.heap.size ≤ j
  lb : ∀ j, Blk v j → w.heap.size ≤ j
  ap : ∀ j, F' j → ¬ Blk v j
section
variable {w wr w' : World} {a : Nat} {F F' F2 : Nat → Prop} {L L2 : List Pl} {v v' : Value} {es es' : List Ent}
theorem MInv.past (h : MInv w wr a F F' L v es) (t : Turn NoBlock wr w') : MInv w w' a F F' L v es :=
  ⟨h.tab.past t, t.own h.ents (fun _ _ h => h), h.turn.trans t (fun _ h => h.elim), h.lf, h.lb, h.ap⟩
theorem MInv.close (h : MInv w wr a F F' L v es) (t : Turn F' wr w') (h2 : TableAt w' a F2 L2) (l2 : ∀ j, F2 j → F' j ∨ wr.heap.size ≤ j) : MInv w w' a F F2 L2 v es := by
  have hs := h.turn.size
  refine ⟨h2, t.own h.ents (fun k hk hF => h.ap k hF hk), h.turn.trans t h.lf, fun j hj => ?_, h.lb, fun j hj hb => ?_⟩
  · rcases l2 j hj with h1 | h1
    · exact h.lf j h1
    · right; omega
  · rcases l2 j hj with h1 | h1
    · exact h.ap j h1 hb
    · have := (own_ents v es).lt wr h.ents j hb
      omega
theorem MInv.push (h : MInv w wr a F F' L v es) (t : Turn (Blk v) wr w') (h2 : Ents v' es' w') (l2 : ∀ j, Blk v' j → Blk v j ∨ wr.heap.size ≤ j) : MInv w w' a F F' L v' es' := by
  have hs := h.turn.size
  refine ⟨(table_own a F' L).kept _ _ _ h.tab t (fun j hj hb => h.ap j hj hb), h2, h.turn.trans t (fun j hj => .inr (h.lb j hj)), h.lf, fun j hj => ?_, fun j hj hb => ?_⟩
  · rcases l2 j hj with h1 | h1
    · exact h.lb j h1
    · omega
  · rcases l2 j hb with h1 | h1
    · exact h.ap j hj h1
    · have := h.tab.lt hj
      omega
end
theorem take_one' {zs : List Int} {k : Nat} (h : k < zs.length) : zs.take (k + 1) = zs.take k ++ [zs.getD k 0] := by
  rw [List.take_add_one, List.getElem?_eq_getElem h]
  simp [List.getD, h]

set_option maxRecDepth 20000 in
set_option maxHeartbeats 4000000 in
theorem many_any {w : World} {a : Nat} {F : Nat → Prop} {L : List Pl} (h : TableAt w a F L) (p : Option Addr) (len cap : Nat) (zs : List Int) (hl : len ≤ 65536) (hz : NumsBy F w p len zs) :
    Calls Try.prog 28 #[.pointer (some ⟨a, 0, none⟩), .slice p len cap] w fun e w' => ∃ v, e = .returned (.tuple #[v, .int .i64 (manyS L zs 0)]) ∧ ∃ F', MInv w w' a F F' (manyL L zs) v (manyE L zs) := by
  obtain ⟨i0, hi, hz0, hz1, hz2⟩ := info_parts info33
  have HZ := Lib.hid hz
  have H0 := Lib.hid (show MInv w w a F F L (.slice none 0 0) [] from ⟨h, World.ownsRow_nil _ _ _ _, Turn.refl _ _, fun j hj => .inl hj, fun j hj => (blk_nil j hj).elim, fun j _ hb => blk_nil j hb⟩)
  have hFl := Lib.hid (fun j (hj : F j) => h.lt hj)
  clear h hz
  go_enter Try.func28, Try.ntmps28
  go_wp2
  go_loopg [6, 7, 14] len (fun g s6 s7 s14 wr => ∃ (k : Nat) (F' : Nat → Prop), g = len - k ∧ k ≤ len ∧ s14 = .int .i64 k ∧ s7 = .int .i64 (manyS L (zs.take k) 0) ∧ Hid (MInv w wr a F F' (manyL L (zs.take k)) s6 (manyE L (zs.take k))))
  case atStart => exact ⟨0, F, by omega, by omega, rfl, rfl, H0.out⟩
  case round =>
    obtain ⟨k, F', hg, hk, rfl, rfl, HR⟩ := hrel
    by_cases hlt : k < len
    · obtain ⟨b, off, rfl, hnb, hc⟩ := HZ.out.2.2 (by omega)
      have ck := HR.out.turn.cell (hc k hlt) hnb
      have hkz : k < zs.length := by rw [HZ.out.1]; exact hlt
      have ht := take_one' hkz
      have hfx : fit (zs.getD k 0) := HZ.out.2.1 _ (by simp only [List.getD, List.getElem?_eq_getElem hkz, Option.getD_some]; exact List.getElem_mem hkz)
      have hm := many_len L (zs.take k)
      have hm' : (manyE L (zs.take k)).length ≤ k := by rw [List.length_take] at hm; omega
      have E1 := Lib.hid ((congrArg (manyL L) ht).trans (manyL_snoc L _ _))
      have E2 := Lib.hid ((congrArg (manyE L) ht).trans (manyE_snoc L _ _))
      have E3 := Lib.hid ((congrArg (fun l => manyS L l 0) ht).trans (manyS_snoc L _ _ 0))
      generalize zs.getD k 0 = x at *
      clear hc ht hm hkz
      by_cases hx : x = 0
      · replace E1 := Lib.hid (E1.out.trans (if_pos hx))
        replace E2 := Lib.hid (E2.out.trans (congrArg _ (if_pos hx)))
        replace E3 := Lib.hid (E3.out.trans (if_pos hx))
        subst hx
        generalize manyS L (zs.take k) 0 = S0 at *
        go_wp2
        go_roundg (len - (k + 1))
        case measure => omega
        case rel => exact ⟨k + 1, F', rfl, by omega, by go_num, by rw [E3.out], by rw [E1.out, E2.out, List.append_nil]; exact HR.out⟩
      · have hb0 : (x == 0) = false := by simp [hx]
        replace E1 := Lib.hid (E1.out.trans (if_neg hx))
        replace E2 := Lib.hid (E2.out.trans (congrArg _ (if_neg hx)))
        replace E3 := Lib.hid (E3.out.trans (if_neg hx))
        have cC := close_any HR.out.tab x hfx
        generalize manyL L (zs.take k) = L1 at *
        generalize manyS L (zs.take k) 0 = S0 at *
        generalize manyE L (zs.take k) = es at *
        obtain ⟨pv, cv, rfl⟩ := own_slice HR.out.ents
        obtain ⟨n, hn⟩ : ∃ n, es.length = n := ⟨_, rfl⟩
        rw [hn] at hm' HR ⊢
        have HN := Lib.hid hn
        by_cases hs : getS L1 x = 0
        · replace E2 := Lib.hid (E2.out.trans (congrArg _ (if_pos hs)))
          replace E3 := Lib.hid (E3.out.trans (if_pos hs))
          rw [hs] at cC
          generalize hE : getE L1 x = e at *
          obtain ⟨eo, ek, er⟩ := e
          unfold Ent.agg at cC
          have q2 : ∀ u ∈ [Value.int .i64 eo, .int .i64 ek, .int .i64 er], u.oneCell' = true := by
            intro u hu
            simp at hu
            rcases hu with rfl | rfl | rfl <;> rfl
          have q3 : n + 1 ≤ maxLen := by unfold maxLen; omega
          have q4 : (n + 1) * 24 ≤ 140737488355328 := by omega
          clear hs hE hn
          go_wp2_with (first
            | (go_at_call 29; (with_reducible refine cC.mono ?_); rintro y w2 ⟨rfl, F2, h2, t2, l2⟩; have K2 := Lib.hid ((MInv.close HR.out t2 h2 l2).past ((Turn.refl NoBlock _).alloc (.cells #[.int .i64 eo, .int .i64 ek, .int .i64 er] 33))); have hO : (w2.alloc (.cells #[.int .i64 eo, .int .i64 ek, .int .i64 er] 33)).ownsRow 0 33 3 (.slice pv n cv) n (entsOf es) := (by have := K2.out.ents; unfold Ents at this; rw [HN.out] at this; exact this); clear h2 t2 l2)
            | (at_builtin; refine wpList_append_lies _ rfl (.tmp 29) (.tmp 31) 42 rfl 0 33 i0 _ 3 24 slice42 hi hz0 hz1 hz2 rfl (by decide) (.slice pv n cv) n (entsOf es) rfl (World.ownsRow.alloc hO _) ⟨w2.heap.size + 1, 0, none⟩ 1 1 [.int .i64 eo, .int .i64 ek, .int .i64 er] rfl rfl (fun j u hu => World.news_of_block (by have := heap_alloc_new (w2.alloc (.cells #[.int .i64 eo, .int .i64 ek, .int .i64 er] 33)) (.cells #[.int .i64 eo, .int .i64 ek, .int .i64 er] 33); rw [World.size_alloc] at this; exact this) j u (by simpa using hu)) q2 (by decide) q3 q4 (Nat.zero_le _) (w2.heap.size + 2) (by simp) ?_; intro g3 c3 w3 hown hgrow hat hlt3; have P3 := ents_push (x := ⟨eo, ek, er⟩) HN.out hown hgrow (by rcases hat with h | h; exact .inl h; right; rw [World.size_alloc]; omega); have K3 := Lib.hid (MInv.push K2.out P3.2.1 P3.1 P3.2.2); clear hown hgrow hat P3))
          go_roundg (len - (k + 1))
          case measure => omega
          case rel => exact ⟨k + 1, F2, rfl, by omega, by go_num, by rw [E3.out], by rw [E1.out, E2.out]; exact K3.out⟩
        · replace E2 := Lib.hid (E2.out.trans (congrArg _ (if_neg hs)))
          replace E3 := Lib.hid (E3.out.trans (if_neg hs))
          have hsb : (getS L1 x != 0) = true := by simp [hs]
          generalize getS L1 x = S1 at *
          generalize getE L1 x = e at *
          obtain ⟨eo, ek, er⟩ := e
          unfold Ent.agg at cC
          clear hs hn
          go_wp2_with (go_at_call 29; (with_reducible refine cC.mono ?_); rintro y w2 ⟨rfl, F2, h2, t2, l2⟩; have K2 := Lib.hid ((MInv.close HR.out t2 h2 l2).past ((Turn.refl NoBlock _).alloc (.cells #[.int .i64 eo, .int .i64 ek, .int .i64 er] 33))); clear h2 t2 l2)
          go_roundg (len - (k + 1))
          case measure => omega
          case rel => exact ⟨k + 1, F2, rfl, by omega, by go_num, by rw [E3.out], by rw [E1.out, E2.out, List.append_nil]; exact K2.out⟩
    · obtain rfl : k = len := by omega
      have e := List.take_of_length_le (Nat.le_of_eq HZ.out.1)
      rw [e] at HR ⊢
      go_wp2
      go_ret2
      exact ⟨_, rfl, F', HR.out⟩
end Go.Proofs.Ytacdhlhkpdlekaa
