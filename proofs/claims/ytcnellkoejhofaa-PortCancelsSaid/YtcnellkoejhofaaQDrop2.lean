/-
  drop in a law's state: the object's watches of which the function is true are gone. No conditions but that the object is a number of 64 bits, and that the function reads alone.
-/
import Derived.Test.YtcnellkoejhofaaQDrop
namespace Go.Proofs.Ytcnellkoejhofaa
open Go.ChangeShapes Go.WideShapes Go.ChangeAt Go.RowKit

theorem two_parts {A : Type} (P : A → Bool) (l : List A) : (l.filter P).length + (l.filter (fun t => !P t)).length = l.length := by
  induction l with
  | nil => rfl
  | cons t r ih => cases hp : P t <;> simp [hp] <;> omega
/-- How many watches of o go. -/
def goneN (Ws : List Wc) (o : Int) (P : Wc → Bool) : Nat := ((ofO Ws o).filter P).length
section
variable {w0 w w' : World} {c b : Nat} {depth most : Int} {Q Q' : List Pk} {Ws Ws' : List Wc} {v v' : Value} {V V' : Int → Value} {K K' : List Int} {X Y : Nat → Prop}
/-- The row of o is shorter, and so the map. -/
theorem PM.less (h : PM w c depth most v Q b V Ws K) (o : Int) (P : Wc → Bool) {v' : Value} {W1 W2 : World} {K' : List Int} (t1 : Turn (Blk (V o)) w W1) (t2 : Turn (fun k => k = b) W1 W2) (hb : ∀ k, Blk v' k → Blk (V o) k)
    (m2 : Wm W2 b (updV V o v') (dropW Ws o P) K') :
    W2.cell? ⟨c, 5, none⟩ = some (.int .i64 (Ws.length : Int)) ∧ W2.frozen? ⟨c, 5, none⟩ = false ∧
    PM (W2.setCell ⟨c, 5, none⟩ (.int .i64 ((Ws.length : Int) - (goneN Ws o P : Int)))) c depth most v Q b (updV V o v') (dropW Ws o P) K' ∧
    Turn (PFoot c v b V) w (W2.setCell ⟨c, 5, none⟩ (.int .i64 ((Ws.length : Int) - (goneN Ws o P : Int)))) ∧ ∀ i j, Blk (updV V o v' i) j → Blk (V i) j := by
  have hdl := dropW_len Ws o P
  have hd1 := (h.hd.kept t1 (h.cw o)).kept t2 h.cb
  have tc := turn_c W2 c 5 (.int .i64 ((Ws.length : Int) - (goneN Ws o P : Int)))
  have hV : ∀ i j, Blk (updV V o v' i) j → Blk (V i) j := by
    intro i j hj
    unfold updV at hj
    by_cases hi : i = o
    · subst hi; rw [if_pos rfl] at hj; exact hb j hj
    · rw [if_neg hi] at hj; exact hj
  refine ⟨hd1.c5, hd1.typ.free 5, ⟨?_, ?_, m2.kept tc (fun j hj e => ?_)⟩, ?_, hV⟩
  · have := hd1.set5 ((Ws.length : Int) - (goneN Ws o P : Int))
    have e : (Ws.length : Int) - (goneN Ws o P : Int) = ((dropW Ws o P).length : Int) := by unfold goneN; omega
    rw [← e]
    exact this
  · exact ((h.row.kept t1 (fun j hj hj' => h.vw hj (.inr ⟨o, hj'⟩))).kept t2 (fun j hj e => h.vw hj (.inl e))).kept tc (fun j hj e => h.vc (e ▸ hj))
  · subst e
    rcases hj with e | ⟨i, hi⟩
    · exact h.cb e
    · exact h.cw i (hV i _ hi)
  · exact ((t1.mono (G := PFoot c v b V) (fun j hj => .inl (.inr (.inr (.inr ⟨o, hj⟩))))).trans (t2.mono (G := PFoot c v b V) (fun j hj => .inl (.inr (.inr (.inl hj))))) (fun _ h => .inl h)).trans tc (fun j hj => .inl (.inl hj))
set_option maxRecDepth 20000 in
set_option maxHeartbeats 1000000 in
theorem PM.drop (h1 : PM w c depth most v Q b V Ws K) (hwl : Ws.length ≤ 65536) (o : Int) (ho : fit o) (N : Nat) (caps : Array Value) (P : Wc → Bool) (hE : ∀ a W, Sem.run Try.prog (callFunc N a) W = .ok (.enter N a) W)
    (hP : ∀ W t, Turn (Blk (V o)) w W → Calls Try.prog N (#[t.agg] ++ caps) W fun e w' => e = .returned (.bool (P t)) ∧ Turn NoBlock W w') :
    Calls Try.prog 32 #[.pointer (some ⟨c, 0, none⟩), .int .i64 o, .func (.func N) #[] caps] w fun x w' => x = .returned (.int .i64 (goneN Ws o P : Int)) ∧ ∃ V' K', PM w' c depth most v Q b V' (dropW Ws o P) K' ∧ Turn (PFoot c v b V) w w' ∧ ∀ i j, Blk (V' i) j → Blk (V i) j := by
  have hlook := h1.wm.look ho
  have c4 := h1.hd.c4
  have hn : (ofO Ws o).length ≤ 65536 := Nat.le_trans (ofO_len Ws o) hwl
  have htp := two_parts P (ofO Ws o)
  have hol := ofO_len Ws o
  obtain ⟨p, cap, hv⟩ := WRow.sl (h1.wm.rows o)
  have CD := Lib.hid (delete_a w (V o) (ofO Ws o) N caps P (h1.wm.rows o) hE (fun W t _ hT => hP W t hT) (by omega))
  have hkl := h1.wm.klen
  have HO := Lib.hid ho
  have hdo : ofO (dropW Ws o P) o = (ofO Ws o).filter (fun t => !P t) := by rw [ofO_drop, if_pos rfl]
  have hdn : ∀ i, i ≠ o → ofO (dropW Ws o P) i = ofO Ws i := fun i hi => by rw [ofO_drop, if_neg hi]
  have hgn : (goneN Ws o P : Int) = ((ofO Ws o).length : Int) - (((ofO Ws o).filter (fun t => !P t)).length : Int) := by unfold goneN; omega
  rw [hv] at hlook CD
  by_cases hl : (ofO Ws o).filter (fun t => !P t) = []
  · have GO := Lib.hid (fun W1 (t1 : Turn (Blk (V o)) w W1) => show ∃ W2, (∀ ty, Sem.run Try.prog (Builtin.delete_ #[60, 3] ty #[.map (some b), .int .i64 o]) W1 = .ok (.tuple #[]) W2) ∧ W1.cell? ⟨c, 4, none⟩ = some (.map (some b)) ∧ W2.cell? ⟨c, 5, none⟩ = some (.int .i64 (Ws.length : Int)) ∧ W2.frozen? ⟨c, 5, none⟩ = false ∧ (∃ V' K', PM (W2.setCell ⟨c, 5, none⟩ (.int .i64 ((Ws.length : Int) - (goneN Ws o P : Int)))) c depth most v Q b V' (dropW Ws o P) K' ∧ Turn (PFoot c v b V) w (W2.setCell ⟨c, 5, none⟩ (.int .i64 ((Ws.length : Int) - (goneN Ws o P : Int)))) ∧ ∀ i j, Blk (V' i) j → Blk (V i) j) from by
      obtain ⟨W2, K', hdel, m2, t2⟩ := h1.wm.gone ho t1 (Ws' := dropW Ws o P) (by rw [hdo, hl]) hdn
      obtain ⟨d5, f5, hPM, hT, hVb⟩ := h1.less o P t1 t2 (fun k hk => (blk_nil k hk).elim) m2
      exact ⟨W2, hdel, (h1.hd.kept t1 (h1.cw o)).c4, d5, f5, _, _, hPM, hT, hVb⟩)
    rw [hl] at hgn CD
    rw [hv] at GO
    simp only [List.length_nil] at hgn
    have hgw : (ofO Ws o).length = goneN Ws o P := by omega
    rw [hgw] at hlook CD GO hn hol
    generalize goneN Ws o P = n at *
    clear h1 hkl hdo hdn hgn hl htp hgw hE hP
    generalize hyy : Ws.length = y at *
    have hw5 : IntKind.i64.wrap ((y : Int) - (n : Int)) = (y : Int) - (n : Int) := by have := wrap_nat (y - n) (by omega); rw [show ((y - n : Nat) : Int) = (y : Int) - (n : Int) by omega] at this; exact this
    clear hyy hwl hol
    go_enter Try.func32, Try.ntmps32
    go_wp2_with (go_at_call 37; (with_reducible refine CD.out.mono ?_); rintro x W1 ⟨v', rfl, r1, t1, b1⟩; obtain ⟨p1, cap1, rfl⟩ := WRow.sl r1; obtain ⟨W2, hdel, a4, d5, f5, hfin⟩ := GO.out W1 t1; have HFIN := Lib.hid hfin; clear r1 t1 b1 hfin)
    go_ret
    exact ⟨rfl, HFIN.out⟩
  · have GO := Lib.hid (fun W1 v' (t1 : Turn (Blk (V o)) w W1) (r1 : ARow v' ((ofO Ws o).filter (fun t => !P t)) W1) (b1 : ∀ k, Blk v' k → Blk (V o) k) => show ∃ W2, Sem.run Try.prog (Instr.mapUpdate 60 (.map (some b)) (.int .i64 o) v') W1 = .ok () W2 ∧ W1.cell? ⟨c, 4, none⟩ = some (.map (some b)) ∧ W2.cell? ⟨c, 5, none⟩ = some (.int .i64 (Ws.length : Int)) ∧ W2.frozen? ⟨c, 5, none⟩ = false ∧ (∃ V' K', PM (W2.setCell ⟨c, 5, none⟩ (.int .i64 ((Ws.length : Int) - (goneN Ws o P : Int)))) c depth most v Q b V' (dropW Ws o P) K' ∧ Turn (PFoot c v b V) w (W2.setCell ⟨c, 5, none⟩ (.int .i64 ((Ws.length : Int) - (goneN Ws o P : Int)))) ∧ ∀ i j, Blk (V' i) j → Blk (V i) j) from by
      obtain ⟨W2, K', hmu, m2, t2⟩ := h1.wm.put ho (v' := v') t1 (Ws' := dropW Ws o P) (by rw [hdo]; exact r1) (by rw [hdo]; exact hl) hdn (fun k hk => .inl (b1 k hk)) (by unfold maxLen; omega)
      obtain ⟨d5, f5, hPM, hT, hVb⟩ := h1.less o P t1 t2 b1 m2
      exact ⟨W2, hmu, (h1.hd.kept t1 (h1.cw o)).c4, d5, f5, _, _, hPM, hT, hVb⟩)
    have hlp : 0 < ((ofO Ws o).filter (fun t => !P t)).length := List.length_pos_iff.2 hl
    rw [hv] at GO
    have hgw : (ofO Ws o).length = goneN Ws o P + ((ofO Ws o).filter (fun t => !P t)).length := by unfold goneN; omega
    rw [hgw] at hlook CD GO hn hol
    generalize hll : (ofO Ws o).filter (fun t => !P t) = l at *
    generalize goneN Ws o P = n at *
    clear h1 hkl hdo hdn hgn hl htp hgw hE hP hll
    generalize hyy : Ws.length = y at *
    have hw5 : IntKind.i64.wrap ((y : Int) - (n : Int)) = (y : Int) - (n : Int) := by have := wrap_nat (y - n) (by omega); rw [show ((y - n : Nat) : Int) = (y : Int) - (n : Int) by omega] at this; exact this
    obtain ⟨z, hz⟩ : ∃ z, l.length = z := ⟨_, rfl⟩
    have hw6 : IntKind.i64.wrap (((n + z : Nat) : Int) - (z : Int)) = (n : Int) := by have := wrap_nat n (by omega); rw [show ((n + z : Nat) : Int) - (z : Int) = (n : Int) by omega]; exact this
    have hz0 : (z : Int) > 0 := by omega
    have hz1 : decide ((z : Int) > 0) = true := by simpa using hz0
    have HZ := Lib.hid hz
    have hnb : n ≤ y := by omega
    have hnb2 : n ≤ 65536 := by omega
    rw [hz] at CD GO hlook
    clear hyy hol hz hlp hn
    go_enter Try.func32, Try.ntmps32
    go_wp2_with (go_at_call 37; (with_reducible refine CD.out.mono ?_); rintro x W1 ⟨v', rfl, r1, t1, b1⟩; obtain ⟨W2, hmu, a4, d5, f5, hfin⟩ := GO.out W1 v' t1 r1 b1; obtain ⟨p1, cap1, rfl⟩ := WRow.sl r1; rw [HZ.out] at hmu; rw [HZ.out]; have HFIN := Lib.hid hfin; clear r1 t1 b1 hfin)
    go_ret
    exact ⟨rfl, HFIN.out⟩
end
end Go.Proofs.Ytcnellkoejhofaa
