/-
  commit: the walk. No conditions but that the set is one that calls can make.
-/
import Derived.Test.YtdhbhigoboamfaaVCommit
namespace Go.Proofs.Ytdhbhigoboamfaa
open Go.ChangeShapes Go.WideShapes Go.ChangeAt Go.RowKit

def roomN (L : List Pg) : Int := (L.length : Int) - usedN L
section
variable {w : World} {s : Nat} {r : Rep} {M : Mod}
theorem room_turn (h : SMem w s r M) : ∀ w', Turn NoBlock w w' → Calls Try.prog 46 #[.pointer (some ⟨r.p, 0, none⟩)] w' fun e w'' => e = .returned (.int .i64 (roomN M.L)) ∧ Turn NoBlock w w'' ∧ w''.cell? ⟨s, 0, none⟩ = some (.pointer (some ⟨r.p, 0, none⟩)) := fun w' t =>
  (room_any (h.past t).pool).mono fun e w'' hh => by
    obtain ⟨rfl, m, rfl⟩ := hh
    have t2 : Turn NoBlock w (w'.drewN m) := t.drewN m
    exact ⟨rfl, t2, (h.past t2).c0⟩
theorem lack_turn (h : SMem w s r M) {i : Int} {o : Ob} {a pb : Nat} (hO : M.O i = some o) (hA : r.A i = some a) (hB : r.B i = some pb) {v : Value} {ps : List Pt} (hv : Parts v ps w) (hps : ps.length ≤ 4096) (hpg : ∀ p ∈ ps, p.pg ≤ 4611686018427387904) :
    ∀ w', Turn NoBlock w w' → Calls Try.prog 67 #[.pointer (some ⟨s, 0, none⟩), .pointer (some ⟨a, 0, none⟩), v] w' fun e w'' => e = .returned (.int .i64 (lackN ⟨M.L, o.pgs, o.cnt⟩ ps : Nat)) ∧ Turn NoBlock w w'' ∧ w''.cell? ⟨s, 0, none⟩ = some (.pointer (some ⟨r.p, 0, none⟩)) := fun w' t =>
  (lacking_any (h.past t) hO hA hB (hv.past t (fun _ _ h => h)) hps hpg).mono fun e w'' hh => by
    obtain ⟨rfl, t2⟩ := hh
    have t3 := t.trans t2 (fun _ h => .inl h)
    exact ⟨rfl, t3, (h.past t3).c0⟩

set_option maxRecDepth 20000 in
set_option maxHeartbeats 2000000 in
theorem commit_no (h : SMem w s r M) {i : Int} {o : Ob} {a pb : Nat} (hO : M.O i = some o) (hA : r.A i = some a) (hB : r.B i = some pb) {v : Value} {ps : List Pt} (hv : Parts v ps w) (hps : ps.length ≤ 4096) (hpg : ∀ p ∈ ps, p.pg ≤ 4611686018427387904)
    (hl : roomN M.L < (lackN ⟨M.L, o.pgs, o.cnt⟩ ps : Nat)) :
    Calls Try.prog 53 #[.pointer (some ⟨s, 0, none⟩), .pointer (some ⟨a, 0, none⟩), v] w fun e w' => e = .returned (.int .i64 (-4)) ∧ Turn NoBlock w w' := by
  have HR := Lib.hid (room_turn h)
  have HL := Lib.hid (lack_turn h hO hA hB hv hps hpg)
  have d0 := h.c0
  have D0 : ∀ m, (w.drewN m).cell? ⟨s, 0, none⟩ = some (.pointer (some ⟨r.p, 0, none⟩)) := fun m => h.c0
  have D1 : w.drew.cell? ⟨s, 0, none⟩ = some (.pointer (some ⟨r.p, 0, none⟩)) := h.c0
  have T0 : ∀ m, Turn NoBlock w (w.drewN m) := fun m => (Turn.refl _ _).drewN m
  have T1 : Turn NoBlock w w.drew := (Turn.refl _ _).drew
  have T2 : Turn NoBlock w w := Turn.refl _ _
  clear h hO hA hB hv hps hpg
  generalize lackN ⟨M.L, o.pgs, o.cnt⟩ ps = q at *
  generalize roomN M.L = rm at *
  go_enter Try.func53, Try.ntmps53
  go_wp2_with fail
  go_region_held3 (fun w' => w'.cell? ⟨s, 0, none⟩ = some (.pointer (some ⟨r.p, 0, none⟩)) ∧ Turn NoBlock w w') ((refine ⟨?_, ?_⟩ <;> (first | exact D1 | exact D0 _ | exact T1 | exact T0 _ | assumption)))
    (first
      | (go_at_call 67; (with_reducible refine (HL.out _ (by first | exact T1 | assumption | exact T0 _)).mono ?_); rintro e w5 ⟨rfl, T5, q5⟩)
      | (go_at_call 46; (with_reducible refine (HR.out _ (by first | exact T1 | assumption | exact T0 _)).mono ?_); rintro e w5 ⟨rfl, T5, q5⟩))
  all_goals
    go_wp2
    go_ret
    exact ⟨rfl, by assumption⟩

set_option maxRecDepth 20000 in
set_option maxHeartbeats 4000000 in
theorem commit_yes (h : SMem w s r M) {i : Int} {o : Ob} {a pb : Nat} (hO : M.O i = some o) (hA : r.A i = some a) (hB : r.B i = some pb) {v : Value} {ps : List Pt} (hv : Parts v ps w) (hps : ps.length ≤ 4096) (hpg : ∀ p ∈ ps, p.pg ≤ 4611686018427387904)
    (hl : (lackN ⟨M.L, o.pgs, o.cnt⟩ ps : Nat) ≤ roomN M.L) (hvf : ∀ j, Blk v j → ¬ SFoot s r j) (hf : Few M.L) (hc : o.cnt ≤ 1152921504606846976) :
    Calls Try.prog 53 #[.pointer (some ⟨s, 0, none⟩), .pointer (some ⟨a, 0, none⟩), v] w fun e w' => e = .returned (.int .i64 0) ∧ ∃ F, CIn w w' s r M i o v ps F (commitAll ⟨M.L, o.pgs, o.cnt⟩ ps) ps.length := by
  have HR := Lib.hid (room_turn h)
  have HL := Lib.hid (lack_turn h hO hA hB hv hps hpg)
  have HC := Lib.hid (fun w' (t : Turn NoBlock w w') => show CIn w w' s r M i o v ps r.FP ⟨M.L, o.pgs, o.cnt⟩ 0 from
    ⟨rfl, by rw [setM_start hO]; exact h.past t, (next_refl w s r).past t, hv.past t (fun _ _ h => h), hvf, hf, Nat.le_refl _⟩)
  obtain ⟨gp, cap, rfl⟩ := hv.shape
  have d0 := h.c0
  have D0 : ∀ m, (w.drewN m).cell? ⟨s, 0, none⟩ = some (.pointer (some ⟨r.p, 0, none⟩)) := fun m => h.c0
  have D1 : w.drew.cell? ⟨s, 0, none⟩ = some (.pointer (some ⟨r.p, 0, none⟩)) := h.c0
  have T0 : ∀ m, Turn NoBlock w (w.drewN m) := fun m => (Turn.refl _ _).drewN m
  have T1 : Turn NoBlock w w.drew := (Turn.refl _ _).drew
  have H := Lib.hid (And.intro hA (And.intro hB (And.intro hps (And.intro hpg hc))))
  have hps2 : (ps.length : Int) ≤ 4096 := by omega
  have hl2 : ¬ roomN M.L < (lackN ⟨M.L, o.pgs, o.cnt⟩ ps : Nat) := by omega
  clear h hO hA hB hv hps hpg hl hvf hf hc
  generalize lackN ⟨M.L, o.pgs, o.cnt⟩ ps = q at *
  generalize roomN M.L = rm at *
  go_enter Try.func53, Try.ntmps53
  go_wp2_with fail
  go_region_held3 (fun w' => w'.cell? ⟨s, 0, none⟩ = some (.pointer (some ⟨r.p, 0, none⟩)) ∧ Turn NoBlock w w') ((refine ⟨?_, ?_⟩ <;> (first | exact D1 | exact D0 _ | exact T1 | exact T0 _ | assumption)))
    (first
      | (go_at_call 67; (with_reducible refine (HL.out _ (by first | exact T1 | assumption | exact T0 _)).mono ?_); rintro e w5 ⟨rfl, T5, q5⟩)
      | (go_at_call 46; (with_reducible refine (HR.out _ (by first | exact T1 | assumption | exact T0 _)).mono ?_); rintro e w5 ⟨rfl, T5, q5⟩))
  all_goals
    go_wp2
    go_loopg [21] ps.length (fun g s21 wr => ∃ (k : Nat) (F : Nat → Prop) (S : PL), g = ps.length - k ∧ k ≤ ps.length ∧ s21 = .int .i64 k ∧ Hid (CIn w wr s r M i o (.slice gp ps.length cap) ps F S k))
    case atStart => exact ⟨0, r.FP, _, rfl, by omega, rfl, HC.out _ (by assumption)⟩
    case round =>
      obtain ⟨k, F, S, hg, hk, rfl, HA⟩ := hrel
      by_cases hlt : k < ps.length
      · obtain ⟨hA, hB, hps, hpg, hc⟩ := H.out
        obtain ⟨p, hp⟩ : ∃ p, ps[k]? = some p := ⟨_, List.getElem?_eq_getElem hlt⟩
        obtain ⟨gb, cb, he, hkl, e0, e1, e2⟩ := HA.out.parts.at hp
        simp only [Value.slice.injEq] at he
        obtain ⟨rfl, -, rfl⟩ := he
        have hpg1 := hpg p (List.mem_of_getElem? hp)
        obtain ⟨x, xt, hx1, hx2, hx3, hx4⟩ := HA.out.mem.live (i := i) (o := { o with pgs := S.g, cnt := S.c }) (updI_same _ _ _)
        simp only at hx1 hx2
        rw [hA] at hx1
        rw [hB] at hx2
        cases hx1
        cases hx2
        have d7 := (ocells hx3).c7
        have halt := lt_of_block hx3
        have hklI : (k : Int) < (ps.length : Int) := by omega
        have hab : a ≠ pb := HA.out.mem.aB hA hB
        have hpbs : wr.heap.size ≠ pb := fun e => by have := IMap.lt hx4; omega
        have hflt : ∀ j, F j → j < wr.heap.size := fun j hj => HA.out.mem.pool.lt hj
        obtain ⟨pg, pat, pn⟩ := p
        simp only at e0 e1 e2 hpg1
        obtain ⟨W1, hW1⟩ : ∃ W1, W1 = (wr.alloc (.cells #[.int .i64 (pg : Int), .int .i64 (pat : Int), .int .i64 (pn : Int)] 97)).drew := ⟨_, rfl⟩
        have tW : Turn NoBlock wr W1 := by rw [hW1]; exact ((Turn.refl _ _).alloc _).drew
        have E7 : W1.cell? ⟨a, 7, none⟩ = some (.map (some pb)) := tW.cell d7 (fun h => h)
        have E0 : W1.cell? ⟨wr.heap.size, 0, none⟩ = some (.int .i64 (pg : Int)) := by
          rw [hW1]
          exact cell_at (heap_alloc_new wr (.cells #[.int .i64 (pg : Int), .int .i64 (pat : Int), .int .i64 (pn : Int)] 97)) 0
        have HO := Lib.hid (show Calls Try.prog 68 #[.pointer (some ⟨s, 0, none⟩), .pointer (some ⟨a, 0, none⟩), .int .i64 pg] W1 fun e w5 => e = .returned (.int .i64 (pgV S pg)) ∧ w5.cell? ⟨a, 7, none⟩ = some (.map (some pb)) ∧ w5.cell? ⟨wr.heap.size, 0, none⟩ = some (.int .i64 (pg : Int)) ∧
            ∃ w6, Sem.run Try.prog (Instr.mapUpdate 86 (.map (some pb)) (.int .i64 pg) (.int .i64 (pgV S pg))) w5 = .ok () w6 ∧ w6.cell? ⟨a, 7, none⟩ = some (.map (some pb)) ∧ w6.cell? ⟨wr.heap.size, 0, none⟩ = some (.int .i64 (pg : Int)) ∧ Hid (∃ F', CIn w w6 s r M i o (.slice (some ⟨gb, 0, none⟩) ps.length cap) ps F' (commit1 S pg) (k + 1)) from by
          refine (own8_any (HA.out.mem.past tW) (i := i) (o := { o with pgs := S.g, cnt := S.c }) (updI_same _ _ _) hA hB HA.out.few pg hpg1).mono ?_
          rintro e w5 ⟨rfl, F', m5, t5, f5⟩
          obtain ⟨y7, w6, hrun, t6, hC⟩ := commit_step HA.out tW hA hB hp hpg1 (by omega) m5 t5 f5
          have z0 := t5.cell E0 (fun hF => absurd (hflt _ hF) (Nat.lt_irrefl _))
          exact ⟨rfl, y7, z0, w6, hrun, t6.cell y7 hab, t6.cell z0 hpbs, F', hC⟩)
        clear hA hB hps hpg hc hp hkl hx3 hx4 hpg1 hflt tW
        go_wp2_with fail
        go_region_held3 (fun w' => w'.cell? ⟨a, 7, none⟩ = some (.map (some pb)) ∧ w'.cell? ⟨wr.heap.size, 0, none⟩ = some (.int .i64 (pg : Int))) ((refine ⟨?_, ?_⟩ <;> (first | assumption | (rw [← hW1]; assumption))))
          (first
            | (go_at_call 68; rw [← hW1]; (with_reducible refine HO.out.mono ?_); rintro e w5 ⟨rfl, z7, z0, w6, hrun, y7, y0, K6⟩))
        all_goals
          go_wp2
          go_roundg (ps.length - (k + 1))
          case measure => omega
          case rel =>
            obtain ⟨F', hC⟩ := K6.out
            exact ⟨k + 1, F', _, rfl, by omega, by go_num, hC⟩
      · obtain rfl : k = ps.length := by omega
        go_wp2
        go_ret
        have hC := HA.out
        have e := hC.eq
        rw [List.take_of_length_le (Nat.le_refl _)] at e
        rw [← e]
        exact ⟨rfl, F, hC⟩
end
end Go.Proofs.Ytdhbhigoboamfaa
