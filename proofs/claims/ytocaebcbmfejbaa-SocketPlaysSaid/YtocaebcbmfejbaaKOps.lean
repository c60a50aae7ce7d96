/-
  What New, Shut, Close, Len, Pieces, Open and Shows answer, and what they make of the socket. No conditions but that the socket is one that calls can make.
-/
import Derived.Test.YtocaebcbmfejbaaKWrite
namespace Go.Proofs.Ytocaebcbmfejbaa
open Go.ChangeShapes Go.WideShapes Go.ChangeAt Go.RowKit

theorem knew_no (dg : Bool) (d : Int) (w : World) (h : d < 1 ∨ 1048576 < d) : Calls Try.prog 22 #[.bool dg, .int .i64 d] w fun x w' => x = .returned (.pointer none) ∧ w = w' := by
  have h2 : d < 1 ∨ (¬ d < 1 ∧ 1048576 < d) := by omega
  rcases h2 with h1 | ⟨h1, h2⟩
  all_goals
    clear h
    go_enter Try.func22, Try.ntmps22
    go_wp2
    go_ret
    exact ⟨rfl, rfl⟩
theorem knew_yes (dg : Bool) (d : Nat) (w : World) (h1 : 1 ≤ d) (h2 : d ≤ 1048576) : Calls Try.prog 22 #[.bool dg, .int .i64 (d : Int)] w fun x w' => x = .returned (.pointer (some ⟨w.heap.size, 0, none⟩)) ∧
    KSt w w' w.heap.size dg d (fun _ => En.new) NoBlock := by
  have g1 : ¬ (d : Int) < 1 := by omega
  have g2 : ¬ (1048576 : Int) < d := by omega
  have H := Lib.hid (And.intro h1 h2)
  clear h1 h2
  go_enter Try.func22, Try.ntmps22
  go_wp2
  go_ret
  refine ⟨rfl, fun _ => EV.cl, ?_, (Turn.refl _ _).alloc _, fun k hk => ?_, fun k hk => hk.elim⟩
  · have h0 := heap_alloc_new w (.cells #[.bool dg, .int .i64 d, .bool true, .bool false, .bool false, .slice none 0 0, .slice none 0 0, .bool true, .bool false, .bool false, .slice none 0 0, .slice none 0 0] 125)
    have hc := fun j => cell_at h0 j
    refine ⟨hc 0, hc 1, fun e he => ?_, fun k hk => (blk_nil k hk).elim, fun k hk => (blk_nil k hk).elim, H.out.1, H.out.2, fun e he => ⟨Nat.zero_le _, fun _ => rfl, (fun _ x hx => by cases hx), fun _ => rfl, (fun h => by cases h)⟩⟩
    have h2 : e = 0 ∨ e = 1 := by omega
    rcases h2 with rfl | rfl
    · exact ⟨⟨_, h0⟩, hc 2, hc 3, hc 4, hc 5, hc 6, byts_nil _, nums_nil _⟩
    · exact ⟨⟨_, h0⟩, hc 7, hc 8, hc 9, hc 10, hc 11, byts_nil _, nums_nil _⟩
  · rcases hk with rfl | ⟨e, he, hk | hk⟩
    · exact Nat.le_refl _
    · exact (blk_nil k hk).elim
    · exact (blk_nil k hk).elim
section
variable (c : Nat) (e : Int) (w : World) (h0 : e ≠ 0) (h1 : e ≠ 1)
include h0 h1
theorem kshut_bad (a b : Bool) : Calls Try.prog 30 #[.pointer (some ⟨c, 0, none⟩), .int .i64 e, .bool a, .bool b] w fun x w' => x = .returned (.int .i64 (-10)) ∧ w = w' := by
  have cR := kright_bad c e w h0 h1
  clear h0 h1
  go_enter Try.func30, Try.ntmps30
  go_wp2_with (go_at_call 71; (with_reducible refine cR.mono ?_); rintro x w' ⟨rfl, rfl⟩)
  go_ret
  exact ⟨rfl, rfl⟩
theorem kclose_bad : Calls Try.prog 31 #[.pointer (some ⟨c, 0, none⟩), .int .i64 e] w fun x w' => x = .returned (.int .i64 (-10)) ∧ w = w' := by
  have cR := kright_bad c e w h0 h1
  clear h0 h1
  go_enter Try.func31, Try.ntmps31
  go_wp2_with (go_at_call 71; (with_reducible refine cR.mono ?_); rintro x w' ⟨rfl, rfl⟩)
  go_ret
  exact ⟨rfl, rfl⟩
theorem klen_bad : Calls Try.prog 32 #[.pointer (some ⟨c, 0, none⟩), .int .i64 e] w fun x w' => x = .returned (.int .i64 0) ∧ w = w' := by
  have cR := kright_bad c e w h0 h1
  clear h0 h1
  go_enter Try.func32, Try.ntmps32
  go_wp2_with (go_at_call 71; (with_reducible refine cR.mono ?_); rintro x w' ⟨rfl, rfl⟩)
  go_ret
  exact ⟨rfl, rfl⟩
theorem kpieces_bad : Calls Try.prog 34 #[.pointer (some ⟨c, 0, none⟩), .int .i64 e] w fun x w' => x = .returned (.int .i64 0) ∧ w = w' := by
  have cR := kright_bad c e w h0 h1
  clear h0 h1
  go_enter Try.func34, Try.ntmps34
  go_wp2_with (go_at_call 71; (with_reducible refine cR.mono ?_); rintro x w' ⟨rfl, rfl⟩)
  go_ret
  exact ⟨rfl, rfl⟩
theorem kopen_bad : Calls Try.prog 35 #[.pointer (some ⟨c, 0, none⟩), .int .i64 e] w fun x w' => x = .returned (.bool false) ∧ w = w' := by
  have cR := kright_bad c e w h0 h1
  clear h0 h1
  go_enter Try.func35, Try.ntmps35
  go_wp2_with (go_at_call 71; (with_reducible refine cR.mono ?_); rintro x w' ⟨rfl, rfl⟩)
  go_ret
  exact ⟨rfl, rfl⟩
theorem kshows_bad : Calls Try.prog 36 #[.pointer (some ⟨c, 0, none⟩), .int .i64 e] w fun x w' => x = .returned (.int .i64 0) ∧ w = w' := by
  have cR := kright_bad c e w h0 h1
  clear h0 h1
  go_enter Try.func36, Try.ntmps36
  go_wp2_with (go_at_call 71; (with_reducible refine cR.mono ?_); rintro x w' ⟨rfl, rfl⟩)
  go_ret
  exact ⟨rfl, rfl⟩
end
/-- What an end shows. -/
def shE (room : Nat) (a b : En) : Int := if a.op = false then 0 else (if a.b.length = 0 then 0 else 1) + (if b.op = false then 4 else if wayS a b = 0 ∧ b.b.length < room then 2 else 0)
def clE (s : En) (a b : Bool) : En := { s with nw := s.nw || a, nr := s.nr || b }
section
variable {w : World} {c room : Nat} {dg : Bool} {K : Nat → En} {V : Nat → EV}
theorem klen0 (h : KMem w c dg room K V) : Calls Try.prog 32 #[.pointer (some ⟨c, 0, none⟩), .int .i64 0] w fun x w' => x = .returned (.int .i64 ((K 0).b.length : Nat)) ∧ w = w' := by
  cases ho : (K 0).op with
  | false =>
    have cR := kright_no0 h ho
    rw [(h.ok 0 (by omega)).cl ho]
    clear h ho
    go_enter Try.func32, Try.ntmps32
    go_wp2_with (go_at_call 71; (with_reducible refine cR.mono ?_); rintro x w' ⟨rfl, rfl⟩)
    go_ret
    exact ⟨rfl, rfl⟩
  | true =>
    have cR := kright_yes0 h ho
    obtain ⟨p, pc, hp⟩ := (h.s 0 (by omega)).rowB.sl
    have c3 : w.cell? ⟨c, 5, none⟩ = some (V 0).b := (h.s 0 (by omega)).c3
    rw [hp] at c3
    clear h ho hp
    generalize (K 0).b.length = n at *
    go_enter Try.func32, Try.ntmps32
    go_wp2_with (go_at_call 71; (with_reducible refine cR.mono ?_); rintro x w' ⟨rfl, rfl⟩)
    go_ret
    exact ⟨rfl, rfl⟩
theorem kpieces0 (h : KMem w c dg room K V) : Calls Try.prog 34 #[.pointer (some ⟨c, 0, none⟩), .int .i64 0] w fun x w' => x = .returned (.int .i64 ((K 0).p.length : Nat)) ∧ w = w' := by
  cases ho : (K 0).op with
  | false =>
    have cR := kright_no0 h ho
    rw [(h.ok 0 (by omega)).cl ho]
    clear h ho
    go_enter Try.func34, Try.ntmps34
    go_wp2_with (go_at_call 71; (with_reducible refine cR.mono ?_); rintro x w' ⟨rfl, rfl⟩)
    go_ret
    exact ⟨rfl, rfl⟩
  | true =>
    have cR := kright_yes0 h ho
    obtain ⟨p, pc, hp⟩ := (h.s 0 (by omega)).rowP.sl
    have c3 : w.cell? ⟨c, 6, none⟩ = some (V 0).p := (h.s 0 (by omega)).c4
    rw [hp, pints_len] at c3
    clear h ho hp
    generalize (K 0).p.length = n at *
    go_enter Try.func34, Try.ntmps34
    go_wp2_with (go_at_call 71; (with_reducible refine cR.mono ?_); rintro x w' ⟨rfl, rfl⟩)
    go_ret
    exact ⟨rfl, rfl⟩
theorem kopen0 (h : KMem w c dg room K V) : Calls Try.prog 35 #[.pointer (some ⟨c, 0, none⟩), .int .i64 0] w fun x w' => x = .returned (.bool (K 0).op) ∧ w = w' := by
  cases ho : (K 0).op with
  | false =>
    have cR := kright_no0 h ho
    clear h ho
    go_enter Try.func35, Try.ntmps35
    go_wp2_with (go_at_call 71; (with_reducible refine cR.mono ?_); rintro x w' ⟨rfl, rfl⟩)
    go_ret
    exact ⟨rfl, rfl⟩
  | true =>
    have cR := kright_yes0 h ho
    clear h ho
    go_enter Try.func35, Try.ntmps35
    go_wp2_with (go_at_call 71; (with_reducible refine cR.mono ?_); rintro x w' ⟨rfl, rfl⟩)
    go_ret
    exact ⟨rfl, rfl⟩
theorem kshut_no0 (h : KMem w c dg room K V) (ho : (K 0).op = false) (a b : Bool) : Calls Try.prog 30 #[.pointer (some ⟨c, 0, none⟩), .int .i64 0, .bool a, .bool b] w fun x w' => x = .returned (.int .i64 (-24)) ∧ w = w' := by
  have cR := kright_no0 h ho
  clear h ho
  go_enter Try.func30, Try.ntmps30
  go_wp2_with (go_at_call 71; (with_reducible refine cR.mono ?_); rintro x w' ⟨rfl, rfl⟩)
  go_ret
  exact ⟨rfl, rfl⟩
theorem kclose_no0 (h : KMem w c dg room K V) (ho : (K 0).op = false) : Calls Try.prog 31 #[.pointer (some ⟨c, 0, none⟩), .int .i64 0] w fun x w' => x = .returned (.int .i64 (-24)) ∧ w = w' := by
  have cR := kright_no0 h ho
  clear h ho
  go_enter Try.func31, Try.ntmps31
  go_wp2_with (go_at_call 71; (with_reducible refine cR.mono ?_); rintro x w' ⟨rfl, rfl⟩)
  go_ret
  exact ⟨rfl, rfl⟩
set_option maxHeartbeats 1000000 in
theorem kshut0 (h : KMem w c dg room K V) (ho : (K 0).op = true) (a b : Bool) : Calls Try.prog 30 #[.pointer (some ⟨c, 0, none⟩), .int .i64 0, .bool a, .bool b] w fun x w' => x = .returned (.int .i64 0) ∧ KMade w w' c dg room V (updN K 0 (clE (K 0) a b)) := by
  have cR := kright_yes0 h ho
  have EA := h.s 0 (by omega)
  have c1 : w.cell? ⟨c, 3, none⟩ = some (.bool (K 0).nw) := EA.c1
  have c2 : w.cell? ⟨c, 4, none⟩ = some (.bool (K 0).nr) := EA.c2
  have f1 := EA.f (2 + 1)
  have f2 := EA.f (2 + 2)
  simp only [Nat.reduceAdd] at f1 f2
  have st1 := EA.setNw ((K 0).nw || a)
  have st := st1.trans (st1.at'.setNr ((K 0).nr || b))
  have hok := h.ok 0 (by omega)
  have HM := Lib.hid (h.step (e := 0) (by omega) st (show EOK dg room (clE (K 0) a b) from ⟨hok.len, hok.sum, hok.pos, hok.no, fun hc => by rw [show (clE (K 0) a b).op = (K 0).op from rfl, ho] at hc; cases hc⟩))
  unfold clE
  unfold clE at HM
  clear h ho EA st1 st hok
  generalize hx : (K 0).nw = x at *
  generalize hy : (K 0).nr = y at *
  have HX := Lib.hid (And.intro hx hy)
  clear hx hy
  cases x <;> cases y
  all_goals
    go_enter Try.func30, Try.ntmps30
    go_wp2_with (go_at_call 71; (with_reducible refine cR.mono ?_); rintro x w' ⟨rfl, rfl⟩)
    go_ret
    exact ⟨rfl, HM.out⟩
set_option maxHeartbeats 1000000 in
theorem kclose0 (h : KMem w c dg room K V) (ho : (K 0).op = true) : Calls Try.prog 31 #[.pointer (some ⟨c, 0, none⟩), .int .i64 0] w fun x w' => x = .returned (.int .i64 0) ∧ KMade w w' c dg room V (updN K 0 En.cl) := by
  have cR := kright_yes0 h ho
  have EA := h.s 0 (by omega)
  have c0 : w.cell? ⟨c, 2, none⟩ = some (.bool (K 0).op) := EA.c0
  have c1 : w.cell? ⟨c, 3, none⟩ = some (.bool (K 0).nw) := EA.c1
  have c2 : w.cell? ⟨c, 4, none⟩ = some (.bool (K 0).nr) := EA.c2
  have c3 : w.cell? ⟨c, 5, none⟩ = some (V 0).b := EA.c3
  have c4 : w.cell? ⟨c, 6, none⟩ = some (V 0).p := EA.c4
  have f0 := EA.f (2 + 0)
  have f1 := EA.f (2 + 1)
  have f2 := EA.f (2 + 2)
  have f3 := EA.f (2 + 3)
  have f4 := EA.f (2 + 4)
  simp only [Nat.reduceAdd] at f0 f1 f2 f3 f4
  have st1 := EA.setOp false
  have st2 := st1.trans (st1.at'.setNw false)
  have st3 := st2.trans (st2.at'.setNr false)
  have st4 := st3.trans (st3.at'.putB (b := []) (Turn.refl _ _) (byts_nil _) (fun k hk => (blk_nil k hk).elim))
  have st5 := st4.trans (st4.at'.putP (p := []) (Turn.refl _ _) (nums_nil _) (fun k hk => (blk_nil k hk).elim))
  have HM := Lib.hid (h.step (e := 0) (by omega) st5 (show EOK dg room En.cl from ⟨Nat.zero_le _, fun _ => rfl, (fun _ x hx => by cases hx), fun _ => rfl, fun _ => rfl⟩))
  clear h ho EA st1 st2 st3 st4 st5
  go_enter Try.func31, Try.ntmps31
  go_wp2_with (go_at_call 71; (with_reducible refine cR.mono ?_); rintro x w' ⟨rfl, rfl⟩)
  go_ret
  exact ⟨rfl, HM.out⟩
set_option maxHeartbeats 1000000 in
theorem kshows0 (h : KMem w c dg room K V) : Calls Try.prog 36 #[.pointer (some ⟨c, 0, none⟩), .int .i64 0] w fun x w' => x = .returned (.int .i64 (shE room (K 0) (K 1))) ∧ Turn NoBlock w w' := by
  cases ho : (K 0).op with
  | false =>
    have cR := kright_no0 h ho
    have e1 : shE room (K 0) (K 1) = 0 := by unfold shE; rw [if_pos ho]
    rw [e1]
    clear h ho e1
    go_enter Try.func36, Try.ntmps36
    go_wp2_with (go_at_call 71; (with_reducible refine cR.mono ?_); rintro x w' ⟨rfl, rfl⟩)
    go_ret
    exact ⟨rfl, Turn.refl _ _⟩
  | true =>
    have cR := Lib.hid (kright_yes0 h ho)
    have HW := kway0 h
    have HF := Lib.hid (fun W (t : Turn NoBlock w W) => kfree0 (h.past t))
    have CO := Lib.hid (fun w => kother0 w)
    obtain ⟨p, pc, hp⟩ := (h.s 0 (by omega)).rowB.sl
    have c3 : w.cell? ⟨c, 5, none⟩ = some (V 0).b := (h.s 0 (by omega)).c3
    rw [hp] at c3
    have c0 : w.cell? ⟨c, 7, none⟩ = some (.bool (K 1).op) := (h.s 1 (by omega)).c0
    have cl := (h.s 0 (by omega)).typ.lt
    have hl1 := (h.ok 1 (by omega)).len
    have hl0 := (h.ok 0 (by omega)).len
    have hr2 := h.r2
    have e1 : shE room (K 0) (K 1) = (if (K 0).b.length = 0 then 0 else 1) + (if (K 1).op = false then 4 else if wayS (K 0) (K 1) = 0 ∧ (K 1).b.length < room then 2 else 0) := by unfold shE; rw [if_neg (by rw [ho]; simp)]
    rw [e1]
    have hcase : (wayS (K 0) (K 1) = -24 ∧ (K 1).op = false) ∨ (wayS (K 0) (K 1) = -20 ∧ (K 1).op = true) ∨ (wayS (K 0) (K 1) = 0 ∧ (K 1).op = true ∧ (K 1).b.length < room) ∨ (wayS (K 0) (K 1) = 0 ∧ (K 1).op = true ∧ (K 1).b.length = room) := by
      rcases wayS_any (K 0) (K 1) with h1 | h1 | h1
      · left; refine ⟨h1.1, ?_⟩; rcases h1.2 with h2 | h2
        · rw [ho] at h2; cases h2
        · exact h2
      · right; left; exact ⟨h1.1, h1.2.2.1⟩
      · right; right
        by_cases h2 : (K 1).b.length < room
        · left; exact ⟨h1.1, h1.2.2.1, h2⟩
        · right; exact ⟨h1.1, h1.2.2.1, by omega⟩
    have hcb : (K 0).b.length = 0 ∨ 0 < (K 0).b.length := by omega
    generalize hu : ((if (K 0).b.length = 0 then 0 else 1) + (if (K 1).op = false then 4 else if wayS (K 0) (K 1) = 0 ∧ (K 1).b.length < room then 2 else 0) : Int) = u at *
    clear h ho hp e1
    generalize wayS (K 0) (K 1) = v at *
    generalize (K 1).op = d at *
    generalize (K 1).b.length = y at *
    generalize (K 0).b.length = x at *
    rcases hcase with ⟨rfl, rfl⟩ | ⟨rfl, rfl⟩ | ⟨rfl, rfl, h2⟩ | ⟨rfl, rfl, h2⟩ <;> rcases hcb with h4 | h4
    all_goals
      have hx : (x : Int) ≤ 1048576 := by omega
      have hfr : 0 ≤ (room : Int) - (y : Int) := by omega
      first
        | (have hfp : (0 : Int) < (room : Int) - (y : Int) := by omega)
        | (have hfp : ¬ (0 : Int) < (room : Int) - (y : Int) := by omega)
        | skip
      first
        | (have hxp : (0 : Int) < (x : Int) := by omega)
        | (have hxp : ¬ (0 : Int) < (x : Int) := by omega)
      first
        | (have hx0 : x = 0 := by omega
           have hyr : ¬ y < room := by omega
           simp [hx0, hyr] at hu)
        | (have hx0 : ¬ x = 0 := by omega
           have hyr : ¬ y < room := by omega
           simp [hx0, hyr] at hu)
        | (have hx0 : x = 0 := by omega
           have hyr : y < room := by omega
           simp [hx0, hyr] at hu)
        | (have hx0 : ¬ x = 0 := by omega
           have hyr : y < room := by omega
           simp [hx0, hyr] at hu)
        | (have hx0 : x = 0 := by omega
           simp [hx0] at hu)
        | (have hx0 : ¬ x = 0 := by omega
           simp [hx0] at hu)
      subst hu
      have HWh := Lib.hid HW
      clear HW hl0 hl1 hr2 hfr
      first | clear h4 | skip
      go_enter Try.func36, Try.ntmps36
      go_wp2_with (first
        | (go_at_call 71; (with_reducible refine cR.out.mono ?_); rintro x w' ⟨rfl, rfl⟩)
        | (go_at_call 72; (with_reducible refine HWh.out.mono ?_); rintro x w' ⟨rfl, n2, rfl⟩)
        | (go_at_call 79; (with_reducible refine (HF.out _ ((Turn.refl _ _).drewN _)).mono ?_); rintro x w' ⟨rfl, n3, rfl⟩))
      first
        | (have cq : w.cell? ⟨c, 7, none⟩ = some (.bool false) := c0
           go_region_held3 (fun w' => w'.cell? ⟨c, 7, none⟩ = some (.bool false)) (first | exact c0) (first | (go_at_call 74; (with_reducible refine (CO.out _).mono ?_); rintro x w2 ⟨rfl, rfl⟩)))
        | (have cq : w.cell? ⟨c, 7, none⟩ = some (.bool true) := c0
           go_region_held3 (fun w' => w'.cell? ⟨c, 7, none⟩ = some (.bool true)) (first | exact c0) (first | (go_at_call 74; (with_reducible refine (CO.out _).mono ?_); rintro x w2 ⟨rfl, rfl⟩)))
      go_wp2
      go_ret
      exact ⟨rfl, (Turn.refl _ _).drewN _⟩
theorem klen1 (h : KMem w c dg room K V) : Calls Try.prog 32 #[.pointer (some ⟨c, 0, none⟩), .int .i64 1] w fun x w' => x = .returned (.int .i64 ((K 1).b.length : Nat)) ∧ w = w' := by
  cases ho : (K 1).op with
  | false =>
    have cR := kright_no1 h ho
    rw [(h.ok 1 (by omega)).cl ho]
    clear h ho
    go_enter Try.func32, Try.ntmps32
    go_wp2_with (go_at_call 71; (with_reducible refine cR.mono ?_); rintro x w' ⟨rfl, rfl⟩)
    go_ret
    exact ⟨rfl, rfl⟩
  | true =>
    have cR := kright_yes1 h ho
    obtain ⟨p, pc, hp⟩ := (h.s 1 (by omega)).rowB.sl
    have c3 : w.cell? ⟨c, 10, none⟩ = some (V 1).b := (h.s 1 (by omega)).c3
    rw [hp] at c3
    clear h ho hp
    generalize (K 1).b.length = n at *
    go_enter Try.func32, Try.ntmps32
    go_wp2_with (go_at_call 71; (with_reducible refine cR.mono ?_); rintro x w' ⟨rfl, rfl⟩)
    go_ret
    exact ⟨rfl, rfl⟩
theorem kpieces1 (h : KMem w c dg room K V) : Calls Try.prog 34 #[.pointer (some ⟨c, 0, none⟩), .int .i64 1] w fun x w' => x = .returned (.int .i64 ((K 1).p.length : Nat)) ∧ w = w' := by
  cases ho : (K 1).op with
  | false =>
    have cR := kright_no1 h ho
    rw [(h.ok 1 (by omega)).cl ho]
    clear h ho
    go_enter Try.func34, Try.ntmps34
    go_wp2_with (go_at_call 71; (with_reducible refine cR.mono ?_); rintro x w' ⟨rfl, rfl⟩)
    go_ret
    exact ⟨rfl, rfl⟩
  | true =>
    have cR := kright_yes1 h ho
    obtain ⟨p, pc, hp⟩ := (h.s 1 (by omega)).rowP.sl
    have c3 : w.cell? ⟨c, 11, none⟩ = some (V 1).p := (h.s 1 (by omega)).c4
    rw [hp, pints_len] at c3
    clear h ho hp
    generalize (K 1).p.length = n at *
    go_enter Try.func34, Try.ntmps34
    go_wp2_with (go_at_call 71; (with_reducible refine cR.mono ?_); rintro x w' ⟨rfl, rfl⟩)
    go_ret
    exact ⟨rfl, rfl⟩
theorem kopen1 (h : KMem w c dg room K V) : Calls Try.prog 35 #[.pointer (some ⟨c, 0, none⟩), .int .i64 1] w fun x w' => x = .returned (.bool (K 1).op) ∧ w = w' := by
  cases ho : (K 1).op with
  | false =>
    have cR := kright_no1 h ho
    clear h ho
    go_enter Try.func35, Try.ntmps35
    go_wp2_with (go_at_call 71; (with_reducible refine cR.mono ?_); rintro x w' ⟨rfl, rfl⟩)
    go_ret
    exact ⟨rfl, rfl⟩
  | true =>
    have cR := kright_yes1 h ho
    clear h ho
    go_enter Try.func35, Try.ntmps35
    go_wp2_with (go_at_call 71; (with_reducible refine cR.mono ?_); rintro x w' ⟨rfl, rfl⟩)
    go_ret
    exact ⟨rfl, rfl⟩
theorem kshut_no1 (h : KMem w c dg room K V) (ho : (K 1).op = false) (a b : Bool) : Calls Try.prog 30 #[.pointer (some ⟨c, 0, none⟩), .int .i64 1, .bool a, .bool b] w fun x w' => x = .returned (.int .i64 (-24)) ∧ w = w' := by
  have cR := kright_no1 h ho
  clear h ho
  go_enter Try.func30, Try.ntmps30
  go_wp2_with (go_at_call 71; (with_reducible refine cR.mono ?_); rintro x w' ⟨rfl, rfl⟩)
  go_ret
  exact ⟨rfl, rfl⟩
theorem kclose_no1 (h : KMem w c dg room K V) (ho : (K 1).op = false) : Calls Try.prog 31 #[.pointer (some ⟨c, 0, none⟩), .int .i64 1] w fun x w' => x = .returned (.int .i64 (-24)) ∧ w = w' := by
  have cR := kright_no1 h ho
  clear h ho
  go_enter Try.func31, Try.ntmps31
  go_wp2_with (go_at_call 71; (with_reducible refine cR.mono ?_); rintro x w' ⟨rfl, rfl⟩)
  go_ret
  exact ⟨rfl, rfl⟩
set_option maxHeartbeats 1000000 in
theorem kshut1 (h : KMem w c dg room K V) (ho : (K 1).op = true) (a b : Bool) : Calls Try.prog 30 #[.pointer (some ⟨c, 0, none⟩), .int .i64 1, .bool a, .bool b] w fun x w' => x = .returned (.int .i64 0) ∧ KMade w w' c dg room V (updN K 1 (clE (K 1) a b)) := by
  have cR := kright_yes1 h ho
  have EA := h.s 1 (by omega)
  have c1 : w.cell? ⟨c, 8, none⟩ = some (.bool (K 1).nw) := EA.c1
  have c2 : w.cell? ⟨c, 9, none⟩ = some (.bool (K 1).nr) := EA.c2
  have f1 := EA.f (7 + 1)
  have f2 := EA.f (7 + 2)
  simp only [Nat.reduceAdd] at f1 f2
  have st1 := EA.setNw ((K 1).nw || a)
  have st := st1.trans (st1.at'.setNr ((K 1).nr || b))
  have hok := h.ok 1 (by omega)
  have HM := Lib.hid (h.step (e := 1) (by omega) st (show EOK dg room (clE (K 1) a b) from ⟨hok.len, hok.sum, hok.pos, hok.no, fun hc => by rw [show (clE (K 1) a b).op = (K 1).op from rfl, ho] at hc; cases hc⟩))
  unfold clE
  unfold clE at HM
  clear h ho EA st1 st hok
  generalize hx : (K 1).nw = x at *
  generalize hy : (K 1).nr = y at *
  have HX := Lib.hid (And.intro hx hy)
  clear hx hy
  cases x <;> cases y
  all_goals
    go_enter Try.func30, Try.ntmps30
    go_wp2_with (go_at_call 71; (with_reducible refine cR.mono ?_); rintro x w' ⟨rfl, rfl⟩)
    go_ret
    exact ⟨rfl, HM.out⟩
set_option maxHeartbeats 1000000 in
theorem kclose1 (h : KMem w c dg room K V) (ho : (K 1).op = true) : Calls Try.prog 31 #[.pointer (some ⟨c, 0, none⟩), .int .i64 1] w fun x w' => x = .returned (.int .i64 0) ∧ KMade w w' c dg room V (updN K 1 En.cl) := by
  have cR := kright_yes1 h ho
  have EA := h.s 1 (by omega)
  have c0 : w.cell? ⟨c, 7, none⟩ = some (.bool (K 1).op) := EA.c0
  have c1 : w.cell? ⟨c, 8, none⟩ = some (.bool (K 1).nw) := EA.c1
  have c2 : w.cell? ⟨c, 9, none⟩ = some (.bool (K 1).nr) := EA.c2
  have c3 : w.cell? ⟨c, 10, none⟩ = some (V 1).b := EA.c3
  have c4 : w.cell? ⟨c, 11, none⟩ = some (V 1).p := EA.c4
  have f0 := EA.f (7 + 0)
  have f1 := EA.f (7 + 1)
  have f2 := EA.f (7 + 2)
  have f3 := EA.f (7 + 3)
  have f4 := EA.f (7 + 4)
  simp only [Nat.reduceAdd] at f0 f1 f2 f3 f4
  have st1 := EA.setOp false
  have st2 := st1.trans (st1.at'.setNw false)
  have st3 := st2.trans (st2.at'.setNr false)
  have st4 := st3.trans (st3.at'.putB (b := []) (Turn.refl _ _) (byts_nil _) (fun k hk => (blk_nil k hk).elim))
  have st5 := st4.trans (st4.at'.putP (p := []) (Turn.refl _ _) (nums_nil _) (fun k hk => (blk_nil k hk).elim))
  have HM := Lib.hid (h.step (e := 1) (by omega) st5 (show EOK dg room En.cl from ⟨Nat.zero_le _, fun _ => rfl, (fun _ x hx => by cases hx), fun _ => rfl, fun _ => rfl⟩))
  clear h ho EA st1 st2 st3 st4 st5
  go_enter Try.func31, Try.ntmps31
  go_wp2_with (go_at_call 71; (with_reducible refine cR.mono ?_); rintro x w' ⟨rfl, rfl⟩)
  go_ret
  exact ⟨rfl, HM.out⟩
set_option maxHeartbeats 1000000 in
theorem kshows1 (h : KMem w c dg room K V) : Calls Try.prog 36 #[.pointer (some ⟨c, 0, none⟩), .int .i64 1] w fun x w' => x = .returned (.int .i64 (shE room (K 1) (K 0))) ∧ Turn NoBlock w w' := by
  cases ho : (K 1).op with
  | false =>
    have cR := kright_no1 h ho
    have e1 : shE room (K 1) (K 0) = 0 := by unfold shE; rw [if_pos ho]
    rw [e1]
    clear h ho e1
    go_enter Try.func36, Try.ntmps36
    go_wp2_with (go_at_call 71; (with_reducible refine cR.mono ?_); rintro x w' ⟨rfl, rfl⟩)
    go_ret
    exact ⟨rfl, Turn.refl _ _⟩
  | true =>
    have cR := Lib.hid (kright_yes1 h ho)
    have HW := kway1 h
    have HF := Lib.hid (fun W (t : Turn NoBlock w W) => kfree1 (h.past t))
    have CO := Lib.hid (fun w => kother1 w)
    obtain ⟨p, pc, hp⟩ := (h.s 1 (by omega)).rowB.sl
    have c3 : w.cell? ⟨c, 10, none⟩ = some (V 1).b := (h.s 1 (by omega)).c3
    rw [hp] at c3
    have c0 : w.cell? ⟨c, 2, none⟩ = some (.bool (K 0).op) := (h.s 0 (by omega)).c0
    have cl := (h.s 0 (by omega)).typ.lt
    have hl1 := (h.ok 0 (by omega)).len
    have hl0 := (h.ok 1 (by omega)).len
    have hr2 := h.r2
    have e1 : shE room (K 1) (K 0) = (if (K 1).b.length = 0 then 0 else 1) + (if (K 0).op = false then 4 else if wayS (K 1) (K 0) = 0 ∧ (K 0).b.length < room then 2 else 0) := by unfold shE; rw [if_neg (by rw [ho]; simp)]
    rw [e1]
    have hcase : (wayS (K 1) (K 0) = -24 ∧ (K 0).op = false) ∨ (wayS (K 1) (K 0) = -20 ∧ (K 0).op = true) ∨ (wayS (K 1) (K 0) = 0 ∧ (K 0).op = true ∧ (K 0).b.length < room) ∨ (wayS (K 1) (K 0) = 0 ∧ (K 0).op = true ∧ (K 0).b.length = room) := by
      rcases wayS_any (K 1) (K 0) with h1 | h1 | h1
      · left; refine ⟨h1.1, ?_⟩; rcases h1.2 with h2 | h2
        · rw [ho] at h2; cases h2
        · exact h2
      · right; left; exact ⟨h1.1, h1.2.2.1⟩
      · right; right
        by_cases h2 : (K 0).b.length < room
        · left; exact ⟨h1.1, h1.2.2.1, h2⟩
        · right; exact ⟨h1.1, h1.2.2.1, by omega⟩
    have hcb : (K 1).b.length = 0 ∨ 0 < (K 1).b.length := by omega
    generalize hu : ((if (K 1).b.length = 0 then 0 else 1) + (if (K 0).op = false then 4 else if wayS (K 1) (K 0) = 0 ∧ (K 0).b.length < room then 2 else 0) : Int) = u at *
    clear h ho hp e1
    generalize wayS (K 1) (K 0) = v at *
    generalize (K 0).op = d at *
    generalize (K 0).b.length = y at *
    generalize (K 1).b.length = x at *
    rcases hcase with ⟨rfl, rfl⟩ | ⟨rfl, rfl⟩ | ⟨rfl, rfl, h2⟩ | ⟨rfl, rfl, h2⟩ <;> rcases hcb with h4 | h4
    all_goals
      have hx : (x : Int) ≤ 1048576 := by omega
      have hfr : 0 ≤ (room : Int) - (y : Int) := by omega
      first
        | (have hfp : (0 : Int) < (room : Int) - (y : Int) := by omega)
        | (have hfp : ¬ (0 : Int) < (room : Int) - (y : Int) := by omega)
        | skip
      first
        | (have hxp : (0 : Int) < (x : Int) := by omega)
        | (have hxp : ¬ (0 : Int) < (x : Int) := by omega)
      first
        | (have hx0 : x = 0 := by omega
           have hyr : ¬ y < room := by omega
           simp [hx0, hyr] at hu)
        | (have hx0 : ¬ x = 0 := by omega
           have hyr : ¬ y < room := by omega
           simp [hx0, hyr] at hu)
        | (have hx0 : x = 0 := by omega
           have hyr : y < room := by omega
           simp [hx0, hyr] at hu)
        | (have hx0 : ¬ x = 0 := by omega
           have hyr : y < room := by omega
           simp [hx0, hyr] at hu)
        | (have hx0 : x = 0 := by omega
           simp [hx0] at hu)
        | (have hx0 : ¬ x = 0 := by omega
           simp [hx0] at hu)
      subst hu
      have HWh := Lib.hid HW
      clear HW hl0 hl1 hr2 hfr
      first | clear h4 | skip
      go_enter Try.func36, Try.ntmps36
      go_wp2_with (first
        | (go_at_call 71; (with_reducible refine cR.out.mono ?_); rintro x w' ⟨rfl, rfl⟩)
        | (go_at_call 72; (with_reducible refine HWh.out.mono ?_); rintro x w' ⟨rfl, n2, rfl⟩)
        | (go_at_call 79; (with_reducible refine (HF.out _ ((Turn.refl _ _).drewN _)).mono ?_); rintro x w' ⟨rfl, n3, rfl⟩))
      first
        | (have cq : w.cell? ⟨c, 2, none⟩ = some (.bool false) := c0
           go_region_held3 (fun w' => w'.cell? ⟨c, 2, none⟩ = some (.bool false)) (first | exact c0) (first | (go_at_call 74; (with_reducible refine (CO.out _).mono ?_); rintro x w2 ⟨rfl, rfl⟩)))
        | (have cq : w.cell? ⟨c, 2, none⟩ = some (.bool true) := c0
           go_region_held3 (fun w' => w'.cell? ⟨c, 2, none⟩ = some (.bool true)) (first | exact c0) (first | (go_at_call 74; (with_reducible refine (CO.out _).mono ?_); rintro x w2 ⟨rfl, rfl⟩)))
      go_wp2
      go_ret
      exact ⟨rfl, (Turn.refl _ _).drewN _⟩
end
end Go.Proofs.Ytocaebcbmfejbaa
