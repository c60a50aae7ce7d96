/-
  SocketRoom's walk.
-/
import Derived.Test.YtpfelgbedeiebaaLawShuts
import Derived.Test.YtpfelgbedeiebaaKView
import Derived.Deep.LoopGhost
namespace Go.Proofs.Ytpfelgbedeiebaa
open Go.ChangeShapes Go.WideShapes Go.ChangeAt Go.RowKit

/-- Behind any calls: so many bytes wait at end 1. -/
def RM (w0 w : World) (c : Nat) (dg : Bool) (room wait : Nat) : Prop :=
  ∃ y : En, KSt w0 w c dg room (PK En.new y) NoBlock ∧ y.op = true ∧ y.nw = false ∧ y.nr = false ∧ y.b.length = wait
theorem RM.turn {w0 w : World} {c room wait : Nat} {dg : Bool} (h : RM w0 w c dg room wait) : Turn NoBlock w0 w := by
  obtain ⟨y, h, -⟩ := h
  exact h.turn
theorem RM.past {w0 w w' : World} {c room wait : Nat} {dg : Bool} (h : RM w0 w c dg room wait) (t : Turn NoBlock w w') : RM w0 w' c dg room wait := by
  obtain ⟨y, h, h1⟩ := h
  exact ⟨y, h.past t, h1⟩
theorem RM.le {w0 w : World} {c room wait : Nat} {dg : Bool} (h : RM w0 w c dg room wait) : wait ≤ room := by
  obtain ⟨y, h, _, _, _, rfl⟩ := h
  exact (h.ok (e := 1) (by omega)).len
section
variable {w0 w : World} {c room wait : Nat} {dg : Bool}
theorem rm_write (h : RM w0 w c dg room wait) (hr2 : room ≤ 2000) (v : Value) (b : List UInt8) (hb : b.length ≤ 3000) (hr : Rk w v b) :
    Calls Try.prog 13 #[.pointer (some ⟨c, 0, none⟩), .int .i64 0, v] w fun e w' => e = .returned (.tuple #[.int .i64 (if fitS dg room (room - wait) b.length = 0 then fitN dg room (room - wait) b.length else 0 : Nat), .int .i64 (fitS dg room (room - wait) b.length)]) ∧ RM w0 w' c dg room (wait + (if fitS dg room (room - wait) b.length = 0 then fitN dg room (room - wait) b.length else 0)) := by
  obtain ⟨y, h, ho, hnw, hnr, rfl⟩ := h
  have hway : wayS (PK En.new y 0) (PK En.new y (oth 0)) = 0 := by
    show wayS En.new y = 0
    unfold wayS
    rw [ho, hnr]
    decide
  have e1 : wrS dg room (PK En.new y) 0 b.length = fitS dg room (room - y.b.length) b.length := by
    unfold wrS
    rw [if_neg (show ¬ (PK En.new y 0).op = false from fun h => by cases h), if_pos hway]
    rfl
  have e2 : wrN dg room (PK En.new y) 0 b.length = if fitS dg room (room - y.b.length) b.length = 0 then fitN dg room (room - y.b.length) b.length else 0 := by
    unfold wrN
    rw [e1]
    rfl
  refine (h.write0 v b (by omega) hr).mono (fun e w' hh => ?_)
  rw [e1, e2] at hh
  refine ⟨hh.1, ?_⟩
  have h3 := hh.2.1
  unfold wrK at h3
  rw [e1, e2] at h3
  have hle := (fit_le (dg := dg) (room := room) (fr := room - y.b.length) (n := b.length) (by omega)).1
  by_cases hs : fitS dg room (room - y.b.length) b.length = 0
  · rw [if_pos hs, if_pos hs] at h3
    rw [if_pos hs]
    refine ⟨wrE dg y (fitN dg room (room - y.b.length) b.length) b, ?_, ho, hnw, hnr, ?_⟩
    · have e3 : updN (PK En.new y) (oth 0) (wrE dg (PK En.new y (oth 0)) (fitN dg room (room - y.b.length) b.length) b) = PK En.new (wrE dg y (fitN dg room (room - y.b.length) b.length) b) := pk_upd1 _ _ _
      rw [e3] at h3
      exact h3
    · show (y.b ++ b.take _).length = _
      rw [List.length_append, List.length_take]
      omega
  · rw [if_neg hs] at h3
    rw [if_neg hs, Nat.add_zero]
    exact ⟨y, h3, ho, hnw, hnr, rfl⟩
theorem rm_len (h : RM w0 w c dg room wait) : Calls Try.prog 20 #[.pointer (some ⟨c, 0, none⟩), .int .i64 1] w fun e w' => e = .returned (.int .i64 (wait : Nat)) ∧ w = w' := by
  obtain ⟨y, h, ho, hnw, hnr, rfl⟩ := h
  exact h.len1
theorem dropE_b {s : En} {dg : Bool} (h : EOK dg room s) (m : Nat) (hm : 1 ≤ m) (h0 : 0 < s.b.length) : (dropE s m).b.length < s.b.length ∧ (dropE s m).op = s.op ∧ (dropE s m).nw = s.nw ∧ (dropE s m).nr = s.nr := by
  cases hp : s.p with
  | nil => rw [dropE_nil hp]; refine ⟨?_, rfl, rfl, rfl⟩; show (s.b.drop m).length < _; rw [List.length_drop]; omega
  | cons x r =>
    rw [dropE_cons hp]
    refine ⟨?_, rfl, rfl, rfl⟩
    show (s.b.drop x).length < _
    rw [List.length_drop]
    have hd : dg = true := by
      cases dg with
      | true => rfl
      | false => have := h.no rfl; rw [hp] at this; cases this
    have := h.pos hd x (by rw [hp]; simp)
    omega
theorem rm_read (h : RM w0 w c dg room wait) (h0 : 0 < wait) :
    Calls Try.prog 16 #[.pointer (some ⟨c, 0, none⟩), .int .i64 1, .int .i64 7, .bool false] w fun e w' => ∃ (p : Option Addr) (n ca wait' : Nat), e = .returned (.tuple #[.slice p n ca, .int .i64 0]) ∧ 0 < n ∧ wait' < wait ∧ RM w0 w' c dg room wait' := by
  obtain ⟨y, h, ho, hnw, hnr, rfl⟩ := h
  have hok := h.ok (e := 1) (by omega)
  have hok' : EOK dg room y := hok
  have hs : rdSt (PK En.new y) 1 7 = 0 := by
    unfold rdSt
    rw [if_neg (show ¬ (PK En.new y 1).op = false by show ¬ y.op = false; rw [ho]; decide), if_neg (by decide), if_neg (show ¬ (PK En.new y 1).b = [] from fun h => by have : y.b = [] := h; rw [this] at h0; simp at h0)]
  have hf1 : 1 ≤ firstN y := by
    unfold firstN
    cases hp : y.p with
    | nil => exact h0
    | cons x r =>
      have hd : dg = true := by
        cases dg with
        | true => rfl
        | false => have := hok'.no rfl; rw [hp] at this; cases this
      exact hok'.pos hd x (by rw [hp]; simp)
  have hm : rdM (PK En.new y) 1 7 = min 7 (firstN y) := rfl
  have hfl := firstN_le hok'
  refine (h.read1 7 false).mono ?_
  rintro e w' ⟨v, rfl, h2, h3, h4, h5⟩
  obtain ⟨p, ca, rfl⟩ := h2.sl
  have hdb := dropE_b hok' (min 7 (firstN y)) (by omega) h0
  refine ⟨p, _, ca, (dropE y (min 7 (firstN y))).b.length, by rw [hs], ?_, hdb.1, dropE y (min 7 (firstN y)), ?_, by rw [hdb.2.1, ho], by rw [hdb.2.2.1, hnw], by rw [hdb.2.2.2, hnr], rfl⟩
  · unfold rdB
    rw [if_pos hs, hm, List.length_take]
    show 0 < min (min 7 (firstN y)) y.b.length
    omega
  · unfold rdK at h3
    rw [if_pos ⟨hs, rfl⟩, hm] at h3
    have e3 : updN (PK En.new y) 1 (dropE (PK En.new y 1) (min 7 (firstN y))) = PK En.new (dropE y (min 7 (firstN y))) := pk_upd1 _ _ _
    rw [e3] at h3
    exact h3.fewer (fun k hk => .inl hk)
end
theorem rm_new {w w' : World} {c room : Nat} {dg : Bool} (h : KSt w w' c dg room (fun _ => En.new) NoBlock) : RM w w' c dg room 0 := by
  rw [pk_new] at h
  exact ⟨En.new, h, rfl, rfl, rfl, rfl⟩
set_option maxRecDepth 20000 in
set_option maxHeartbeats 4000000 in
theorem room_past (dg : Bool) (room : Int) (p : Option Addr) (n ca : Nat) (w : World) (h : (room < 1 ∨ 1048576 < room) ∨ (1 ≤ room ∧ room ≤ 1048576 ∧ (2000 < room ∨ 40 < n))) :
    Calls Try.prog 7 #[.bool dg, .int .i64 room, .slice p n ca] w fun e w' => e = .returned (.bool true) ∧ Turn NoBlock w w' := by
  have cA := Lib.hid awake12
  rcases h with h | ⟨h1, h2, h3⟩
  · have c1 := Lib.hid (knew_no dg room w h)
    have two : room < 1 ∨ (¬ room < 1 ∧ 1048576 < room) := by omega
    clear h
    rcases two with h1 | ⟨h1, h2⟩
    all_goals
      go_enter Try.func7, Try.ntmps7
      go_wp2_with (first
        | (go_at_call 10; (with_reducible refine c1.out.mono ?_); rintro e w1 ⟨rfl, rfl⟩)
        | (go_at_call 11; (with_reducible refine (cA.out _).mono ?_); rintro e w2 ⟨rfl, t2⟩))
      go_ret
      exact ⟨rfl, t2⟩
  · obtain ⟨r, rfl⟩ : ∃ r : Nat, room = r := ⟨room.toNat, by omega⟩
    have c1 := Lib.hid (knew_yes dg r w (by omega) (by omega))
    have two : (2000 : Int) < r ∨ (¬ (2000 : Int) < r ∧ (40 : Int) < n) := by omega
    clear h1 h2 h3
    rcases two with h1 | ⟨h1, h2⟩
    all_goals
      go_enter Try.func7, Try.ntmps7
      go_wp2_with (first
        | (go_at_call 10; (with_reducible refine c1.out.mono ?_); rintro e w1 ⟨rfl, k1⟩; have K1 := Lib.hid k1; clear k1)
        | (go_at_call 11; (with_reducible refine (cA.out _).mono ?_); rintro e w2 ⟨rfl, t2⟩))
      go_ret
      exact ⟨rfl, TT K1.out.turn t2⟩
set_option maxRecDepth 20000 in
set_option maxHeartbeats 4000000 in
theorem room_walk (dg : Bool) (room : Nat) (p : Option Addr) (len ca : Nat) (zs : List Int) (w : World) (h1 : 1 ≤ room) (h2 : room ≤ 2000) (hl : len ≤ 40) (hz : ZsAt w p len zs) :
    Calls Try.prog 7 #[.bool dg, .int .i64 (room : Int), .slice p len ca] w fun e w' => e = .returned (.bool true) ∧ Turn NoBlock w w' := by
  have cA := Lib.hid awake12
  obtain ⟨i5, hi5, hz5, hs5, hb5⟩ := info_parts infoB
  have c1 := Lib.hid (knew_yes dg room w (by omega) (by omega))
  have HZ := Lib.hid hz
  obtain ⟨c, hc⟩ : ∃ c, w.heap.size = c := ⟨_, rfl⟩
  rw [hc] at c1
  have r2 : ¬ (2000 : Int) < room := by omega
  have l2 : ¬ (40 : Int) < len := by omega
  have HR := Lib.hid (And.intro h1 (And.intro h2 hl))
  have HI5 := Lib.hid (And.intro hi5 (And.intro hz5 (And.intro hs5 hb5)))
  clear hz hc hl hi5 hz5 hs5 hb5
  go_enter Try.func7, Try.ntmps7
  go_wp2_with (go_at_call 10; (with_reducible refine c1.out.mono ?_); rintro e w1 ⟨rfl, k1⟩; have K1 := Lib.hid (rm_new k1); clear k1)
  go_loopg [8, 45] len (fun g s8 s45 wr => ∃ (i wait : Nat), i ≤ len ∧ g = len - i ∧ s8 = .int .i64 wait ∧ s45 = .int .i64 i ∧ Hid (RM w wr c dg room wait ∧ wait < room))
  case atStart => exact ⟨0, 0, by omega, by omega, rfl, rfl, Lib.hid ⟨K1.out, by omega⟩⟩
  case round =>
    obtain ⟨i, wait, hi, hg, rfl, rfl, HT⟩ := hrel
    by_cases hlt : i < len
    · obtain ⟨g0, o0, rfl, hcell⟩ := HZ.out.2 (by omega)
      obtain ⟨x, hx⟩ : ∃ x, zs[i]? = some x := ⟨_, List.getElem?_eq_getElem (by rw [HZ.out.1]; exact hlt)⟩
      have d0 := HT.out.1.turn.cell (hcell i x hx) (fun h => h)
      clear hcell hx
      by_cases hx1 : x < 1 ∨ 3000 < x
      · have two : x < 1 ∨ (¬ x < 1 ∧ 3000 < x) := by omega
        clear hx1
        rcases two with hx1 | ⟨hx1, hx2⟩
        all_goals
          go_wp2
          go_roundg (len - (i + 1))
          case measure => omega
          case rel => exact ⟨i + 1, wait, by omega, by omega, rfl, by go_num, HT⟩
      · obtain ⟨k, rfl⟩ : ∃ k : Nat, x = k := ⟨x.toNat, by omega⟩
        have hk1 : 1 ≤ k := by omega
        have hk2 : k ≤ 3000 := by omega
        have g1 : ¬ (k : Int) < 1 := by omega
        have g2 : ¬ (3000 : Int) < k := by omega
        have hwl := HT.out.2
        obtain ⟨W1, hm1, ho1, hg1⟩ := run_make_full (P := Try.prog) wr 0 32 5 i5 _ 1 bytesT HI5.out.1 HI5.out.2.1 HI5.out.2.2.1 .i64 .i64 k (by rw [HI5.out.2.2.2]; omega) (by unfold maxLen; omega) (Nat.zero_le _)
        have hrk := (made_bytes ho1).rk
        have hrm := rm_write (HT.out.1.past (turn_grown hg1)) HR.out.2.1 _ _ (by simp; omega) hrk
        rw [List.length_replicate] at hrm
        obtain ⟨fr, hfr⟩ : ∃ fr, room - wait = fr := ⟨_, rfl⟩
        rw [hfr] at hrm
        have hfi : (room : Int) - wait = fr := by omega
        have hcase : (dg = false ∧ (k : Int) ≤ fr ∧ fitS dg room fr k = 0 ∧ k = fitN dg room fr k) ∨ (dg = false ∧ (fr : Int) < k ∧ fitS dg room fr k = 0 ∧ fr = fitN dg room fr k) ∨ (dg = true ∧ (k : Int) ≤ fr ∧ fitS dg room fr k = 0 ∧ k = fitN dg room fr k) ∨ (dg = true ∧ (fr : Int) < k ∧ fitS dg room fr k = -14) ∨ (dg = true ∧ (fr : Int) < k ∧ fitS dg room fr k = -22) := by
          rcases fit_any dg room fr k (by omega) with h | h | h | h | h | h | h | h
          · omega
          · right; right; right; left; exact ⟨h.1, by omega, h.2.2.2.2⟩
          · right; right; right; right; exact ⟨h.1, by omega, h.2.2.2.2.2⟩
          · right; right; left; exact ⟨h.1, by omega, h.2.2.2.2.2, h.2.2.2.2.1.symm⟩
          · omega
          · left; exact ⟨h.1, by omega, h.2.2.2.2.2, h.2.2.2.2.1.symm⟩
          · right; left; exact ⟨h.1, by omega, h.2.2.2.2.2, h.2.2.2.2.1.symm⟩
          · omega
        have hw : IntKind.i64.wrap ((room : Int) - (wait : Int)) = (fr : Int) := by rw [hfi]; exact wrap_nat fr (by have := HR.out.2.1; omega)
        have hri : (room : Int) ≤ 2000 := by have := HR.out.2.1; omega
        have hkp : (0 : Int) < (k : Int) := by omega
        have hfp : (0 : Int) < (fr : Int) := by omega
        have hki : (k : Int) ≤ 3000 := by omega
        have hkd : decide (0 < k) = true := decide_eq_true (by omega)
        have hfd : decide (0 < fr) = true := decide_eq_true (by omega)
        have hfri : (fr : Int) ≤ 2000 := by omega
        generalize fitS dg room fr k = fs at *
        generalize fitN dg room fr k = fn at *
        have HX := Lib.hid (And.intro hwl (And.intro hfr (And.intro hk1 hk2)))
        have HW := Lib.hid hwl
        clear ho1 hg1 hrk hx1 hfi hfr hwl hk1 hk2
        rcases hcase with ⟨rfl, q1, rfl, rfl⟩ | ⟨rfl, q1, rfl, rfl⟩ | ⟨rfl, q1, rfl, rfl⟩ | ⟨rfl, q1, rfl⟩ | ⟨rfl, q1, rfl⟩
        · rw [if_pos rfl] at hrm
          obtain ⟨w2, hw2⟩ : ∃ w2, wait + k = w2 := ⟨_, rfl⟩
          rw [hw2] at hrm
          have hw2' : IntKind.i64.wrap ((wait : Int) + (k : Int)) = (w2 : Int) := by rw [show (wait : Int) + (k : Int) = (w2 : Int) by omega]; exact wrap_nat w2 (by have := HX.out; omega)
          have HRM := Lib.hid hrm
          have HP := Lib.hid (show 0 < w2 by omega)
          have hle : w2 ≤ room := by have := HX.out; omega
          clear hrm
          by_cases hf : w2 = room
          · have HW2 := Lib.hid hf
            have hq : ((w2 : Int) == (room : Int)) = true := by simp; omega
            clear hf hle hw2
            go_wp2_with (first
              | (go_at_call 20; (with_reducible refine (rm_len K5.out.2.2).mono ?_); rintro e w6 ⟨rfl, rfl⟩)
              | (go_at_call 20; (with_reducible refine (rm_len K3.out).mono ?_); rintro e w4 ⟨rfl, rfl⟩)
              | (go_at_call 13; (with_reducible refine HRM.out.mono ?_); rintro e w3 ⟨rfl, k3⟩; have K3 := Lib.hid k3; clear k3)
              | (go_at_call 16; (with_reducible refine (rm_read K3.out HP.out).mono ?_); rintro e w5 ⟨p5, n5, ca5, wt5, rfl, hn5, hlt5, k5⟩; have hn5i : ¬ (n5 : Int) = 0 := (by omega); have K5 := Lib.hid (And.intro hn5 (And.intro hlt5 k5)); clear hn5 hlt5 k5))
            go_roundg (len - (i + 1))
            case measure => omega
            case rel => exact ⟨i + 1, wt5, by omega, by omega, rfl, by go_num, Lib.hid ⟨K5.out.2.2, by have := K5.out.2.1; have := HW2.out; omega⟩⟩
          · have HW2 := Lib.hid (show w2 < room by omega)
            have hq : ((w2 : Int) == (room : Int)) = false := by simp; omega
            clear hf hle hw2
            go_wp2_with (first
              | (go_at_call 20; (with_reducible refine (rm_len K3.out).mono ?_); rintro e w4 ⟨rfl, rfl⟩)
              | (go_at_call 13; (with_reducible refine HRM.out.mono ?_); rintro e w3 ⟨rfl, k3⟩; have K3 := Lib.hid k3; clear k3))
            go_roundg (len - (i + 1))
            case measure => omega
            case rel => exact ⟨i + 1, w2, by omega, by omega, rfl, by go_num, Lib.hid ⟨K3.out, by first | exact HW2.out | exact HW.out⟩⟩
        · rw [if_pos rfl] at hrm
          obtain ⟨w2, hw2⟩ : ∃ w2, wait + fr = w2 := ⟨_, rfl⟩
          rw [hw2] at hrm
          have hw2' : IntKind.i64.wrap ((wait : Int) + (fr : Int)) = (w2 : Int) := by rw [show (wait : Int) + (fr : Int) = (w2 : Int) by omega]; exact wrap_nat w2 (by have := HX.out; omega)
          have HRM := Lib.hid hrm
          have HP := Lib.hid (show 0 < w2 by omega)
          have hle : w2 ≤ room := by have := HX.out; omega
          clear hrm
          by_cases hf : w2 = room
          · have HW2 := Lib.hid hf
            have hq : ((w2 : Int) == (room : Int)) = true := by simp; omega
            clear hf hle hw2
            go_wp2_with (first
              | (go_at_call 20; (with_reducible refine (rm_len K5.out.2.2).mono ?_); rintro e w6 ⟨rfl, rfl⟩)
              | (go_at_call 20; (with_reducible refine (rm_len K3.out).mono ?_); rintro e w4 ⟨rfl, rfl⟩)
              | (go_at_call 13; (with_reducible refine HRM.out.mono ?_); rintro e w3 ⟨rfl, k3⟩; have K3 := Lib.hid k3; clear k3)
              | (go_at_call 16; (with_reducible refine (rm_read K3.out HP.out).mono ?_); rintro e w5 ⟨p5, n5, ca5, wt5, rfl, hn5, hlt5, k5⟩; have hn5i : ¬ (n5 : Int) = 0 := (by omega); have K5 := Lib.hid (And.intro hn5 (And.intro hlt5 k5)); clear hn5 hlt5 k5))
            go_roundg (len - (i + 1))
            case measure => omega
            case rel => exact ⟨i + 1, wt5, by omega, by omega, rfl, by go_num, Lib.hid ⟨K5.out.2.2, by have := K5.out.2.1; have := HW2.out; omega⟩⟩
          · have HW2 := Lib.hid (show w2 < room by omega)
            have hq : ((w2 : Int) == (room : Int)) = false := by simp; omega
            clear hf hle hw2
            go_wp2_with (first
              | (go_at_call 20; (with_reducible refine (rm_len K3.out).mono ?_); rintro e w4 ⟨rfl, rfl⟩)
              | (go_at_call 13; (with_reducible refine HRM.out.mono ?_); rintro e w3 ⟨rfl, k3⟩; have K3 := Lib.hid k3; clear k3))
            go_roundg (len - (i + 1))
            case measure => omega
            case rel => exact ⟨i + 1, w2, by omega, by omega, rfl, by go_num, Lib.hid ⟨K3.out, by first | exact HW2.out | exact HW.out⟩⟩
        · rw [if_pos rfl] at hrm
          obtain ⟨w2, hw2⟩ : ∃ w2, wait + k = w2 := ⟨_, rfl⟩
          rw [hw2] at hrm
          have hw2' : IntKind.i64.wrap ((wait : Int) + (k : Int)) = (w2 : Int) := by rw [show (wait : Int) + (k : Int) = (w2 : Int) by omega]; exact wrap_nat w2 (by have := HX.out; omega)
          have HRM := Lib.hid hrm
          have HP := Lib.hid (show 0 < w2 by omega)
          have hle : w2 ≤ room := by have := HX.out; omega
          clear hrm
          by_cases hf : w2 = room
          · have HW2 := Lib.hid hf
            have hq : ((w2 : Int) == (room : Int)) = true := by simp; omega
            clear hf hle hw2
            go_wp2_with (first
              | (go_at_call 20; (with_reducible refine (rm_len K5.out.2.2).mono ?_); rintro e w6 ⟨rfl, rfl⟩)
              | (go_at_call 20; (with_reducible refine (rm_len K3.out).mono ?_); rintro e w4 ⟨rfl, rfl⟩)
              | (go_at_call 13; (with_reducible refine HRM.out.mono ?_); rintro e w3 ⟨rfl, k3⟩; have K3 := Lib.hid k3; clear k3)
              | (go_at_call 16; (with_reducible refine (rm_read K3.out HP.out).mono ?_); rintro e w5 ⟨p5, n5, ca5, wt5, rfl, hn5, hlt5, k5⟩; have hn5i : ¬ (n5 : Int) = 0 := (by omega); have K5 := Lib.hid (And.intro hn5 (And.intro hlt5 k5)); clear hn5 hlt5 k5))
            go_roundg (len - (i + 1))
            case measure => omega
            case rel => exact ⟨i + 1, wt5, by omega, by omega, rfl, by go_num, Lib.hid ⟨K5.out.2.2, by have := K5.out.2.1; have := HW2.out; omega⟩⟩
          · have HW2 := Lib.hid (show w2 < room by omega)
            have hq : ((w2 : Int) == (room : Int)) = false := by simp; omega
            clear hf hle hw2
            go_wp2_with (first
              | (go_at_call 20; (with_reducible refine (rm_len K3.out).mono ?_); rintro e w4 ⟨rfl, rfl⟩)
              | (go_at_call 13; (with_reducible refine HRM.out.mono ?_); rintro e w3 ⟨rfl, k3⟩; have K3 := Lib.hid k3; clear k3))
            go_roundg (len - (i + 1))
            case measure => omega
            case rel => exact ⟨i + 1, w2, by omega, by omega, rfl, by go_num, Lib.hid ⟨K3.out, by first | exact HW2.out | exact HW.out⟩⟩
        · rw [if_neg (by decide), Nat.add_zero] at hrm
          have hw2' : IntKind.i64.wrap (wait : Int) = (wait : Int) := by exact wrap_nat wait (by have := HX.out; have := HR.out.2.1; omega)
          have HRM := Lib.hid hrm
          have hq : ((wait : Int) == (room : Int)) = false := by simp; have := HX.out; omega
          have HW2 := Lib.hid HW.out
          clear hrm
          go_wp2_with (first
            | (go_at_call 20; (with_reducible refine (rm_len K3.out).mono ?_); rintro e w4 ⟨rfl, rfl⟩)
            | (go_at_call 13; (with_reducible refine HRM.out.mono ?_); rintro e w3 ⟨rfl, k3⟩; have K3 := Lib.hid k3; clear k3))
          go_roundg (len - (i + 1))
          case measure => omega
          case rel => exact ⟨i + 1, wait, by omega, by omega, rfl, by go_num, Lib.hid ⟨K3.out, by first | exact HW2.out | exact HW.out⟩⟩
        · rw [if_neg (by decide), Nat.add_zero] at hrm
          have hw2' : IntKind.i64.wrap (wait : Int) = (wait : Int) := by exact wrap_nat wait (by have := HX.out; have := HR.out.2.1; omega)
          have HRM := Lib.hid hrm
          have hq : ((wait : Int) == (room : Int)) = false := by simp; have := HX.out; omega
          have HW2 := Lib.hid HW.out
          clear hrm
          go_wp2_with (first
            | (go_at_call 20; (with_reducible refine (rm_len K3.out).mono ?_); rintro e w4 ⟨rfl, rfl⟩)
            | (go_at_call 13; (with_reducible refine HRM.out.mono ?_); rintro e w3 ⟨rfl, k3⟩; have K3 := Lib.hid k3; clear k3))
          go_roundg (len - (i + 1))
          case measure => omega
          case rel => exact ⟨i + 1, wait, by omega, by omega, rfl, by go_num, Lib.hid ⟨K3.out, by first | exact HW2.out | exact HW.out⟩⟩
    · obtain rfl : i = len := by omega
      go_wp2_with (first
        | (go_at_call 11; (with_reducible refine (cA.out _).mono ?_); rintro e w9 ⟨rfl, t9⟩))
      go_ret
      exact ⟨rfl, TT HT.out.1.turn t9⟩
end Go.Proofs.Ytpfelgbedeiebaa
