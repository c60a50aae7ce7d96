/-
  What the reference's Forget answers, and what it makes of its channel. No conditions but that the reference's channel is one that calls can make.
-/
import Derived.Test.YtcbphfpfdfgehaaRCCalls
import Derived.Deep.RegionWith
import Derived.Deep.RegionHeld3
namespace Go.Proofs.Ytcbphfpfdfgehaa
open Go.ChangeShapes Go.WideShapes Go.ChangeAt Go.RowKit

theorem find_at {l : List Wt} {p : Wt → Bool} {i : Nat} {t : Wt} (ht : l[i]? = some t) (hp : p t = true) (hno : ∀ j, j < i → ∀ u, l[j]? = some u → p u = false) : l.findIdx p = i := by
  obtain ⟨hi, he⟩ := List.getElem?_eq_some_iff.1 ht
  rw [List.findIdx_eq hi]
  refine ⟨by rw [he]; exact hp, fun j hj => hno j hj _ (List.getElem?_eq_getElem (by omega))⟩
theorem find_no {l : List Wt} {p : Wt → Bool} (hno : ∀ j, j < l.length → ∀ u, l[j]? = some u → p u = false) : l.findIdx p = l.length := by
  rw [List.findIdx_eq_length]
  intro u hu
  obtain ⟨j, hj, he⟩ := List.getElem_of_mem hu
  exact hno j hj u (by rw [List.getElem?_eq_getElem hj, he])
/-- The cells of one who waits. -/
theorem wt_cells {w : World} {p : Option Addr} {n c i : Nat} {l : List Wt} {t : Wt} (h : WRow w 131 2 (.slice p n c) n (wcells l)) (hn : l.length = n) (ht : l[i]? = some t) : ∃ g o, p = some ⟨g, o, none⟩ ∧ w.cell? ⟨g, o + i * 2, none⟩ = some (.int .i64 t.who) ∧ w.cell? ⟨g, o + i * 2 + 1, none⟩ = some (.int .i64 t.tx) := by
  have hi := (List.getElem?_eq_some_iff.1 ht).1
  obtain ⟨g, o, c', he, -, -, -, hce, -⟩ := h.shape (by omega)
  simp only [Value.slice.injEq] at he
  obtain ⟨rfl, -, rfl⟩ := he
  have d0 := hce (i * 2 + 0) (by omega)
  have d1 := hce (i * 2 + 1) (by omega)
  rw [wcells_at l i t ht 0 (by omega)] at d0
  rw [wcells_at l i t ht 1 (by omega)] at d1
  exact ⟨g, o, rfl, d0, by rw [Nat.add_assoc]; exact d1⟩
section
variable {w0 w : World} {x depth : Nat} {S : Nat → MS} {U V : Nat → Value} {Q : Nat → List QM}
set_option maxRecDepth 20000 in
set_option maxHeartbeats 2000000 in
theorem rforget0 (h : RC w0 w x depth S U V Q) (hl : (S 0).ws.length ≤ 1000000) (k : Int) :
    Calls Try.prog 45 #[.pointer (some ⟨x, 0, none⟩), .int .i64 0, .int .i64 k] w fun y w' => y = .returned (.int .i64 (cfS S 0 k)) ∧ RMk w0 w w' x depth U V (cfK S 0 k) := by
  cases ho : (S 0).op with
  | false =>
    have CK := Lib.hid (rcheck0 h false ho)
    have HN := Lib.hid (show cfS S 0 k = -24 ∧ cfK S 0 k = S by unfold cfK cfS; rw [if_pos ho]; exact ⟨rfl, if_neg (by decide)⟩)
    have HR := Lib.hid (RMk.refl h (Turn.refl _ w))
    clear h ho hl
    go_enter Try.func45, Try.ntmps45
    go_wp2_with (go_at_call 53; (with_reducible refine CK.out.mono ?_); rintro y w' ⟨rfl, rfl⟩)
    go_ret
    rw [HN.out.1, HN.out.2]
    exact ⟨rfl, HR.out⟩
  | true =>
    have CK := Lib.hid (show Calls Try.prog 53 #[.pointer (some ⟨x, 0, none⟩), .int .i64 0] w fun y w' => y = .returned (.int .i64 0) ∧ w = w' from rcheck0 h true ho)
    have d1 : w.cell? ⟨x, 2, none⟩ = some (V 0) := h.cv 0 (by omega)
    have hrow := h.rv 0 (by omega)
    obtain ⟨p, c, hv⟩ := hrow.sl
    have CW := Lib.hid (fun W (t : Turn NoBlock w W) k => rwithout W (V 0) (S 0).ws k (hrow.past t) (by omega))
    obtain ⟨n, hn⟩ : ∃ n, (S 0).ws.length = n := ⟨_, rfl⟩
    rw [hv, hn] at hrow CW d1
    have HR := Lib.hid (And.intro hrow hn)
    have hln : n ≤ 1000000 := by omega
    have HH := Lib.hid h
    have lx := h.typ.lt
    have fx := h.f 2
    have HO := Lib.hid ho
    have HOP := Lib.hid (show ∀ i t, (S 0).ws[i]? = some t → t.who = k → (∀ j, j < i → ∀ u, (S 0).ws[j]? = some u → u.who ≠ k) → cfS S 0 k = 0 ∧ cfK S 0 k = updN S 0 ⟨(S 0).op, (S 0).q, (S 0).ws.eraseIdx i⟩ from fun i t ht hk hno => by
      have hf : (S 0).ws.findIdx (fun t => t.who == k) = i := find_at ht (by simpa using hk) (fun j hj u hu => by simpa using hno j hj u hu)
      have hi := (List.getElem?_eq_some_iff.1 ht).1
      have hs : cfS S 0 k = 0 := by unfold cfS; rw [if_neg (by rw [ho]; decide), hf, if_pos hi]
      refine ⟨hs, ?_⟩
      unfold cfK
      rw [if_pos hs, hf])
    have HNO := Lib.hid (show (∀ j, j < n → ∀ u, (S 0).ws[j]? = some u → u.who ≠ k) → cfS S 0 k = -25 ∧ cfK S 0 k = S from fun hno => by
      have hf : (S 0).ws.findIdx (fun t => t.who == k) = (S 0).ws.length := find_no (fun j hj u hu => by simpa using hno j (by omega) u hu)
      have hs : cfS S 0 k = -25 := by unfold cfS; rw [if_neg (by rw [ho]; decide), hf, if_neg (by omega)]
      refine ⟨hs, ?_⟩
      unfold cfK
      rw [hs, if_neg (by decide)])
    clear h ho hl hn hv hrow
    go_enter Try.func45, Try.ntmps45
    go_wp2_with (go_at_call 53; (with_reducible refine CK.out.mono ?_); rintro y w' ⟨rfl, rfl⟩)
    go_loopg [8] n (fun z s8 wr => ∃ i : Nat, i ≤ n ∧ z = n - i ∧ s8 = .int .i64 (i : Int) ∧ w = wr ∧ Hid (∀ j, j < i → ∀ u, (S 0).ws[j]? = some u → u.who ≠ k))
    case atStart => exact ⟨0, by omega, by omega, rfl, rfl, Lib.hid (fun j hj => by omega)⟩
    case round =>
      obtain ⟨i, hi, hz, rfl, rfl, HI⟩ := hrel
      by_cases hlt : i < n
      · have hlti : (i : Int) < (n : Int) := by omega
        obtain ⟨t, ht⟩ : ∃ t, (S 0).ws[i]? = some t := ⟨_, List.getElem?_eq_getElem (by rw [HR.out.2]; exact hlt)⟩
        obtain ⟨g, o, rfl, e0, e1⟩ := wt_cells HR.out.1 HR.out.2 ht
        by_cases hk : t.who = k
        · have hb : (t.who == k) = true := by simpa using hk
          have HF := Lib.hid (HOP.out i t ht hk HI.out)
          clear ht hk
          go_upto_region 8 with (fail)
          go_region_with
            (first | (go_at_call 69; (with_reducible refine (CW.out _ (by first | exact Turn.refl _ _ | exact (Turn.refl _ _).drew) i).mono ?_); rintro y w2 ⟨u, rfl, u2⟩; have U2 := Lib.hid u2; have c2 := u2.turn.cell (show World.cell? w.drew ⟨x, 2, none⟩ = _ from d1) (fun h => h); have f2 := (HH.out.typ.kept (TT (Turn.refl NoBlock w).drew u2.turn) (fun h => h)).free 2; have l2 := (HH.out.typ.kept (TT (Turn.refl NoBlock w).drew u2.turn) (fun h => h)).lt; obtain ⟨pu, cu, rfl⟩ := u2.row.sl; clear u2))
          all_goals
            go_wp2
            go_ret
            rw [HF.out.1, HF.out.2]
            exact ⟨rfl, rmk_v HH.out (e := 0) (by omega) (TT (Turn.refl NoBlock w).drew U2.out.turn) U2.out.row (fun t ht => HH.out.nz 0 (by omega) t (List.mem_of_mem_eraseIdx ht)) (fun k hk => .inr (U2.out.mine k hk))⟩
        · have hb : (t.who == k) = false := by simpa using hk
          have HX := Lib.hid (show ∀ j, j < i + 1 → ∀ u, (S 0).ws[j]? = some u → u.who ≠ k from fun j hj u hu => by
            by_cases hji : j = i
            · subst hji; rw [ht] at hu; cases hu; exact hk
            · exact HI.out j (by omega) u hu)
          clear ht hk
          go_wp2
          go_roundg (n - (i + 1))
          case measure => omega
          case rel => exact ⟨i + 1, by omega, rfl, by go_num, rfl, HX⟩
      · have hlti : ¬ (i : Int) < (n : Int) := by omega
        obtain rfl : i = n := by omega
        have HF := Lib.hid (HNO.out HI.out)
        go_wp2
        go_ret
        rw [HF.out.1, HF.out.2]
        exact ⟨rfl, RMk.refl HH.out (Turn.refl _ _)⟩
set_option maxRecDepth 20000 in
set_option maxHeartbeats 2000000 in
theorem rforget1 (h : RC w0 w x depth S U V Q) (hl : (S 1).ws.length ≤ 1000000) (k : Int) :
    Calls Try.prog 45 #[.pointer (some ⟨x, 0, none⟩), .int .i64 1, .int .i64 k] w fun y w' => y = .returned (.int .i64 (cfS S 1 k)) ∧ RMk w0 w w' x depth U V (cfK S 1 k) := by
  cases ho : (S 1).op with
  | false =>
    have CK := Lib.hid (rcheck1 h false ho)
    have HN := Lib.hid (show cfS S 1 k = -24 ∧ cfK S 1 k = S by unfold cfK cfS; rw [if_pos ho]; exact ⟨rfl, if_neg (by decide)⟩)
    have HR := Lib.hid (RMk.refl h (Turn.refl _ w))
    clear h ho hl
    go_enter Try.func45, Try.ntmps45
    go_wp2_with (go_at_call 53; (with_reducible refine CK.out.mono ?_); rintro y w' ⟨rfl, rfl⟩)
    go_ret
    rw [HN.out.1, HN.out.2]
    exact ⟨rfl, HR.out⟩
  | true =>
    have CK := Lib.hid (show Calls Try.prog 53 #[.pointer (some ⟨x, 0, none⟩), .int .i64 1] w fun y w' => y = .returned (.int .i64 0) ∧ w = w' from rcheck1 h true ho)
    have d1 : w.cell? ⟨x, 3, none⟩ = some (V 1) := h.cv 1 (by omega)
    have hrow := h.rv 1 (by omega)
    obtain ⟨p, c, hv⟩ := hrow.sl
    have CW := Lib.hid (fun W (t : Turn NoBlock w W) k => rwithout W (V 1) (S 1).ws k (hrow.past t) (by omega))
    obtain ⟨n, hn⟩ : ∃ n, (S 1).ws.length = n := ⟨_, rfl⟩
    rw [hv, hn] at hrow CW d1
    have HR := Lib.hid (And.intro hrow hn)
    have hln : n ≤ 1000000 := by omega
    have HH := Lib.hid h
    have lx := h.typ.lt
    have fx := h.f 3
    have HO := Lib.hid ho
    have HOP := Lib.hid (show ∀ i t, (S 1).ws[i]? = some t → t.who = k → (∀ j, j < i → ∀ u, (S 1).ws[j]? = some u → u.who ≠ k) → cfS S 1 k = 0 ∧ cfK S 1 k = updN S 1 ⟨(S 1).op, (S 1).q, (S 1).ws.eraseIdx i⟩ from fun i t ht hk hno => by
      have hf : (S 1).ws.findIdx (fun t => t.who == k) = i := find_at ht (by simpa using hk) (fun j hj u hu => by simpa using hno j hj u hu)
      have hi := (List.getElem?_eq_some_iff.1 ht).1
      have hs : cfS S 1 k = 0 := by unfold cfS; rw [if_neg (by rw [ho]; decide), hf, if_pos hi]
      refine ⟨hs, ?_⟩
      unfold cfK
      rw [if_pos hs, hf])
    have HNO := Lib.hid (show (∀ j, j < n → ∀ u, (S 1).ws[j]? = some u → u.who ≠ k) → cfS S 1 k = -25 ∧ cfK S 1 k = S from fun hno => by
      have hf : (S 1).ws.findIdx (fun t => t.who == k) = (S 1).ws.length := find_no (fun j hj u hu => by simpa using hno j (by omega) u hu)
      have hs : cfS S 1 k = -25 := by unfold cfS; rw [if_neg (by rw [ho]; decide), hf, if_neg (by omega)]
      refine ⟨hs, ?_⟩
      unfold cfK
      rw [hs, if_neg (by decide)])
    clear h ho hl hn hv hrow
    go_enter Try.func45, Try.ntmps45
    go_wp2_with (go_at_call 53; (with_reducible refine CK.out.mono ?_); rintro y w' ⟨rfl, rfl⟩)
    go_loopg [8] n (fun z s8 wr => ∃ i : Nat, i ≤ n ∧ z = n - i ∧ s8 = .int .i64 (i : Int) ∧ w = wr ∧ Hid (∀ j, j < i → ∀ u, (S 1).ws[j]? = some u → u.who ≠ k))
    case atStart => exact ⟨0, by omega, by omega, rfl, rfl, Lib.hid (fun j hj => by omega)⟩
    case round =>
      obtain ⟨i, hi, hz, rfl, rfl, HI⟩ := hrel
      by_cases hlt : i < n
      · have hlti : (i : Int) < (n : Int) := by omega
        obtain ⟨t, ht⟩ : ∃ t, (S 1).ws[i]? = some t := ⟨_, List.getElem?_eq_getElem (by rw [HR.out.2]; exact hlt)⟩
        obtain ⟨g, o, rfl, e0, e1⟩ := wt_cells HR.out.1 HR.out.2 ht
        by_cases hk : t.who = k
        · have hb : (t.who == k) = true := by simpa using hk
          have HF := Lib.hid (HOP.out i t ht hk HI.out)
          clear ht hk
          go_upto_region 8 with (fail)
          go_region_with
            (first | (go_at_call 69; (with_reducible refine (CW.out _ (by first | exact Turn.refl _ _ | exact (Turn.refl _ _).drew) i).mono ?_); rintro y w2 ⟨u, rfl, u2⟩; have U2 := Lib.hid u2; have c2 := u2.turn.cell (show World.cell? w.drew ⟨x, 3, none⟩ = _ from d1) (fun h => h); have f2 := (HH.out.typ.kept (TT (Turn.refl NoBlock w).drew u2.turn) (fun h => h)).free 3; have l2 := (HH.out.typ.kept (TT (Turn.refl NoBlock w).drew u2.turn) (fun h => h)).lt; obtain ⟨pu, cu, rfl⟩ := u2.row.sl; clear u2))
          all_goals
            go_wp2
            go_ret
            rw [HF.out.1, HF.out.2]
            exact ⟨rfl, rmk_v HH.out (e := 1) (by omega) (TT (Turn.refl NoBlock w).drew U2.out.turn) U2.out.row (fun t ht => HH.out.nz 1 (by omega) t (List.mem_of_mem_eraseIdx ht)) (fun k hk => .inr (U2.out.mine k hk))⟩
        · have hb : (t.who == k) = false := by simpa using hk
          have HX := Lib.hid (show ∀ j, j < i + 1 → ∀ u, (S 1).ws[j]? = some u → u.who ≠ k from fun j hj u hu => by
            by_cases hji : j = i
            · subst hji; rw [ht] at hu; cases hu; exact hk
            · exact HI.out j (by omega) u hu)
          clear ht hk
          go_wp2
          go_roundg (n - (i + 1))
          case measure => omega
          case rel => exact ⟨i + 1, by omega, rfl, by go_num, rfl, HX⟩
      · have hlti : ¬ (i : Int) < (n : Int) := by omega
        obtain rfl : i = n := by omega
        have HF := Lib.hid (HNO.out HI.out)
        go_wp2
        go_ret
        rw [HF.out.1, HF.out.2]
        exact ⟨rfl, RMk.refl HH.out (Turn.refl _ _)⟩
end
end Go.Proofs.Ytcbphfpfdfgehaa
