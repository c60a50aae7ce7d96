/-
  The laws' own comparisons, where both sides say the same. No conditions but that both can be read.
-/
import Derived.Test.YtpfelgbedeiebaaCMsg
namespace Go.Proofs.Ytpfelgbedeiebaa
open Go.ChangeShapes Go.WideShapes Go.ChangeAt Go.RowKit

theorem conv11 {w : World} {v : Value} {bs : List UInt8} (h : RdB w v bs) : Sem.run Try.prog (convert 32 9 v) w = .ok (.string ⟨bs.toArray⟩) w := by
  obtain ⟨p, c, rfl, h0, hc⟩ := h.form
  cases p with
  | none =>
    have : bs = [] := List.eq_nil_of_length_eq_zero (h0 rfl)
    subst this
    have := run_convert_bytes_string (P := Try.prog) w 32 9 5 none 0 c ch_bytes (by kernel_rfl) ch_str
    rw [show ([] : List UInt8).length = 0 from rfl, this]
    rfl
  | some a =>
    obtain ⟨g, o, rfl, hj⟩ := hc a rfl
    exact run_convert_bytes_back w 32 9 5 ⟨g, o, none⟩ c bs ch_bytes (by kernel_rfl) ch_str (fun j hj' => by
      rw [Addr.add_lit, hj j (by omega)]
      unfold bcells
      rw [List.getElem?_map, List.getElem?_eq_getElem hj']
      rfl)
theorem conv11z {w : World} {v : Value} {bs : List UInt8} (h : RzB w v bs) : Sem.run Try.prog (convert 32 9 v) w = .ok (.string ⟨bs.toArray⟩) w := by
  by_cases h0 : 0 < bs.length
  · exact conv11 (h.rd h0)
  · have : bs = [] := List.eq_nil_of_length_eq_zero (by omega)
    subst this
    obtain ⟨p, c, rfl⟩ := h.sl
    cases p with
    | none =>
      have := run_convert_bytes_string (P := Try.prog) w 32 9 5 none 0 c ch_bytes (by kernel_rfl) ch_str
      rw [show ([] : List UInt8).length = 0 from rfl, this]
      rfl
    | some a => exact run_convert_bytes_back w 32 9 5 a c [] ch_bytes (by kernel_rfl) ch_str (fun j hj => absurd hj (Nat.not_lt_zero _))
theorem same7 (w : World) (va vb : Value) (bs : List UInt8) (ha : RdB w va bs) (hb : RzB w vb bs) :
    Calls Try.prog 15 #[va, vb] w fun e w' => e = .returned (.bool true) ∧ w = w' := by
  have c1 := conv11 ha
  have c2 := conv11z hb
  clear ha hb
  go_enter Try.func15, Try.ntmps15
  go_wp2
  go_ret
  exact ⟨rfl, rfl⟩
theorem rdi_two {w : World} {v : Value} {zs : List Int} (h : RdI w v zs) : ∃ p c, v = .slice p zs.length c ∧ (0 < zs.length → ∃ g o, p = some ⟨g, o, none⟩ ∧ ∀ j x, zs[j]? = some x → w.cell? ⟨g, o + j, none⟩ = some (.int .i64 x)) := by
  obtain ⟨p, c, rfl, hz, hc⟩ := h.form
  refine ⟨p, c, rfl, fun h0 => ?_⟩
  cases p with
  | none => have := hz rfl; omega
  | some a =>
    obtain ⟨g, o, rfl, hj⟩ := hc a rfl
    refine ⟨g, o, rfl, fun j x hx => ?_⟩
    have hlt := (List.getElem?_eq_some_iff.1 hx).1
    rw [hj j (by omega)]
    unfold icells
    rw [List.getElem?_map, hx]
    rfl
set_option maxRecDepth 20000 in
set_option maxHeartbeats 1000000 in
theorem ints_eq (w : World) (va vb : Value) (zs : List Int) (hn : zs.length ≤ 1000000000) (ha : RdI w va zs) (hb : RzI w vb zs) :
    Calls Try.prog 36 #[va, vb] w fun e w' => e = .returned (.bool true) ∧ Turn NoBlock w w' := by
  obtain ⟨pa, ca, rfl, fa⟩ := rdi_two ha
  obtain ⟨pb, cb, rfl⟩ := hb.sl
  have fb : 0 < zs.length → ∃ g o, pb = some ⟨g, o, none⟩ ∧ ∀ j x, zs[j]? = some x → w.cell? ⟨g, o + j, none⟩ = some (.int .i64 x) := fun h0 => by
    obtain ⟨p', c', he, hf⟩ := rdi_two (hb.rd h0)
    simp only [Value.slice.injEq] at he
    obtain ⟨rfl, -, -⟩ := he
    exact hf h0
  have FA := Lib.hid fa
  have FB := Lib.hid fb
  have HZ := Lib.hid (fun j (hj : j < zs.length) => show ∃ x, zs[j]? = some x from ⟨_, List.getElem?_eq_getElem hj⟩)
  generalize zs.length = n at *
  clear fa fb ha hb
  go_enter Try.func36, Try.ntmps36
  go_wp2_with fail
  go_loopg [13] n (fun g s13 wr => ∃ k : Nat, k ≤ n ∧ g = n - k ∧ s13 = .int .i64 k ∧ Hid (Turn NoBlock w wr))
  case atStart => exact ⟨0, by omega, by omega, rfl, Lib.hid (Turn.refl _ _)⟩
  case round =>
    obtain ⟨k, hk, hg, rfl, HT⟩ := hrel
    by_cases hlt : k < n
    · obtain ⟨ga, oa, rfl, hca⟩ := FA.out (by omega)
      obtain ⟨gb, ob, rfl, hcb⟩ := FB.out (by omega)
      obtain ⟨x, hx⟩ := HZ.out k hlt
      have d1 := HT.out.cell (hca k x hx) (fun h => h)
      have d2 := HT.out.cell (hcb k x hx) (fun h => h)
      clear hca hcb hx
      go_wp2_with fail
      go_quiet (fail)
      go_wp2
      go_roundg (n - (k + 1))
      case measure => omega
      case rel => exact ⟨k + 1, by omega, by omega, by go_num, Lib.hid (TT HT.out ((Turn.refl NoBlock wr).drewN _))⟩
    · obtain rfl : k = n := by omega
      go_wp2
      go_ret
      exact ⟨rfl, HT.out⟩
set_option maxRecDepth 20000 in
set_option maxHeartbeats 1000000 in
theorem same_eq (w : World) (tx : Int) (d : List UInt8) (h : List Int) (va vb ua ub : Value) (hn : h.length ≤ 1000000000) (ha : RdB w va d) (hb : RdI w vb h) (ga : RzB w ua d) (gb : RzI w ub h) :
    Calls Try.prog 35 #[.agg #[.int .i64 tx, va, vb], .agg #[.int .i64 tx, ua, ub]] w fun e w' => e = .returned (.bool true) ∧ Turn NoBlock w w' := by
  have H7 := Lib.hid (fun W (t : Turn NoBlock w W) => same7 W va ua d (ha.past t) (ga.past t))
  have HI := Lib.hid (fun W (t : Turn NoBlock w W) => ints_eq W vb ub h hn (hb.past t) (gb.past t))
  obtain ⟨p1, c1, rfl⟩ := ha.sl
  obtain ⟨p2, c2, rfl⟩ := hb.sl
  obtain ⟨p3, c3, rfl⟩ := ga.sl
  obtain ⟨p4, c4, rfl⟩ := gb.sl
  clear ha hb ga gb hn
  go_enter Try.func35, Try.ntmps35
  go_wp2_with (first
    | (go_at_call 15; (with_reducible refine (H7.out _ (((Turn.refl _ _).alloc _).alloc _)).mono ?_); rintro x w1 ⟨rfl, rfl⟩)
    | (go_at_call 36; (with_reducible refine (HI.out _ (((Turn.refl _ _).alloc _).alloc _)).mono ?_); rintro x w2 ⟨rfl, t2⟩))
  go_ret
  exact ⟨rfl, TT (((Turn.refl _ _).alloc _).alloc _) t2⟩
end Go.Proofs.Ytpfelgbedeiebaa
