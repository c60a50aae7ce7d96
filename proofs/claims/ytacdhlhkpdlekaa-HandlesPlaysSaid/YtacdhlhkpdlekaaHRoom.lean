/-
  What Room of a table answers. No conditions but that the table is one that calls can make.
-/
import Derived.Test.YtacdhlhkpdlekaaHCount
import Derived.Deep.RegionHeld3
namespace Go.Proofs.Ytacdhlhkpdlekaa
open Go.ChangeShapes Go.WideShapes Go.ChangeAt Go.RowKit

theorem room_any {w : World} {a : Nat} {F : Nat → Prop} {L : List Pl} (h : TableAt w a F L) :
    Calls Try.prog 18 #[.pointer (some ⟨a, 0, none⟩)] w fun e w' => e = .returned (.int .i64 ((L.length : Int) - (takenL L).length)) ∧ ∃ m, w' = w.drewN m := by
  have hc : ∀ m, Calls Try.prog 17 #[.pointer (some ⟨a, 0, none⟩)] (w.drewN m) fun e w' => e = .returned (.int .i64 (takenL L).length) ∧ ∃ q, w' = w.drewN (m + q) := fun m => by
    refine (count_any (h.past ((Turn.refl NoBlock w).drewN m))).mono ?_
    rintro e w' ⟨rfl, q, rfl⟩
    exact ⟨rfl, q, by rw [World.drewN_drewN]⟩
  have hlen := h.len
  have hle : (takenL L).length ≤ L.length := List.length_filter_le _ _
  obtain ⟨vs, vf, cap, ps, fr, hh, ok, rfl, rfl⟩ := h
  have c0 := hh.c0
  rw [padL_len ok.len] at *
  generalize (takenL (padL cap ps)).length = t at *
  have S0 : ∀ m, (w.drewN m).cell? ⟨a, 0, none⟩ = some (.int .i64 cap) := fun m => c0
  have S1 := S0 1
  have hd : Calls Try.prog 17 #[.pointer (some ⟨a, 0, none⟩)] w.drew fun e w' => e = .returned (.int .i64 t) ∧ ∃ q, w' = w.drewN (1 + q) := hc 1
  have HCC := Lib.hid hd
  have htop := ok.top
  have HW := Lib.hid (show IntKind.i64.wrap ((cap : Int) - t) = (cap : Int) - t by
    rw [show (cap : Int) - t = ((cap - t : Nat) : Int) by omega]
    exact wrap_nat _ (by omega))
  clear hh ok hc htop
  go_enter Try.func18, Try.ntmps18
  go_wp2_with fail
  go_region_held3 (fun w' => w'.cell? ⟨a, 0, none⟩ = some (.int .i64 cap)) (first | exact S1 | exact S0 _)
    (first | (go_at_call 17; (with_reducible refine HCC.out.mono ?_); rintro e w2 ⟨rfl, q, rfl⟩))
  all_goals
    go_wp2
    go_ret
    exact ⟨ret_int HW.out, _, rfl⟩
end Go.Proofs.Ytacdhlhkpdlekaa
