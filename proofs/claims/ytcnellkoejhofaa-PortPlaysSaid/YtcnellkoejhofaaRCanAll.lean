/-
  Cancel beside the document's. No conditions but that the object is a number of 64 bits.
-/
import Derived.Test.YtcnellkoejhofaaRPP
namespace Go.Proofs.Ytcnellkoejhofaa
open Go.ChangeShapes Go.WideShapes Go.ChangeAt Go.RowKit

theorem ofKey_back (o k : Int) (p : Pk) : ofKey o k p = backP o k p := by
  unfold ofKey backP
  by_cases h : p.s = o
  · rw [h, Bool.and_assoc]
  · rw [show (p.s == o) = false by simpa using h]
    simp
theorem canQ_back {Q : List Pk} {o k : Int} : canQ Q o k = backL Q o k := by
  unfold canQ backL
  congr 1
  funext p
  rw [ofKey_back]
theorem canM_back {Q : List Pk} {Ws : List Wc} {o k : Int} : canM Q Ws o k = canN Q Ws o k := by
  unfold canM canN
  have := back_len Q o k
  rw [canQ_back]
  omega
section
variable {w0 w w' : World} {c x : Nat} {depth most : Int} {Q Q' RQ RQ' : List Pk} {Ws Ws' RWs RWs' : List Wc} {X Y Z : Nat → Prop}
theorem PSt.cancelAll (h : PSt w0 w c depth most Q Ws X) (o k : Int) (ho : fit o) : Calls Try.prog 19 #[.pointer (some ⟨c, 0, none⟩), .int .i64 o, .int .i64 k] w fun e w' => e = .returned (.int .i64 (canR Q Ws o k)) ∧ PSt w0 w' c depth most (canQ Q o k) (canL Ws o k) X ∧ Kp X w w' := by
  have := h.cancel o k ho
  unfold canR
  unfold canS at this
  rw [canM_back, canQ_back]
  exact this
theorem PP.cancel (h : PP w0 w c x depth most Q Ws RQ RWs Y) (o k : Int) (ho : fit o) : Calls Try.prog 19 #[.pointer (some ⟨c, 0, none⟩), .int .i64 o, .int .i64 k] w fun e w' => e = .returned (.int .i64 (canR Q Ws o k)) ∧ PP w0 w' c x depth most (canQ Q o k) (canL Ws o k) RQ RWs Y ∧ Kp Y w w' := by
  obtain ⟨vq, vw, h1, h2, h3⟩ := h.ex
  refine (h1.cancelAll o k ho).mono ?_
  rintro e w2 ⟨rfl, g1, g2⟩
  exact ⟨rfl, PP.prog h2 h3 g1 g2⟩
end
end Go.Proofs.Ytcnellkoejhofaa
