/-
  What places of a ring tells, round by round. No conditions but that the ring is in memory, and that the loop's body keeps what the way reads.
-/
import Derived.Test.YtocaebcbmfejbaaFWay
import Derived.Sort.QuietIn
import Derived.Deep.DeepCutAuto
import Derived.RegionIn
import Derived.Stop.RegionWithIn
import Derived.BigRegionIn
namespace Go.Proofs.Ytocaebcbmfejbaa
open Go.ChangeShapes Go.WideShapes Go.ChangeAt Go.RowKit Go.Shelf

attribute [local go_sem] Oper.semAt_some

theorem Boxed.kept' {W W' : World} {B t : Nat} {v : Value} {F : Nat → Prop} (h : Boxed W B t v) (ht : Turn F W W') (hF : ¬ F B) : Boxed W' B t v := ht.heap h hF
/-- What the way reads. -/
structure PSees (Bn Br Bf c r count size g f m n : Nat) (W : World) : Prop where
  bn : Boxed W Bn 3 (.int .i64 (n : Int))
  br : Boxed W Br 139 (.pointer (some ⟨c, r, none⟩))
  bf : Boxed W Bf 3 (.int .i64 (m : Int))
  hd : FHd W c r count size g f
def atP (count size g f m i : Nat) : Value := .slice (some ⟨g, ((f + (m + i)) % count) * size, none⟩) size size
theorem grown_turn {w w' : World} (t : Turn NoBlock w w') : w.grownBy w' none := ⟨t.os, t.tape, t.output, t.size, fun k hk _ => t.block k hk (fun h => h)⟩
theorem own_turn {A : Type} {B : Nat} {J : A → World → Prop} (h : OwnFrom B J) {s : A} {X Y : World} (hs : J s X) (t : Turn NoBlock X Y) : J s Y :=
  h s X Y none hs (grown_turn t) (fun r e => by cases e)
theorem round_wide {m m' : Nat} {l : Nat} {f : FuncId} {tmps : Array Value} {assign body : Code} {w : World} {R : Ending → World → Prop} (h : RoundIn Fence.wide m Try.prog l f tmps assign body w R) : RoundIn Fence.wide m' Try.prog l f tmps assign body w R :=
  ⟨h.1, fun c cs _ => h.2 c cs (fun d hd => by cases hd)⟩

set_option maxRecDepth 100000 in
set_option maxHeartbeats 4000000 in
theorem places_gives (Bn Br Bf c r count size g f m n : Nat) (hc : count ≤ 1024) (h1 : 1 ≤ size) (h2 : size ≤ 64) (h3 : count * size ≤ 4096) (h4 : m + n ≤ 2048) :
    Gives 103 #[.pointer (some ⟨Bn, 0, none⟩), .pointer (some ⟨Br, 0, none⟩), .pointer (some ⟨Bf, 0, none⟩)] (fun i : Nat => #[atP count size g f m i]) (fun pre i => i = pre.length ∧ i < n) (fun xs => xs.length = n) (fun _ => True) (PSees Bn Br Bf c r count size g f m n) := by
  intro l J Jx W hJ hJx hJR hY h0
  have hQ := hJR [] W h0
  have b0 := hQ.bn.cell
  have HJ := Lib.hid hJ
  have HX := Lib.hid hJx
  have HR := Lib.hid hJR
  have HY := Lib.hid hY
  have H0 := Lib.hid h0
  have hN : (n : Int) ≤ 2048 := by omega
  have HC := Lib.hid (And.intro hc (And.intro h1 (And.intro h2 (And.intro h3 h4))))
  clear hQ hJ hJx hJR hY h0 hc h1 h2 h3 h4
  refine (callsIn_wide (n := 6)).1 ?_
  refine callsIn_of_wp (F := Fence.wide) Try.func103 rfl trivial ?_ rfl
  simp only [Try.ntmps103, List.size_toArray, List.length_cons, List.length_nil, Nat.reduceAdd, Nat.reduceSub, Array.replicate_succ, Array.replicate_zero, List.push_toArray, List.append_toArray, List.nil_append, List.cons_append]
  gi_wp2
  gi_loopg [7] n (fun z s7 wr => ∃ (j : Nat) (pre : List Nat), j ≤ n ∧ z = n - j ∧ s7 = .int .i64 (j : Int) ∧ Hid (pre.length = j) ∧ Hid (J pre wr ∧ W.heap.size ≤ wr.heap.size))
  case atStart => exact ⟨0, [], by omega, by omega, rfl, Lib.hid rfl, Lib.hid ⟨H0.out, Nat.le_refl _⟩⟩
  case round =>
    obtain ⟨j, pre, hj, hg, rfl, HP, HI⟩ := hrel
    have hQ := HR.out _ wr HI.out.1
    have e1 := hQ.br.cell
    have e2 := hQ.bf.cell
    have l1 := hQ.br.lt
    have l2 := hQ.bf.lt
    by_cases hlt : j < n
    · have hjn : (j : Int) < n := by omega
      have CB := Lib.hid (fun W (t : Turn NoBlock wr W) => fbehind (hQ.hd.past t) HC.out.1 (m + j) (by have := HC.out.2.2.2.2; omega))
      have CP := Lib.hid (fun W (t : Turn NoBlock wr W) => fplace (hQ.hd.past t) HC.out.2.2.2.1 HC.out.2.1 HC.out.2.2.1 ((f + (m + j)) % count) (Nat.mod_lt _ (by have := hQ.hd.lt; omega)) HC.out.1)
      have CY := Lib.hid (fun W' (t : Turn NoBlock wr W') => HY.out pre j W' (own_turn HJ.out HI.out.1 t) ⟨HP.out.symm, hlt⟩ (Nat.le_trans HI.out.2 t.size))
      unfold atP at CY
      have ew : IntKind.i64.wrap ((m : Int) + (j : Int)) = (m : Int) + j := wrap_fit _ (by unfold fit; have := HC.out.2.2.2.2; omega)
      have ec : (m : Int) + (j : Int) = ((m + j : Nat) : Int) := by omega
      have EC := Lib.hid ec
      clear hQ hlt ec
      gi_wp2
      gi_region_with (first
        | (refine ⟨trivial, ?_⟩; gi_at_call 99; (try rw [EC.out]); refine (callsIn_wide.2 (CB.out _ ((Turn.refl NoBlock wr).drewN _))).mono ?_; rintro e w8 ⟨rfl, m8, rfl⟩)
        | (refine ⟨trivial, ?_⟩; gi_at_call 104; refine (callsIn_wide.2 (CP.out _ ((Turn.refl NoBlock wr).drewN _))).mono ?_; rintro e w9 ⟨rfl, m9, rfl⟩)
        | (obtain ⟨fn, tmps, assign, body, hy, hR⟩ := CY.out _ (show Turn NoBlock wr (wr.drewN (1 + m8 + m9)) from (Turn.refl NoBlock wr).drewN _); rw [hy]; refine ⟨fun h => (by cases h), ?_⟩; refine (round_wide hR).mono ?_; rintro e Y ⟨hj, hk⟩; obtain ⟨bb, rfl, hb⟩ : ∃ bb, e = .returned (.bool bb) ∧ Hid (if bb = true then J (pre ++ [j]) Y else Jx (pre ++ [j]) Y) := (by rcases hj with ⟨h, h2⟩ | ⟨h, h2⟩; exact ⟨true, h, Lib.hid (by simpa using h2)⟩; exact ⟨false, h, Lib.hid (by simpa using h2)⟩); have HKA := Lib.hid hk; clear hk hj))
      all_goals
        have hsz := HKA.out.size
        have HS := Lib.hid (show W.heap.size ≤ Y.heap.size by have := HI.out.2; simp at hsz; omega)
        have HPL := Lib.hid (show (pre ++ [j]).length = j + 1 by rw [List.length_append, HP.out]; rfl)
        clear hsz
        cases bb
        · gi_wp2
          refine bodyPost_ret (results_none rfl _ _ _) rfl ?_
          exact ⟨⟨_, rfl⟩, .inr ⟨_, trivial, by simpa using hb.out⟩⟩
        · gi_wp2
          gi_roundg (n - (j + 1))
          case measure => omega
          case rel => exact ⟨j + 1, pre ++ [j], by omega, rfl, by go_num, HPL, Lib.hid ⟨by simpa using hb.out, HS.out⟩⟩
    · have hjn : ¬ (j : Int) < n := by omega
      gi_wp2
      go_end0
      exact ⟨⟨_, rfl⟩, .inl ⟨pre, by have := HP.out; omega, HI.out.1⟩⟩
end Go.Proofs.Ytocaebcbmfejbaa
