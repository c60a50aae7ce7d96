/-
  SocketShuts' walk.
-/
import Derived.Test.YtpfelgbedeiebaaKAwake
namespace Go.Proofs.Ytpfelgbedeiebaa
open Go.ChangeShapes Go.WideShapes Go.ChangeAt Go.RowKit

/-- A socket's two ends. -/
def PK (a b : En) : Nat → En := fun i => if i = 0 then a else if i = 1 then b else En.new
theorem pk_new : (fun _ => En.new) = PK En.new En.new := by
  funext i
  unfold PK
  split
  · rfl
  · split <;> rfl
theorem pk_upd0 (a b x : En) : updN (PK a b) 0 x = PK x b := by
  funext i
  unfold updN PK
  split <;> rfl
theorem pk_upd1 (a b x : En) : updN (PK a b) 1 x = PK a x := by
  funext i
  unfold updN PK
  by_cases h0 : i = 0
  · subst h0; simp
  · by_cases h1 : i = 1
    · subst h1; simp
    · simp [h0, h1]
theorem fit_whole {dg : Bool} {room fr n : Nat} (hr : fr ≤ room) (hn : n ≤ fr) (h1 : dg = true → 1 ≤ n) : fitS dg room fr n = 0 ∧ fitN dg room fr n = n := by
  rcases fit_any dg room fr n hr with h | h | h | h | h | h | h | h
  · have := h1 h.1; omega
  · omega
  · omega
  · exact ⟨h.2.2.2.2.2, h.2.2.2.2.1⟩
  · omega
  · exact ⟨h.2.2.2.2.2, h.2.2.2.2.1⟩
  · omega
  · exact ⟨h.2.2.2, by rw [h.2.2.1]; exact h.2.1.symm⟩
def pz (dg : Bool) (b : List UInt8) : List Nat := if dg then [b.length] else []
theorem wrE_whole {dg : Bool} {s : En} {b : List UInt8} (hb : s.b = []) (hp : s.p = []) : wrE dg s b.length b = { s with b := b, p := pz dg b } := by
  unfold wrE pz
  rw [hb, hp, List.take_length]
  rfl
section
variable {w0 w : World} {c room : Nat} {dg : Bool} {X : Nat → Prop}
/-- All of b comes to an empty end. -/
theorem pk_put0 {x y : En} (h : KSt w0 w c dg room (PK x y) X) (ho : x.op = true) (hw : wayS x y = 0) (hy : y.b = []) (hyp : y.p = []) (vb : Value) (b : List UInt8) (hb : b.length ≤ room) (h1 : 1 ≤ b.length) (hr2 : room ≤ 1000000) (hr : Rk w vb b) :
    Calls Try.prog 13 #[.pointer (some ⟨c, 0, none⟩), .int .i64 0, vb] w fun e w' => e = .returned (.tuple #[.int .i64 (b.length : Nat), .int .i64 0]) ∧ KSt w0 w' c dg room (PK x { y with b := b, p := pz dg b }) X ∧ Kp X w w' := by
  have hf := fit_whole (dg := dg) (room := room) (fr := room - y.b.length) (n := b.length) (by omega) (by rw [hy]; simpa using hb) (fun _ => h1)
  have e1 : wrS dg room (PK x y) 0 b.length = 0 := by
    unfold wrS
    rw [if_neg (show ¬ (PK x y 0).op = false by show ¬ x.op = false; rw [ho]; decide), if_pos (show wayS (PK x y 0) (PK x y (oth 0)) = 0 from hw)]
    exact hf.1
  have e2 : wrN dg room (PK x y) 0 b.length = b.length := by
    unfold wrN
    rw [if_pos e1]
    exact hf.2
  have e3 : wrK dg room (PK x y) 0 b = PK x { y with b := b, p := pz dg b } := by
    unfold wrK
    rw [if_pos e1, e2]
    show updN (PK x y) 1 (wrE dg y b.length b) = _
    rw [pk_upd1, wrE_whole hy hyp]
  have := h.write0 vb b (by omega) hr
  rw [e1, e2, e3] at this
  exact this
theorem pk_put1 {x y : En} (h : KSt w0 w c dg room (PK x y) X) (ho : y.op = true) (hw : wayS y x = 0) (hy : x.b = []) (hyp : x.p = []) (vb : Value) (b : List UInt8) (hb : b.length ≤ room) (h1 : 1 ≤ b.length) (hr2 : room ≤ 1000000) (hr : Rk w vb b) :
    Calls Try.prog 13 #[.pointer (some ⟨c, 0, none⟩), .int .i64 1, vb] w fun e w' => e = .returned (.tuple #[.int .i64 (b.length : Nat), .int .i64 0]) ∧ KSt w0 w' c dg room (PK { x with b := b, p := pz dg b } y) X ∧ Kp X w w' := by
  have hf := fit_whole (dg := dg) (room := room) (fr := room - x.b.length) (n := b.length) (by omega) (by rw [hy]; simpa using hb) (fun _ => h1)
  have e1 : wrS dg room (PK x y) 1 b.length = 0 := by
    unfold wrS
    rw [if_neg (show ¬ (PK x y 1).op = false by show ¬ y.op = false; rw [ho]; decide), if_pos (show wayS (PK x y 1) (PK x y (oth 1)) = 0 from hw)]
    exact hf.1
  have e2 : wrN dg room (PK x y) 1 b.length = b.length := by
    unfold wrN
    rw [if_pos e1]
    exact hf.2
  have e3 : wrK dg room (PK x y) 1 b = PK { x with b := b, p := pz dg b } y := by
    unfold wrK
    rw [if_pos e1, e2]
    show updN (PK x y) 0 (wrE dg x b.length b) = _
    rw [pk_upd0, wrE_whole hy hyp]
  have := h.write1 vb b (by omega) hr
  rw [e1, e2, e3] at this
  exact this
theorem rd_whole {K : Nat → En} {e : Nat} {n : Int} (ho : (K e).op = true) (hp : (K e).p = pz dg (K e).b) (h1 : 1 ≤ (K e).b.length) (hn : ((K e).b.length : Int) ≤ n) : rdSt K e n = 0 ∧ rdB K e n = (K e).b ∧ rdK K e n false = updN K e { K e with b := [], p := [] } := by
  have hs : rdSt K e n = 0 := by
    unfold rdSt
    rw [if_neg (by rw [ho]; decide), if_neg (by omega), if_neg (fun h => by rw [h] at h1; simp at h1)]
  have hm : rdM K e n = (K e).b.length := by
    unfold rdM firstN
    rw [hp]
    cases dg <;> simp [pz] <;> omega
  refine ⟨hs, ?_, ?_⟩
  · unfold rdB
    rw [if_pos hs, hm, List.take_length]
  · unfold rdK
    rw [if_pos ⟨hs, rfl⟩, hm]
    congr 1
    generalize K e = s at *
    cases s
    dsimp only at hp
    subst hp
    cases dg <;> simp [dropE, pz]
end
def shA (nw : Bool) (b : List UInt8) (p : List Nat) : En := ⟨true, nw, false, b, p⟩
/-- The state of SocketShuts behind each of its calls. -/
theorem shuts_s1 {w0 w : World} {c : Nat} {dg : Bool} (h : KSt w0 w c dg 1000 (fun _ => En.new) NoBlock) (vb : Value) (b : List UInt8) (hb : b.length ≤ 400) (h1 : 1 ≤ b.length) (hr : Rk w vb b) :
    Calls Try.prog 13 #[.pointer (some ⟨c, 0, none⟩), .int .i64 0, vb] w fun e w' => e = .returned (.tuple #[.int .i64 (b.length : Nat), .int .i64 0]) ∧ KSt w0 w' c dg 1000 (PK (shA false [] []) (shA false b (pz dg b))) NoBlock := by
  rw [pk_new] at h
  exact (pk_put0 h rfl rfl rfl rfl vb b (by omega) h1 (by omega) hr).mono (fun e w' hh => ⟨hh.1, hh.2.1⟩)
theorem shuts_s2 {w0 w : World} {c : Nat} {dg : Bool} {b : List UInt8} (h : KSt w0 w c dg 1000 (PK (shA false [] []) (shA false b (pz dg b))) NoBlock) :
    Calls Try.prog 18 #[.pointer (some ⟨c, 0, none⟩), .int .i64 0, .bool true, .bool false] w fun e w' => e = .returned (.int .i64 0) ∧ KSt w0 w' c dg 1000 (PK (shA true [] []) (shA false b (pz dg b))) NoBlock := by
  refine (h.shut0 true false).mono (fun e w' hh => ⟨hh.1, ?_⟩)
  have := hh.2.1
  unfold shutK at this
  rw [if_neg (show ¬ (PK (shA false [] []) (shA false b (pz dg b)) 0).op = false from fun h => by cases h), pk_upd0] at this
  exact this
theorem shuts_s3 {w0 w : World} {c : Nat} {dg : Bool} {b : List UInt8} (h : KSt w0 w c dg 1000 (PK (shA true [] []) (shA false b (pz dg b))) NoBlock) (vc : Value) (b' : List UInt8) (hb : b'.length ≤ 400) (hr : Rk w vc b') :
    Calls Try.prog 13 #[.pointer (some ⟨c, 0, none⟩), .int .i64 0, vc] w fun e w' => e = .returned (.tuple #[.int .i64 0, .int .i64 (-20)]) ∧ KSt w0 w' c dg 1000 (PK (shA true [] []) (shA false b (pz dg b))) NoBlock :=
  (h.write0 vc b' (by omega) hr).mono (fun e w' hh => ⟨hh.1, hh.2.1⟩)
theorem shuts_s4 {w0 w : World} {c : Nat} {dg : Bool} {b : List UInt8} (h : KSt w0 w c dg 1000 (PK (shA true [] []) (shA false b (pz dg b))) NoBlock) (hb : b.length ≤ 400) (h1 : 1 ≤ b.length) :
    Calls Try.prog 16 #[.pointer (some ⟨c, 0, none⟩), .int .i64 1, .int .i64 1000, .bool false] w fun e w' => ∃ v, e = .returned (.tuple #[v, .int .i64 0]) ∧ Byts v b w' ∧ (∀ k, Blk v k → w.heap.size ≤ k) ∧ KSt w0 w' c dg 1000 (PK (shA true [] []) (shA false [] [])) (Blk v) := by
  refine (h.read1 1000 false).mono ?_
  obtain ⟨r1, r2, r3⟩ := rd_whole (dg := dg) (K := PK (shA true [] []) (shA false b (pz dg b))) (e := 1) (n := 1000) rfl rfl h1 (by show ((b.length : Nat) : Int) ≤ 1000; omega)
  rintro e w' ⟨v, rfl, h2, h3, h4, h5⟩
  rw [r2] at h2
  rw [r3, pk_upd1] at h3
  exact ⟨v, by rw [r1], h2, h5, h3.fewer (fun k hk => .inr hk)⟩
theorem shuts_s5 {w0 w : World} {c : Nat} {dg : Bool} {X : Nat → Prop} (h : KSt w0 w c dg 1000 (PK (shA true [] []) (shA false [] [])) X) :
    Calls Try.prog 16 #[.pointer (some ⟨c, 0, none⟩), .int .i64 1, .int .i64 1000, .bool false] w fun e w' => ∃ v, e = .returned (.tuple #[v, .int .i64 (-20)]) ∧ KSt w0 w' c dg 1000 (PK (shA true [] []) (shA false [] [])) X ∧ Kp X w w' := by
  refine (h.read1 1000 false).mono ?_
  rintro e w' ⟨v, rfl, h2, h3, h4, h5⟩
  exact ⟨v, rfl, h3.fewer (fun k hk => .inl hk), h4⟩
theorem shuts_s6 {w0 w : World} {c : Nat} {dg : Bool} {X : Nat → Prop} (h : KSt w0 w c dg 1000 (PK (shA true [] []) (shA false [] [])) X) (vc : Value) (b : List UInt8) (hb : b.length ≤ 400) (h1 : 1 ≤ b.length) (hr : Rk w vc b) :
    Calls Try.prog 13 #[.pointer (some ⟨c, 0, none⟩), .int .i64 1, vc] w fun e w' => e = .returned (.tuple #[.int .i64 (b.length : Nat), .int .i64 0]) ∧ KSt w0 w' c dg 1000 (PK (shA true b (pz dg b)) (shA false [] [])) X :=
  (pk_put1 h rfl rfl rfl rfl vc b (by omega) h1 (by omega) hr).mono (fun e w' hh => ⟨hh.1, hh.2.1⟩)
theorem shuts_s7 {w0 w : World} {c : Nat} {dg : Bool} {b : List UInt8} {X : Nat → Prop} (h : KSt w0 w c dg 1000 (PK (shA true b (pz dg b)) (shA false [] [])) X) (hb : b.length ≤ 400) (h1 : 1 ≤ b.length) :
    Calls Try.prog 16 #[.pointer (some ⟨c, 0, none⟩), .int .i64 0, .int .i64 1000, .bool false] w fun e w' => ∃ v, e = .returned (.tuple #[v, .int .i64 0]) ∧ Byts v b w' ∧ Turn NoBlock w0 w' := by
  refine (h.read0 1000 false).mono ?_
  obtain ⟨r1, r2, r3⟩ := rd_whole (dg := dg) (K := PK (shA true b (pz dg b)) (shA false [] [])) (e := 0) (n := 1000) rfl rfl h1 (by show ((b.length : Nat) : Int) ≤ 1000; omega)
  rintro e w' ⟨v, rfl, h2, h3, h4, h5⟩
  rw [r2] at h2
  exact ⟨v, by rw [r1], h2, h3.turn⟩
set_option maxRecDepth 20000 in
set_option maxHeartbeats 4000000 in
theorem shuts_past (dg : Bool) (vb vc : Value) (pb pc : Option Addr) (nb nc cb cc : Nat) (w : World) (hvb : vb = .slice pb nb cb) (hvc : vc = .slice pc nc cc) (h : nb < 1 ∨ 400 < nb ∨ nc < 1 ∨ 400 < nc) :
    Calls Try.prog 6 #[.bool dg, vb, vc] w fun e w' => e = .returned (.bool true) ∧ Turn NoBlock w w' := by
  have c1 := knew_yes dg 1000 w (by omega) (by omega)
  rw [show ((1000 : Nat) : Int) = 1000 from rfl] at c1
  have cA := Lib.hid awake12
  subst hvb hvc
  have four : (nb : Int) < 1 ∨ (¬ (nb : Int) < 1 ∧ (400 : Int) < nb) ∨ (¬ (nb : Int) < 1 ∧ ¬ (400 : Int) < nb ∧ (nc : Int) < 1) ∨ (¬ (nb : Int) < 1 ∧ ¬ (400 : Int) < nb ∧ ¬ (nc : Int) < 1 ∧ (400 : Int) < nc) := by omega
  clear h
  rcases four with h1 | ⟨h1, h2⟩ | ⟨h1, h2, h3⟩ | ⟨h1, h2, h3, h4⟩
  all_goals
    go_enter Try.func6, Try.ntmps6
    go_wp2_with (first
      | (go_at_call 10; (with_reducible refine c1.mono ?_); rintro e w1 ⟨rfl, k1⟩; have K1 := Lib.hid k1; clear k1)
      | (go_at_call 11; (with_reducible refine (cA.out _).mono ?_); rintro e w2 ⟨rfl, t2⟩))
    go_ret
    exact ⟨rfl, TT K1.out.turn t2⟩
set_option maxRecDepth 20000 in
set_option maxHeartbeats 4000000 in
theorem shuts_walk (dg : Bool) (vb vc : Value) (b b' : List UInt8) (w : World) (hb : Rk w vb b) (hc : Rk w vc b') (h1 : 1 ≤ b.length) (h2 : b.length ≤ 400) (h3 : 1 ≤ b'.length) (h4 : b'.length ≤ 400) :
    Calls Try.prog 6 #[.bool dg, vb, vc] w fun e w' => e = .returned (.bool true) ∧ Turn NoBlock w w' := by
  have c1 := knew_yes dg 1000 w (by omega) (by omega)
  rw [show ((1000 : Nat) : Int) = 1000 from rfl] at c1
  have cA := Lib.hid awake12
  obtain ⟨pb, cb, rfl, -⟩ := hb.sl
  obtain ⟨pc, cc, rfl, -⟩ := hc.sl
  have HB := Lib.hid (fun W (t : Turn NoBlock w W) => hb.past t)
  have HC := Lib.hid (fun W (t : Turn NoBlock w W) => hc.past t)
  have i1 : ¬ ((b.length : Nat) : Int) < 1 := by omega
  have i2 : ¬ (400 : Int) < ((b.length : Nat) : Int) := by omega
  have i3 : ¬ ((b'.length : Nat) : Int) < 1 := by omega
  have i4 : ¬ (400 : Int) < ((b'.length : Nat) : Int) := by omega
  have HN := Lib.hid (And.intro (And.intro h1 h2) (And.intro h3 h4))
  clear hb hc h1 h2 h3 h4
  go_enter Try.func6, Try.ntmps6
  go_wp2_with (first
    | (go_at_call 10; (with_reducible refine c1.mono ?_); rintro e w1 ⟨rfl, k1⟩; have K1 := Lib.hid k1; clear k1)
    | (go_at_call 11; (with_reducible refine (cA.out _).mono ?_); rintro e w9 ⟨rfl, t9⟩)
    | (go_at_call 18; (with_reducible refine (shuts_s2 K2.out).mono ?_); rintro e w3 ⟨rfl, k3⟩; have K3 := Lib.hid k3; clear k3)
    | (go_at_call 13; (with_reducible refine (shuts_s6 K6.out _ b' HN.out.2.2 HN.out.2.1 (HC.out _ K6.out.turn)).mono ?_); rintro e w7 ⟨rfl, k7⟩; have K7 := Lib.hid k7; clear k7)
    | (go_at_call 13; (with_reducible refine (shuts_s3 K3.out _ b' HN.out.2.2 (HC.out _ K3.out.turn)).mono ?_); rintro e w4 ⟨rfl, k4⟩; have K4 := Lib.hid k4; clear k4)
    | (go_at_call 13; (with_reducible refine (shuts_s1 K1.out _ b HN.out.1.2 HN.out.1.1 (HB.out _ K1.out.turn)).mono ?_); rintro e w2 ⟨rfl, k2⟩; have K2 := Lib.hid k2; clear k2)
    | (go_at_call 16; (with_reducible refine (shuts_s7 K7.out HN.out.2.2 HN.out.2.1).mono ?_); rintro e w8 ⟨v8, rfl, b8, t8⟩; have K8 := Lib.hid (And.intro b8 t8); clear b8 t8)
    | (go_at_call 16; (with_reducible refine (shuts_s5 K5.out.2.2).mono ?_); rintro e w6 ⟨v6, rfl, k6, kp6⟩; have B6 := Lib.hid (show Byts v5 b w6 from kp6.row K5.out.1 (fun k hk => hk)); have K6 := Lib.hid k6; clear k6 kp6)
    | (go_at_call 16; (with_reducible refine (shuts_s4 K4.out HN.out.1.2 HN.out.1.1).mono ?_); rintro e w5 ⟨v5, rfl, b5, n5, k5⟩; have K5 := Lib.hid (And.intro b5 (And.intro n5 k5)); clear b5 n5 k5)
    | (go_at_call 15; (with_reducible refine (same7 _ _ _ b' K8.out.1.rd (HC.out _ K8.out.2).rz).mono ?_); rintro e w10 ⟨rfl, rfl⟩)
    | (go_at_call 15; (with_reducible refine (same7 _ _ _ b B6.out.rd (HB.out _ K6.out.turn).rz).mono ?_); rintro e w10 ⟨rfl, rfl⟩))
  go_ret
  exact ⟨rfl, TT K8.out.2 t9⟩
end Go.Proofs.Ytpfelgbedeiebaa
