/-
  copsekeep: Sized.
-/
import Derived.Deep.CutBlock
import Derived.Test.YtebfmcafmojlaaaT30
namespace Go.Proofs.Ytebfmcafmojlaaa
open Go.RowKit Go.Maps
set_option linter.unusedSimpArgs false
set_option linter.unusedVariables false

/-- The rounds of Sized, told by calls. -/
theorem SizedAt.c {w wr : World} {wb : Nat} {vars nums : List Nat} {i all odd : Nat} (h : SizedAt w wb vars nums i all odd wr) : (∃ x, wr.cell? ⟨wb, 0, none⟩ = some (.pointer (some ⟨x, 0, none⟩))) ∧ ∀ k, k < 6 → wr.cell? ⟨wb, 1 + k, none⟩ = some (.int .i64 (vars.getD k 0 : Nat)) := by
  obtain ⟨ns, _, _, _, _, hL⟩ := h
  exact ⟨hL.c.1, hL.c.2.1⟩

/-- Within a round. -/
def RoundAt (w : World) (wb : Nat) (vars nums ns : List Nat) (live : List (Nat × Tab)) (i K : Nat) (wr : World) : Prop :=
  (ns.length = i ∧ ns.Nodup ∧ (∀ v ∈ ns, v < 6) ∧ (∀ v ∈ ns, ∃ j, j < i ∧ v = nums.getD j 0)) ∧ LW w wb vars nums [] live K wr

theorem round_and {w wr : World} {wb : Nat} {vars nums : List Nat} {i all odd : Nat} (h : SizedAt w wb vars nums i all odd wr) (hi : i < 6) (h1 : 1 ≤ i) : ∃ ns, Calls Try.prog 7 #[.pointer (some ⟨wb, 0, none⟩), .int .i64 all, .int .i64 (vars.getD i 0 : Nat)] wr fun e w' => ∃ r : Nat, e = .returned (.int .i64 (r : Nat)) ∧ w'.cell? ⟨wb, 1 + i, none⟩ = some (.int .i64 (vars.getD i 0 : Nat)) ∧ RoundAt w wb vars nums ns [(r, allF (nums.getD i 0 :: ns)), (vars.getD i 0, mask (nums.getD i 0)), (odd, oddF ns)] i (3 * i) w' := by
  obtain ⟨ns, l1, l2, l3, l4, hL⟩ := h
  refine ⟨ns, ?_⟩
  have hp := hL.c.2.2.2
  have hm := hL.more i hi
  refine (hm.and (by omega) all (vars.getD i 0) (allF ns) (mask (nums.getD i 0)) (by simp) (by simp)).mono ?_
  rintro e w' ⟨r, he, hL', _⟩
  refine ⟨r, he, hL'.c.2.1 i hi, ⟨l1, l2, l3, l4⟩, ?_⟩
  have e1 : andT (allF ns) (mask (nums.getD i 0)) = allF (nums.getD i 0 :: ns) := and_all (hp.lt i hi) l3
  rw [e1] at hL'
  have e2 : 2 + 3 * (i - 1) + 1 = 3 * i := by omega
  rw [e2] at hL'
  exact hL'.sub (by simp)

theorem RoundAt.below {w wr w' : World} {wb : Nat} {vars nums ns : List Nat} {live : List (Nat × Tab)} {i K : Nat} (h : RoundAt w wb vars nums ns live i K wr) (hb : Below wr.heap.size wr w') : RoundAt w wb vars nums ns live i K w' := ⟨h.1, h.2.below hb⟩

theorem round_not {w wr : World} {wb : Nat} {vars nums ns : List Nat} {i r odd : Nat} {f g : Tab} {v : Nat} (h : RoundAt w wb vars nums ns [(r, f), (v, g), (odd, oddF ns)] i (3 * i) wr) (hi : i < 6) (hv : v = vars.getD i 0) : Calls Try.prog 9 #[.pointer (some ⟨wb, 0, none⟩), .int .i64 odd] wr fun e w' => ∃ q : Nat, e = .returned (.int .i64 (q : Nat)) ∧ w'.cell? ⟨wb, 1 + i, none⟩ = some (.int .i64 (v : Nat)) ∧ RoundAt w wb vars nums ns [(q, ~~~ oddF ns), (r, f), (v, g), (odd, oddF ns)] i (3 * i + 1) w' := by
  obtain ⟨hn, hL⟩ := h
  refine (hL.not (by omega) odd (oddF ns) (by simp)).mono ?_
  rintro e w' ⟨q, he, hL', _⟩
  rw [hv] at hL' ⊢
  exact ⟨q, he, hL'.c.2.1 i hi, hn, hL'⟩

theorem round_ite {w wr : World} {wb : Nat} {vars nums ns : List Nat} {i r q odd : Nat} (h : RoundAt w wb vars nums ns [(q, ~~~ oddF ns), (r, allF (nums.getD i 0 :: ns)), (vars.getD i 0, mask (nums.getD i 0)), (odd, oddF ns)] i (3 * i + 1) wr) (hi : i < 6) (h1 : 1 ≤ i) : Calls Try.prog 12 #[.pointer (some ⟨wb, 0, none⟩), .int .i64 (vars.getD i 0 : Nat), .int .i64 q, .int .i64 odd] wr fun e w' => ∃ p : Nat, e = .returned (.int .i64 (p : Nat)) ∧ w'.cell? ⟨wb, 1 + i, none⟩ = some (.int .i64 (vars.getD i 0 : Nat)) ∧ SizedAt w wb vars nums (i + 1) r p w' := by
  obtain ⟨⟨l1, l2, l3, l4⟩, hL⟩ := h
  have hp := hL.c.2.2.2
  refine (hL.ite (by omega) (vars.getD i 0) q odd (mask (nums.getD i 0)) (~~~ oddF ns) (oddF ns) (by simp) (by simp) (by simp)).mono ?_
  rintro e w' ⟨p, he, hL', _⟩
  refine ⟨p, he, hL'.c.2.1 i hi, nums.getD i 0 :: ns, by simp [l1], ?_, ?_, ?_, ?_⟩
  · rw [List.nodup_cons]
    refine ⟨fun hm => ?_, l2⟩
    obtain ⟨j, hj, e⟩ := l4 _ hm
    have := hp.inj i j hi (by omega) e
    omega
  · intro v hv
    rcases List.mem_cons.1 hv with e | e
    · subst e; exact hp.lt i hi
    · exact l3 v e
  · intro v hv
    rcases List.mem_cons.1 hv with e | e
    · exact ⟨i, by omega, e⟩
    · obtain ⟨j, hj, e⟩ := l4 v e
      exact ⟨j, by omega, e⟩
  · have e2 : 3 * i + 1 + 1 = 2 + 3 * (i + 1 - 1) := by omega
    rw [e2] at hL'
    exact hL'.sub (by
      intro p' hp'
      simp only [List.mem_cons, List.not_mem_nil, or_false] at hp' ⊢
      rcases hp' with rfl | rfl
      · exact .inr (.inr (.inl rfl))
      · exact .inl rfl)

theorem wrap_six2 {k : Nat} (h : k < 6) : IntKind.i64.wrap (2 * (1 + (k : Int))) = 2 * (1 + (k : Int)) := by
  have : ∀ k : Fin 6, IntKind.i64.wrap (2 * (1 + ((k.1 : Nat) : Int))) = 2 * (1 + ((k.1 : Nat) : Int)) := by decide
  exact this ⟨k, h⟩
theorem wrap_six3 {k : Nat} (h : k < 6) : IntKind.i64.wrap (2 * (1 + (k : Int)) - 1) = 2 * (1 + (k : Int)) - 1 := by
  have : ∀ k : Fin 6, IntKind.i64.wrap (2 * (1 + ((k.1 : Nat) : Int)) - 1) = 2 * (1 + ((k.1 : Nat) : Int)) - 1 := by decide
  exact this ⟨k, h⟩

set_option maxHeartbeats 10000000 in
set_option maxRecDepth 10000 in
theorem sized_is (ra : List Int) (n wh tt : Int) (rv : Value) (w : World) (hr : Reads w.heap.size w rv (ra.map zv)) (zr : ∀ z ∈ ra, i64ok z) (lr : ra.length ≤ 9223372036854775807) (hn : i64ok n) (hw : i64ok wh) (ht : i64ok tt) :
    Calls Try.prog 4 #[rv, .int .i64 n, .int .i64 wh, .int .i64 tt] w fun e w' => e = .returned (.bool true) ∧ Below w.heap.size w w' := by
  have hbeg := keepBegin ra rv w hr zr lr
  have hp1 := fun W => keepPick n 6 W hn (by decide) (by decide)
  have hp2 := fun W => keepPick wh 6 W hw (by decide) (by decide)
  have hp3 := fun W => keepPick tt 6 W ht (by decide) (by decide)
  have HP2 : Hid _ := hp2
  have HP3 : Hid _ := hp3
  clear hr zr lr hn hw ht hp2 hp3
  go_enter Try.func4, Try.ntmps4
  go_wp2_with (first
    | (go_at_call 5; refine hbeg.mono ?_; clear hbeg; rintro e w1 ⟨wb, O, C, vars, nums, rfl, ok14, hI, hO, hb1⟩; have hL1 : LW w wb vars nums [] [] 2 w1 := ⟨O, C, hI, hO, hb1, by simp⟩; have hS := SizedAt.start hL1; have hc0 := hL1.c.2.1 0 (by decide); simp only [Nat.add_zero] at hc0; obtain ⟨v0, hv0⟩ : ∃ v0, v0 = vars.getD 0 0 := ⟨_, rfl⟩; rw [← hv0] at hS hc0; have HS : Hid (SizedAt w wb vars nums 1 v0 v0 w1) := hS; clear hS hL1 hI hO hb1 hv0)
    | (go_at_call 8; refine (hp1 _).mono ?_; clear hp1; rintro e w' ⟨k, hk, rfl, hq2⟩; replace hq2 := hq2.symm; subst hq2))
  clear hc0 ok14
  go_loopw [11, 12, 13] (fun a b c wr => ∃ i all odd : Nat, 1 ≤ i ∧ i ≤ 1 + k ∧ a = .int .i64 (all : Nat) ∧ b = .int .i64 (odd : Nat) ∧ c = .int .i64 (i : Nat) ∧ SizedAt w wb vars nums i all odd wr) (fun a b c _ => 1 + k - (intOf c).toNat)
  case atStart => exact ⟨1, v0, v0, Nat.le_refl _, by omega, rfl, rfl, rfl, HS.out⟩
  case round =>
    obtain ⟨i, all, odd, h1i, hik, rfl, rfl, rfl, hS⟩ := hrel
    clear HS
    by_cases hlt : i < 1 + k
    · have hi6 : i < 6 := by omega
      obtain ⟨ns, hand⟩ := round_and hS hi6 h1i
      have hcv := hS.c.2 i hi6
      have hnot := fun (r : Nat) (wr : World) (h : RoundAt w wb vars nums ns [(r, allF (nums.getD i 0 :: ns)), (vars.getD i 0, mask (nums.getD i 0)), (odd, oddF ns)] i (3 * i) wr) => round_not h hi6 rfl
      have hite := fun (r q : Nat) (wr : World) (h : RoundAt w wb vars nums ns [(q, ~~~ oddF ns), (r, allF (nums.getD i 0 :: ns)), (vars.getD i 0, mask (nums.getD i 0)), (odd, oddF ns)] i (3 * i + 1) wr) => round_ite h hi6 h1i
      obtain ⟨vi, hvi⟩ : ∃ vi, vi = vars.getD i 0 := ⟨_, rfl⟩
      rw [← hvi] at hand hcv hnot hite
      have HN : Hid (∀ (r : Nat) (wr : World), RoundAt w wb vars nums ns [(r, allF (nums.getD i 0 :: ns)), (vi, mask (nums.getD i 0)), (odd, oddF ns)] i (3 * i) wr → Calls Try.prog 9 #[.pointer (some ⟨wb, 0, none⟩), .int .i64 odd] wr fun e w' => ∃ q : Nat, e = .returned (.int .i64 (q : Nat)) ∧ w'.cell? ⟨wb, 1 + i, none⟩ = some (.int .i64 (vi : Nat)) ∧ RoundAt w wb vars nums ns [(q, ~~~ oddF ns), (r, allF (nums.getD i 0 :: ns)), (vi, mask (nums.getD i 0)), (odd, oddF ns)] i (3 * i + 1) w') := hnot
      have HI : Hid (∀ (r q : Nat) (wr : World), RoundAt w wb vars nums ns [(q, ~~~ oddF ns), (r, allF (nums.getD i 0 :: ns)), (vi, mask (nums.getD i 0)), (odd, oddF ns)] i (3 * i + 1) wr → Calls Try.prog 12 #[.pointer (some ⟨wb, 0, none⟩), .int .i64 (vi : Nat), .int .i64 q, .int .i64 odd] wr fun e w' => ∃ p : Nat, e = .returned (.int .i64 (p : Nat)) ∧ w'.cell? ⟨wb, 1 + i, none⟩ = some (.int .i64 (vi : Nat)) ∧ SizedAt w wb vars nums (i + 1) r p w') := hite
      clear hnot hite hS hvi HP2 HP3
      go_upto_region 11 with (go_at_call 7; refine hand.mono ?_; clear hand; rintro e w2 ⟨r, rfl, hcv2, hR2⟩)
      have HR2 : Hid (RoundAt w wb vars nums ns [(r, allF (nums.getD i 0 :: ns)), (vi, mask (nums.getD i 0)), (odd, oddF ns)] i (3 * i) w2) := hR2
      clear hR2 hcv
      go_region_held (fun w' => w'.cell? ⟨wb, 1 + i, none⟩ = some (.int .i64 (vi : Nat))) (go_keep) (first
        | (go_at_call 9; refine (HN.out r _ (HR2.out.below (Below.refl _ _).drew)).mono ?_; clear HN; rintro e w3 ⟨q, rfl, hcv3, hR3⟩; have hi1 := HI.out r q _ hR3; clear HI hR3)
        | (go_at_call 12; refine hi1.mono ?_; clear hi1; rintro e w4 ⟨p, rfl, hcv4, hS4⟩; have HS4 : Hid (SizedAt w wb vars nums (i + 1) r p w4) := hS4; clear hS4))
      all_goals
        clear hcv2 hcv3 hcv4 HR2
        go_wp2_with fail
        go_roundw
        case rel => exact ⟨i + 1, r, p, by omega, by omega, rfl, rfl, by go_num, HS4.out⟩
        case measure => simp [intOf]; omega
    · have hik2 : i = 1 + k := by omega
      subst hik2
      obtain ⟨x, hc⟩ := hS.c.1
      obtain ⟨ns, l1, l2, l3, l4, hL⟩ := hS
      have hne : ns ≠ [] := by intro e; rw [e] at l1; simp at l1; omega
      have hmv := fun (a b : Nat) (h1 : a < 6) (h2 : b < 6) => (hL.below (Below.refl _ _).drew).move (x := x) hc (by omega) a b h1 h2
      have hlet := fun (a : Nat) (h : a < 6) (W : World) => keepLetter a h W
      have HM : Hid _ := hmv
      have HL : Hid _ := hlet
      clear hmv hlet hL l4
      go_upto_region 12 with fail
      go_cut [14] from 71 (fun z wc => z = .int .i64 0 ∧ wc.cell? ⟨wb, 0, none⟩ = some (.pointer (some ⟨x, 0, none⟩)) ∧ LW w wb vars nums [] [(all, allF ns), (odd, oddF ns)] (2 + 3 * (1 + k - 1)) wc)
      case first =>
        go_region_held (fun w' => w'.cell? ⟨wb, 0, none⟩ = some (.pointer (some ⟨x, 0, none⟩))) (go_keep) (first
          | (go_at_call_of 8 (Value.int .i64 wh); refine (HP2.out _).mono ?_; clear HP2; rintro e wq ⟨a, ha, rfl, hq2⟩; replace hq2 := hq2.symm; subst hq2)
          | (go_at_call_of 8 (Value.int .i64 tt); refine (HP3.out _).mono ?_; clear HP3; rintro e wq ⟨b, hb, rfl, hq2⟩; replace hq2 := hq2.symm; subst hq2)
          | (go_at_call 18; refine (HL.out a ha _).mono ?_; clear HL; rintro e wq ⟨rfl, hq2⟩; replace hq2 := hq2.symm; subst hq2)
          | (go_at_call 17; refine (HM.out a b ha hb).mono ?_; clear HM; rintro e w5 ⟨rfl, c5, hL5⟩; have HL5 : Hid (LW w wb vars nums [] [(all, allF ns), (odd, oddF ns)] (2 + 3 * (1 + k - 1)) w5) := hL5; clear hL5))
        all_goals
          go_wp2_with fail
          go_meet
          case rel => exact ⟨rfl, c5, HL5.out⟩
      case rest =>
        obtain ⟨hz, hcc, hL⟩ := hcut
        subst hz
        clear HM HP2 HP3 HL hc
        have hn1 := hL.nodes1 hcc ns l3 l2 k l1 all (by simp)
        clear hL
        go_upto_region 14 with (go_at_call 19; refine hn1.mono ?_; clear hn1; rintro e w6 ⟨rfl, c6, hL6⟩)
        have hnot := (hL6.below (Below.refl _ _).drew).not (by omega) odd (oddF ns) (by simp)
        have HNOT : Hid (Calls Try.prog 9 #[.pointer (some ⟨wb, 0, none⟩), .int .i64 odd] w6.drew (ToldW w w6.drew wb vars nums [] [(all, allF ns), (odd, oddF ns)] (2 + 3 * (1 + k - 1)) (~~~ oddF ns))) := hnot
        clear hnot hL6 hcc
        go_cut [17, 18] from 91 (fun z1 z2 wc => z1 = .int .i64 (1 + (k : Int)) ∧ z2 = .int .i64 0 ∧ wc.cell? ⟨wb, 0, none⟩ = some (.pointer (some ⟨x, 0, none⟩)) ∧ LW w wb vars nums [] [(all, allF ns), (odd, oddF ns)] (2 + 3 * (1 + k - 1) + 1) wc)
        case first =>
          go_region_held (fun w' => w'.cell? ⟨wb, 0, none⟩ = some (.pointer (some ⟨x, 0, none⟩))) (go_keep) (first
            | (go_at_call 9; refine HNOT.out.mono ?_; clear HNOT; rintro e w7 ⟨q, rfl, hL7, cc⟩; have c7 : w7.cell? ⟨wb, 0, none⟩ = some (.pointer (some ⟨x, 0, none⟩)) := cc.trans c6; clear cc; have hn2 := hL7.nodes2 c7 ns l3 l2 k l1 odd q (by simp) (by simp); clear hL7)
            | (go_at_call 19; refine hn2.mono ?_; clear hn2; rintro e w8 ⟨rfl, c8, hL8⟩; have HL8 : Hid (LW w wb vars nums [] [(all, allF ns), (odd, oddF ns)] (2 + 3 * (1 + k - 1) + 1) w8) := hL8.sub (by simp); clear hL8))
          all_goals
            go_wp2_with fail
            go_meet
            case rel => exact ⟨rfl, rfl, c8, HL8.out⟩
        case rest =>
          obtain ⟨hz1, hz2, c8, hL8⟩ := hcut
          subst hz1
          subst hz2
          clear HNOT c6
          have hnot := (hL8.below (Below.refl _ _).drew).not (by omega) all (allF ns) (by simp)
          have HNOT : Hid (Calls Try.prog 9 #[.pointer (some ⟨wb, 0, none⟩), .int .i64 all] wc.drew (ToldW w wc.drew wb vars nums [] [(all, allF ns), (odd, oddF ns)] (2 + 3 * (1 + k - 1) + 1) (~~~ allF ns))) := hnot
          clear hnot hL8
          go_upto_region 15 with fail
          go_cut [19, 20] from 104 (fun z1 z2 wc => z1 = .int .i64 (2 * (1 + (k : Int)) - 1) ∧ z2 = .int .i64 0 ∧ wc.cell? ⟨wb, 0, none⟩ = some (.pointer (some ⟨x, 0, none⟩)) ∧ LW w wb vars nums [] [(all, allF ns), (odd, oddF ns)] (2 + 3 * (1 + k - 1) + 1 + 1) wc)
          case first =>
            go_region_held (fun w' => w'.cell? ⟨wb, 0, none⟩ = some (.pointer (some ⟨x, 0, none⟩))) (go_keep) (first
              | (go_at_call 9; refine HNOT.out.mono ?_; clear HNOT; rintro e w9 ⟨q, rfl, hL9, cc⟩; have c9 : w9.cell? ⟨wb, 0, none⟩ = some (.pointer (some ⟨x, 0, none⟩)) := cc.trans c8; clear cc; have hn3 := hL9.nodes3 c9 ns l3 l2 k l1 all odd q (by simp) (by simp) (by simp); clear hL9)
              | (go_at_call 19; refine hn3.mono ?_; clear hn3; rintro e w10 ⟨rfl, c10, hL10⟩; have HL10 : Hid (LW w wb vars nums [] [(all, allF ns), (odd, oddF ns)] (2 + 3 * (1 + k - 1) + 1 + 1) w10) := hL10.sub (by simp); clear hL10))
            all_goals
              go_wp2_with fail
              go_meet
              case rel => exact ⟨rfl, rfl, c10, HL10.out⟩
          case rest =>
            obtain ⟨hz1, hz2, c10, hL10⟩ := hcut
            subst hz1
            subst hz2
            clear HNOT c8
            have hsup := hL10.support1 c10 ns l3 l2 k l1 odd (by simp)
            clear hL10
            have hw1 : IntKind.i64.wrap (2 * (1 + (k : Int))) = 2 * (1 + (k : Int)) := wrap_six2 hk
            have hw2 : IntKind.i64.wrap (2 * (1 + (k : Int)) - 1) = 2 * (1 + (k : Int)) - 1 := wrap_six3 hk
            go_upto_region 19 with (first
              | (go_at_call 20; refine hsup.mono ?_; clear hsup; rintro e w11 ⟨⟨ao, lcap, rfl⟩, c11, hL11⟩; have hcol := hL11.collect2 c11 ns l3 l2 k l1 all odd (by simp) (by simp); clear hL11)
              | (go_at_call 21; refine hcol.mono ?_; clear hcol; rintro e w12 ⟨rfl, c12, o12, hb12, hlive⟩; have HB12 : Hid (Below w.heap.size w w12) := hb12; clear hb12)
              | (go_at_call 22; refine hlive.mono ?_; clear hlive; rintro e wq ⟨rfl, hq⟩; replace hq := hq.symm; subst hq))
            clear c10 c11 l1 l2 l3 hne
            go_wp2_with fail
            go_ret
            exact ⟨rfl, HB12.out⟩

end Go.Proofs.Ytebfmcafmojlaaa

