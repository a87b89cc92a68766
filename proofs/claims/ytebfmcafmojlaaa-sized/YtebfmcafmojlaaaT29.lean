/-
  copsekeep: begin.
-/
import Derived.Deep.CutRange
import Derived.Test.YtebfmcafmojlaaaT28
namespace Go.Proofs.Ytebfmcafmojlaaa
open Go.RowKit Go.Maps
set_option linter.unusedSimpArgs false
set_option linter.unusedVariables false
set_option maxHeartbeats 400000 in
set_option maxRecDepth 10000 in
theorem keepBegin (raws : List Int) (rv : Value) (w : World) (hr : Reads w.heap.size w rv (raws.map zv)) (hz : ∀ z ∈ raws, i64ok z) (hrl : raws.length ≤ 9223372036854775807) :
    Calls Try.prog 5 #[rv, .int .i64 300] w (BeginP w) := by
  obtain ⟨i0, hi, hz0, hz1, hz2⟩ := info_parts Try.infoIntP
  have hnew : Calls Try.prog 23 #[.int .i64 300] (w.alloc (.cells (wood0 (.pointer none) false) 28)) fun e w1 => ∃ x, e = .returned (.tuple #[.pointer (some ⟨x, 0, none⟩), .int .i64 0]) ∧ w1.cell? ⟨w.heap.size, 0, none⟩ = some (.pointer none) ∧ w1.frozen? ⟨w.heap.size, 0, none⟩ = false ∧ w1.cell? ⟨w.heap.size, 14, none⟩ = some (.bool false) ∧ w1.frozen? ⟨w.heap.size, 14, none⟩ = false ∧ ∀ w2, w2 = ((w1.setCell ⟨w.heap.size, 0, none⟩ (.pointer (some ⟨x, 0, none⟩))).setCell ⟨w.heap.size, 14, none⟩ (.bool true)).alloc (.cells #[.int .i64 0, .int .i64 1, .int .i64 2, .int .i64 3, .int .i64 4, .int .i64 5] 3) → BegI w w.heap.size x (.slice (some ⟨w1.heap.size, 0, none⟩) 6 6) [0, 1, 2, 3, 4, 5] w2 := by
    refine (copseNew_yes 300 _ (by decide) (by decide)).mono ?_
    rintro e w1 ⟨x, rfl, O, hC, hO, hb⟩
    obtain ⟨h1, h2, h3⟩ := begin_new (x := x) hO hb
    exact ⟨x, rfl, by rw [cell_of_heap h1]; rfl, frozen_of_heap h1, by rw [cell_of_heap h1]; rfl, frozen_of_heap h1, fun w2 => begin_start hC h1 h2 h3⟩
  go_enter Try.func5, Try.ntmps5
  go_upto_region 8 with (go_at_call 23; refine hnew.mono ?_; clear hnew; rintro e w1 ⟨x, rfl, d1, d2, d3, d4, hbg⟩; have HB : Hid _ := hbg; clear hbg)
  go_loopw [8] (fun l wr => ∃ left ao cap, l = .slice ao left.length cap ∧ BegI w w.heap.size x (.slice ao left.length cap) left wr) (fun l _ => sliceLen l)
  case atStart => exact ⟨_, _, _, rfl, HB.out _ rfl⟩
  case round =>
    obtain ⟨left, ao, cap, rfl, hbg⟩ := hrel
    clear HB d1 d2 d3 d4
    by_cases h0 : left = []
    · subst h0
      obtain ⟨O, Oc, C, vars, nums, hA, hok, hrow, hn, hO, hbw⟩ := hbg
      have hX : WX O wr w.heap.size x C vars nums 0 := ⟨Oc, hA, hok.done rfl⟩
      have q1 := hX.c.1
      have q2 := hX.c.2.1
      have hite := fun W => endIte (W := W) hX
      have hend : ∀ w' C', XStep O wr w.heap.size x w' C' vars nums 2 → BeginP w (.returned (.pointer (some ⟨w.heap.size, 0, none⟩))) w' := fun w' C' h => begin_done hO hbw h
      have HE : Hid _ := hend
      have HI : Hid _ := hite
      have hcon := fun W => copseConst_is x false W
      clear hend hite hX hA hok hrow hn hO hbw hr hz hrl
      obtain ⟨a0, ha0⟩ : ∃ a0, a0 = vars.getD 0 0 := ⟨_, rfl⟩
      obtain ⟨a1, ha1⟩ : ∃ a1, a1 = vars.getD 1 0 := ⟨_, rfl⟩
      rw [← ha0, ← ha1] at HI
      rw [← ha0] at q1
      rw [← ha1] at q2
      clear ha0 ha1
      go_upto_region 20 with fail
      go_region_held (fun w' => w'.cell? ⟨w.heap.size, 1, none⟩ = some (.int .i64 (a0 : Nat)) ∧ w'.cell? ⟨w.heap.size, 2, none⟩ = some (.int .i64 (a1 : Nat))) (go_keep) (first
        | (go_at_call 14; refine (hcon _).mono ?_; rintro e w1 ⟨rfl, hq⟩; replace hq := hq.symm; subst hq)
        | (go_at_call 25; refine (HI.out _ (Below.refl _ _).drew).mono ?_; rintro e w2 ⟨r, rfl, d1, d2, C2, hr2, ho2, O2, hX2, hg2⟩))
      have HN : Hid _ := fun W hW => endNodes (W := W) hX2 hr2 hW
      have H2 : Hid _ := hr2
      have HO2 : Hid (Only O wr w2) := ho2
      have HG2 : Hid (Grows wr O O2) := hg2
      clear HI hcon q1 q2 d1 d2 hr2 ho2 hg2 hX2
      go_wp2_with (first
        | (go_at_call 19; refine (HN.out _ rfl).mono ?_; clear HN; rintro e w3 ⟨rfl, ho3, O3, hX3, hg3⟩; have hnot := endNot hX3 H2.out; have HO3 : Hid (Only O2 w2 w3) := ho3; have HG3 : Hid (Grows w2 O2 O3) := hg3; clear ho3 hg3 hX3)
        | (go_at_call 26; refine hnot.mono ?_; clear hnot; rintro e w4 ⟨y, rfl, hne, e1, e2, C4, hx4⟩; have hbq : (((r : Nat) : Int) != ((y : Nat) : Int)) = true := bne_iff_ne.2 hne; have HX4 : Hid _ := hx4; clear hx4))
      go_ret
      exact HE.out _ C4 (XStep.trans HO2.out HG2.out (XStep.trans HO3.out HG3.out HX4.out))
    · obtain ⟨g, cap', e1, hcap, hmx, hcell⟩ := hbg.row h0
      cases e1
      have hpos : 0 < left.length := List.length_pos_iff.2 h0
      obtain ⟨hl6, hleft6⟩ := hbg.left
      have hbl : Below w.heap.size w wr := by obtain ⟨_, _, _, _, _, _, _, _, _, _, h⟩ := hbg; exact h
      have hpick : ∀ c W, i64ok c → Calls Try.prog 8 #[.int .i64 c, .int .i64 (left.length : Int)] W fun e w' => ∃ k : Nat, k < left.length ∧ e = .returned (.int .i64 (k : Nat)) ∧ w' = W := fun c W hc => keepPick c left.length W hc hpos (by omega)
      have hvar := fun k v => hbg.var (k := k) (v := v)
      have HV : Hid _ := hvar
      have HB : Hid _ := hbg
      have HC : Hid _ := hcell
      clear hvar hbg hcell h0
      obtain ⟨rao, rcap, erv⟩ := hr.form
      rw [List.length_map] at erv
      subst erv
      go_upto_if 46 with fail
      go_cut [9] from 41 to 104 (fun kv wc => ∃ k : Nat, k < left.length ∧ kv = .int .i64 k ∧ wc = wr)
      case first =>
        by_cases hr0 : raws.length = 0
        · have hn0 : ¬ (0 : Int) < (raws.length : Int) := by omega
          clear hr0
          go_wp2_with fail
          go_meet
          case rel => exact ⟨0, hpos, rfl, rfl⟩
        · have hn0 : (0 : Int) < (raws.length : Int) := by omega
          have hq : left.length % raws.length < raws.length := Nat.mod_lt _ (by omega)
          obtain ⟨b, off, erao, hcz⟩ : ∃ b off, rao = some ⟨b, off, none⟩ ∧ wr.cell? ⟨b, off + left.length % raws.length, none⟩ = some (.int .i64 (raws.getD (left.length % raws.length) 0)) := hr.num hbl hq
          have hzz : i64ok (raws.getD (left.length % raws.length) 0) := raw_ok hz hq
          obtain ⟨z, hzd⟩ : ∃ z, z = raws.getD (left.length % raws.length) 0 := ⟨_, rfl⟩
          rw [← hzd] at hcz hzz
          subst erao
          clear hzd hr0
          go_wp2_with (go_at_call 8; refine (hpick _ _ hzz).mono ?_; rintro e w' ⟨k, hk, rfl, hq2⟩; replace hq2 := hq2.symm; subst hq2)
          go_meet
          case rel => exact ⟨k, hk, rfl, rfl⟩
      case rest =>
        obtain ⟨k, hk, rfl, rfl⟩ := hcut
        have hvk := HC.out k hk
        obtain ⟨v, hvd⟩ : ∃ v, left.getD k 0 = v := ⟨_, rfl⟩
        rw [hvd] at hvk
        have hv6 : v < 6 := by have := hleft6 k hk; omega
        have hlet := fun W => keepLetter v hv6 W
        have hvar := HV.out k v hk hvd
        have HD : Hid _ := hvd
        have hsub : (6 : Int) - (left.length : Int) = ((6 - left.length : Nat) : Int) := by omega
        clear hvd HV hpick hr hz hrl hbl hleft6
        go_upto_region 17 with (first
          | (go_at_call 18; refine (hlet _).mono ?_; clear hlet; rintro e w' ⟨rfl, hq2⟩; replace hq2 := hq2.symm; subst hq2)
          | (go_at_call 24; refine hvar.mono ?_; clear hvar; rintro e w2 ⟨r, rfl, d1, d2, ⟨q1, d3⟩, d4, ⟨q2, d5⟩, d6, hmid⟩; have HM : Hid _ := hmid; clear hmid))
        obtain ⟨W3, hW3⟩ : ∃ W3, W3 = ((w2.setCell ⟨w.heap.size, 14, none⟩ (.bool true)).setCell ⟨w.heap.size, 1 + v, none⟩ (.int .i64 (r : Nat))).setCell ⟨w.heap.size, 7 + v, none⟩ (.int .i64 (6 - left.length : Nat)) := ⟨_, rfl⟩
        rw [← hW3]
        have hmid := HM.out W3 hW3
        obtain ⟨hg3, hc3⟩ := hmid.cells hpos
        have hr1 : Reads W3.heap.size W3 (.slice (some ⟨g, 0, none⟩) k cap) ((left.take k).map natv) := reads_take hg3 (by omega) hc3
        have b1 : ([] : List Value).length + ((left.take k).map natv).length ≤ maxLen := by rw [List.length_map, List.length_take]; unfold maxLen; simp; omega
        have b2 : (([] : List Value).length + ((left.take k).map natv).length) * 8 ≤ 140737488355328 := by rw [List.length_map, List.length_take]; simp; omega
        have b3 : ([] ++ (left.take k).map natv).length + ((left.drop (k + 1)).map natv).length ≤ maxLen := by rw [List.nil_append, List.length_map, List.length_map, List.length_take, List.length_drop]; unfold maxLen; omega
        have b4 : (([] ++ (left.take k).map natv).length + ((left.drop (k + 1)).map natv).length) * 8 ≤ 140737488355328 := by rw [List.nil_append, List.length_map, List.length_map, List.length_take, List.length_drop]; omega
        have hnx : ∀ w5 lv', Below W3.heap.size W3 w5 → w5.ownsRow W3.heap.size 3 1 lv' (([] ++ (left.take k).map natv) ++ (left.drop (k + 1)).map natv).length (([] ++ (left.take k).map natv) ++ (left.drop (k + 1)).map natv) → ∃ left' ao cap, lv' = .slice ao left'.length cap ∧ left'.length < left.length ∧ BegI w w.heap.size x (.slice ao left'.length cap) left' w5 := by
          intro w5 lv' hb5 ho5
          rw [List.nil_append] at ho5
          have := hmid.next hb5 ho5
          obtain ⟨ao, cp, e⟩ := owns_form ho5
          rw [List.length_append, List.length_map, List.length_map, ← List.length_append] at e
          subst e
          exact ⟨_, ao, cp, rfl, by rw [List.length_append, List.length_take, List.length_drop]; omega, this⟩
        have HN : Hid _ := hnx
        clear hW3 HM d1 d2 d3 d4 d5 d6 hmid hvk HC HB hnx HD hsub hv6
        by_cases hck : cap = k + 1
        · have hlk : left.length = k + 1 := by omega
          subst hck
          have hr2 : ∀ W4, Below W3.heap.size W3 W4 → Reads W3.heap.size W4 (.slice (some ⟨g, 0, none⟩) 0 0) ((left.drop (k + 1)).map natv) := fun W4 hb => reads_edge0 hg3 hlk
          clear hlk hc3 hg3
          have HR2 : Hid _ := hr2
          clear hr2
          go_wp2_with (first
            | (at_builtin; refine wpList_append_ownr rfl (.tmp 94) (.tmp 97) 22 rfl W3.heap.size W3.heap.size 3 i0 (.int .i64 0) 8 Try.underlying22 hi hz0 hz1 hz2 rfl (.slice none 0 0) [] rfl (World.ownsRow_nil _ _ _ _) _ ((left.take k).map natv) rfl hr1 (one_cells_nat _) b1 b2 (Nat.le_refl _) ?_; clear hr1 b1 b2; intro v4 W4 ho4 hb4; have hr4 := HR2.out _ hb4; clear HR2)
            | (at_builtin; refine wpList_append_ownr rfl (.tmp 99) (.tmp 103) 22 rfl W3.heap.size W3.heap.size 3 i0 (.int .i64 0) 8 Try.underlying22 hi hz0 hz1 hz2 rfl _ ([] ++ (left.take k).map natv) rfl ho4 _ ((left.drop (k + 1)).map natv) rfl hr4 (one_cells_nat _) b3 b4 hb4.size ?_; clear hr4 b3 b4; intro v5 W5 ho5 hb5; replace hb5 := hb4.trans hb5; clear hb4 ho4; obtain ⟨left5, ao5, cap5, rfl, hlt5, hbg5⟩ := HN.out _ _ hb5 ho5; have HB5 : Hid _ := hbg5; clear HN hb5 ho5 hbg5))
          go_roundw
          case rel => exact ⟨_, _, _, rfl, HB5.out⟩
          case measure => exact hlt5
        · have hck2 : k + 1 < cap := by omega
          clear hck
          have hr2 : ∀ W4, Below W3.heap.size W3 W4 → Reads W3.heap.size W4 (.slice (some ⟨g, k + 1, none⟩) (left.length - (k + 1)) (cap - (k + 1))) ((left.drop (k + 1)).map natv) := fun W4 hb => reads_drop hg3 (by omega) (fun i hi => (hb.cell (p := ⟨g, i, none⟩) hg3).trans (hc3 i hi))
          clear hc3 hg3
          have HR2 : Hid _ := hr2
          clear hr2
          go_wp2_with (first
            | (at_builtin; refine wpList_append_ownr rfl (.tmp 94) (.tmp 97) 22 rfl W3.heap.size W3.heap.size 3 i0 (.int .i64 0) 8 Try.underlying22 hi hz0 hz1 hz2 rfl (.slice none 0 0) [] rfl (World.ownsRow_nil _ _ _ _) _ ((left.take k).map natv) rfl hr1 (one_cells_nat _) b1 b2 (Nat.le_refl _) ?_; clear hr1 b1 b2; intro v4 W4 ho4 hb4; have hr4 := HR2.out _ hb4; clear HR2)
            | (at_builtin; refine wpList_append_ownr rfl (.tmp 99) (.tmp 103) 22 rfl W3.heap.size W3.heap.size 3 i0 (.int .i64 0) 8 Try.underlying22 hi hz0 hz1 hz2 rfl _ ([] ++ (left.take k).map natv) rfl ho4 _ ((left.drop (k + 1)).map natv) rfl hr4 (one_cells_nat _) b3 b4 hb4.size ?_; clear hr4 b3 b4; intro v5 W5 ho5 hb5; replace hb5 := hb4.trans hb5; clear hb4 ho4; obtain ⟨left5, ao5, cap5, rfl, hlt5, hbg5⟩ := HN.out _ _ hb5 ho5; have HB5 : Hid _ := hbg5; clear HN hb5 ho5 hbg5))
          go_roundw
          case rel => exact ⟨_, _, _, rfl, HB5.out⟩
          case measure => exact hlt5
end Go.Proofs.Ytebfmcafmojlaaa

