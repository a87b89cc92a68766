/-
  copsekeep: Lawful.
-/
import Derived.Deep.CutBlock
import Derived.Test.YtebfmcafmojlaaaT24
namespace Go.Proofs.Ytebfmcafmojlaaa
open Go.RowKit Go.Maps
set_option linter.unusedSimpArgs false
set_option linter.unusedVariables false
/-- What is told at i. -/
def TellsAt (w : World) (wb f g bo : Nat) (vars nums stay : List Nat) (live : List (Nat × Tab)) (i : Nat) (p q : Bool) (K : Nat) (wr : World) : Prop :=
  (Calls Try.prog 15 #[.pointer (some ⟨wb, 0, none⟩), .int .i64 f, .int .i64 i] wr fun e w' => e = .returned (.bool p) ∧ LW w wb vars nums stay live K w') ∧
  (Calls Try.prog 15 #[.pointer (some ⟨wb, 0, none⟩), .int .i64 g, .int .i64 i] wr fun e w' => e = .returned (.bool q) ∧ LW w wb vars nums stay live K w') ∧
  (Calls Try.prog 15 #[.pointer (some ⟨wb, 0, none⟩), .int .i64 bo, .int .i64 i] wr fun e w' => e = .returned (.bool (p && q)) ∧ LW w wb vars nums stay live K w') ∧
  (Calls Try.prog 16 #[.pointer (some ⟨wb, 0, none⟩), .int .i64 bo, .int .i64 i] wr fun e w' => e = .returned (.bool (p && q)) ∧ LW w wb vars nums stay live 4 w')

theorem constT (x : Nat) (w : World) : Calls Try.prog 14 #[.pointer (some ⟨x, 0, none⟩), .bool true] w fun e w' => e = .returned (.int .i64 0) ∧ w' = w := (copseConst_is x true w).mono (fun e w' h => h)
theorem constF (x : Nat) (w : World) : Calls Try.prog 14 #[.pointer (some ⟨x, 0, none⟩), .bool false] w fun e w' => e = .returned (.int .i64 1) ∧ w' = w := (copseConst_is x false w).mono (fun e w' h => h)
theorem ToldW.is0 {w0 wr : World} {wb : Nat} {vars nums stay : List Nat} {live : List (Nat × Tab)} {K : Nat} {t : Tab} {e : Ending} {w' : World} (h : ToldW w0 wr wb vars nums stay live K t e w') (h0 : (0, t) ∈ live) : e = .returned (.int .i64 0) ∧ LW w0 wb vars nums stay live (K + 1) w' ∧ w'.cell? ⟨wb, 0, none⟩ = wr.cell? ⟨wb, 0, none⟩ := h.is h0
theorem ToldW.is1 {w0 wr : World} {wb : Nat} {vars nums stay : List Nat} {live : List (Nat × Tab)} {K : Nat} {t : Tab} {e : Ending} {w' : World} (h : ToldW w0 wr wb vars nums stay live K t e w') (h0 : (1, t) ∈ live) : e = .returned (.int .i64 1) ∧ LW w0 wb vars nums stay live (K + 1) w' ∧ w'.cell? ⟨wb, 0, none⟩ = wr.cell? ⟨wb, 0, none⟩ := h.is h0

set_option maxHeartbeats 10000000 in
set_option maxRecDepth 10000 in
theorem lawful_is (ra aa ba ca : List Int) (v : Int) (rv av bv cv : Value) (w : World) (hr : Reads w.heap.size w rv (ra.map zv)) (ha : Reads w.heap.size w av (aa.map zv)) (hb : Reads w.heap.size w bv (ba.map zv)) (hc : Reads w.heap.size w cv (ca.map zv))
    (zr : ∀ z ∈ ra, i64ok z) (za : ∀ z ∈ aa, i64ok z) (zb : ∀ z ∈ ba, i64ok z) (zc : ∀ z ∈ ca, i64ok z) (lr : ra.length ≤ 9223372036854775807) (la : aa.length ≤ 9223372036854775807) (lb : ba.length ≤ 9223372036854775807) (lc : ca.length ≤ 9223372036854775807) (hv : i64ok v) :
    Calls Try.prog 3 #[rv, av, bv, cv, .int .i64 v] w fun e w' => e = .returned (.bool true) ∧ Below w.heap.size w w' := by
  obtain ⟨i0, hi, hz0, hz1, hz2⟩ := info_parts Try.infoIntP
  have hbeg := keepBegin ra rv w hr zr lr
  have hmade : ∀ (wb : Nat) (vars nums stay : List Nat) (live : List (Nat × Tab)) (K : Nat) (wr : World), LW w wb vars nums stay live K wr → K ≤ 2 → stay.length ≤ 2 → (∀ p ∈ live, p.1 ∈ stay) → ∀ (x : Value), x = av ∨ x = bv ∨ x = cv → Calls Try.prog 6 #[.pointer (some ⟨wb, 0, none⟩), x] wr fun e w' => ∃ (r : Nat) (f : Tab), e = .returned (.int .i64 (r : Nat)) ∧ LW w wb vars nums (stay ++ [r]) ((r, f) :: live) (stay.length + 1) w' := by
    intro wb vars nums stay live K wr h1 h2 h3 h4 x hx
    rcases hx with rfl | rfl | rfl
    · exact h1.made h2 h3 h4 aa _ ha za la
    · exact h1.made h2 h3 h4 ba _ hb zb lb
    · exact h1.made h2 h3 h4 ca _ hc zc lc
  have hpick := fun W => keepPick v 6 W hv (by decide) (by decide)
  have HM : Hid (∀ (wb : Nat) (vars nums stay : List Nat) (live : List (Nat × Tab)) (K : Nat) (wr : World), LW w wb vars nums stay live K wr → K ≤ 2 → stay.length ≤ 2 → (∀ p ∈ live, p.1 ∈ stay) → ∀ (x : Value), x = av ∨ x = bv ∨ x = cv → Calls Try.prog 6 #[.pointer (some ⟨wb, 0, none⟩), x] wr fun e w' => ∃ (r : Nat) (f : Tab), e = .returned (.int .i64 (r : Nat)) ∧ LW w wb vars nums (stay ++ [r]) ((r, f) :: live) (stay.length + 1) w') := hmade
  clear hmade hr ha hb hc zr za zb zc lr la lb lc hv
  go_enter Try.func3, Try.ntmps3
  go_upto_region 8 with (first
    | (go_at_call 5; refine hbeg.mono ?_; clear hbeg; rintro e w1 ⟨wb, O, C, vars, nums, rfl, ok14, hI, hO, hb1⟩; have hm1 := HM.out wb vars nums [] [] 2 w1 ⟨O, C, hI, hO, hb1, by simp⟩ (by decide) (by decide) (by simp) av (.inl rfl); clear hI hO hb1)
    | (go_at_call 6; refine hm1.mono ?_; clear hm1 ok14; rintro e w2 ⟨f, F, rfl, hL2⟩; have hm2 := HM.out wb vars nums [f] [(f, F)] 1 w2 hL2 (by decide) (by simp) (by simp) bv (.inr (.inl rfl)); clear hL2)
    | (go_at_call 6; refine hm2.mono ?_; clear hm2; rintro e w3 ⟨g, G, rfl, hL3⟩; have hm3 := HM.out wb vars nums [f, g] [(g, G), (f, F)] 2 w3 hL3 (by decide) (by simp) (by simp) cv (.inr (.inr rfl)); clear hL3)
    | (go_at_call 6; refine hm3.mono ?_; clear hm3; rintro e w4 ⟨h, H, rfl, hL4⟩; have hL4' : LW w wb vars nums [f, g, h] [(h, H), (g, G), (f, F)] 3 w4 := hL4; have hm4 := hL4'.and (by decide) f g F G (by simp) (by simp); clear hL4 hL4')
    | (go_at_call 7; refine hm4.mono ?_; clear hm4; rintro e w5 ⟨bo, rfl, hL5, -⟩))
  obtain ⟨sv, csv, hsv, hstay⟩ := hL5.stays bo (andT F G) (by simp)
  have HST : Hid _ := hstay
  clear hstay hL5 HM
  go_upto_region 10 with (first
    | (at_builtin; refine wpList_append_placed rfl (.tmp 51) (.tmp 53) 22 rfl 0 3 i0 (.int .i64 0) 1 8 Try.underlying22 hi hz0 hz1 hz2 rfl (by decide) sv 3 ([f, g, h].map natv) rfl (hsv.alloc _) _ 1 1 [natv bo] rfl rfl ?_ ?_ ?_ ?_ ?_ ?_; exact cell_one_new _ _ _; exact one_cell_nat _; exact le_max5 (by omega); omega; exact Nat.zero_le _; intro v' w6 ho hg hp; obtain ⟨vao, vcap, rfl⟩ := owns_form ho; obtain ⟨d1, d2, hL6⟩ := HST.out _ _ _ ho hg hp; have HL6 : Hid (LW w wb vars nums [f, g, h, bo] [(bo, andT F G), (h, H), (g, G), (f, F)] 4 (w6.setCell ⟨wb, 13, none⟩ (.slice vao 4 vcap))) := hL6; clear HST ho hg hp hsv hL6)
    | (go_at_call 8; refine (hpick _).mono ?_; clear hpick; rintro e w' ⟨k, hk, rfl, hq2⟩; replace hq2 := hq2.symm; subst hq2))
  obtain ⟨W, hW⟩ : ∃ W, W = w6.setCell ⟨wb, 13, none⟩ (.slice vao 4 vcap) := ⟨_, rfl⟩
  have hL := HL6.out
  rw [← hW] at hL ⊢
  clear hW HL6 d1 d2 csv
  have hx1 := hL.not (by decide) bo (andT F G) (by simp)
  clear hL
  go_upto_region 12 with (first
    | (go_at_call 9; refine hx1.mono ?_; clear hx1; rintro e w7 ⟨x1, rfl, hL7, -⟩; have hx2 := hL7.not (by decide) f F (by simp); clear hL7)
    | (go_at_call 9; refine hx2.mono ?_; clear hx2; rintro e w8 ⟨x2, rfl, hL8, -⟩; have hx3 := hL8.not (by decide) g G (by simp); clear hL8)
    | (go_at_call 9; refine hx3.mono ?_; clear hx3; rintro e w9 ⟨x3, rfl, hL9, -⟩; have hx4 := hL9.or (by decide) x2 x3 (~~~ F) (~~~ G) (by simp) (by simp); rw [lawX] at hx4; clear hL9)
    | (go_at_call 10; refine hx4.mono ?_; clear hx4; intro e w10 hp; obtain ⟨he, hL10, -⟩ := hp.is (r0 := x1) (by simp); clear hp; subst he; have hx5 := hL10.clean (live' := [(bo, andT F G), (h, H), (g, G), (f, F)]) (by simp) (by simp); clear hL10)
    | (go_at_call 11; refine hx5.mono ?_; clear hx5; rintro e w11 ⟨rfl, hL⟩))
  have hy1 := hL.ite (by simp) f g h F G H (by simp) (by simp) (by simp)
  clear hL
  go_upto_region 14 with (first
    | (go_at_call 12; refine hy1.mono ?_; clear hy1; rintro e w12 ⟨y1, rfl, hL12, -⟩; have hy2 := hL12.not (by simp) f F (by simp); clear hL12)
    | (go_at_call 9; refine hy2.mono ?_; clear hy2; rintro e w13 ⟨y2, rfl, hL13, -⟩; have hy3 := hL13.and (by simp) y2 h (~~~ F) H (by simp) (by simp); clear hL13)
    | (go_at_call 7; refine hy3.mono ?_; clear hy3; rintro e w14 ⟨y3, rfl, hL14, -⟩; have hy4 := hL14.or (by simp) bo y3 (andT F G) (andT (~~~ F) H) (by simp) (by simp); rw [lawY] at hy4; clear hL14)
    | (go_at_call 10; refine hy4.mono ?_; clear hy4; intro e w15 hp; obtain ⟨he, hL15, -⟩ := hp.is (r0 := y1) (by simp); clear hp; subst he; have hy5 := hL15.clean (live' := [(bo, andT F G), (h, H), (g, G), (f, F)]) (by simp) (by simp); clear hL15)
    | (go_at_call 11; refine hy5.mono ?_; clear hy5; rintro e w16 ⟨rfl, hL⟩))
  have hLm := hL.more k hk
  have cvk := hL.c.2.1 k hk
  have hn6 := hL.c.2.2.2.lt k hk
  obtain ⟨vk, hvk⟩ : ∃ vk, vk = vars.getD k 0 := ⟨_, rfl⟩
  obtain ⟨n, hn⟩ : ∃ n, n = nums.getD k 0 := ⟨_, rfl⟩
  have hcv : ∀ (stay : List Nat) (live : List (Nat × Tab)) (K : Nat) (wr : World), LW w wb vars nums stay live K wr → wr.cell? ⟨wb, 1 + k, none⟩ = some (.int .i64 (vk : Nat)) := by
    intro stay live K wr h
    rw [hvk]
    exact h.c.2.1 k hk
  have hgv : ∀ (live : List (Nat × Tab)) (K : Nat) (wr : World) (a : Nat) (t : Tab) (b : Bool), LW w wb vars nums [f, g, h, bo] live K wr → K ≤ 18 → (a, t) ∈ live → Calls Try.prog 13 #[.pointer (some ⟨wb, 0, none⟩), .int .i64 a, .int .i64 k, .bool b] wr (ToldW w wr wb vars nums [f, g, h, bo] live K (Ytebfmcafmojlaaa.given t n b)) := by
    intro live K wr a t b h1 h2 h3
    rw [hn]
    exact h1.given h2 a t h3 k hk b
  rw [← hvk] at cvk hLm
  rw [← hn] at hn6 hLm
  have hz1 := fun W (hb : Below w16.heap.size w16 W) => hgv _ _ W f F true (hLm.below hb) (by simp) (by simp)
  have HZ1 : Hid (∀ W, Below w16.heap.size w16 W → Calls Try.prog 13 #[.pointer (some ⟨wb, 0, none⟩), .int .i64 f, .int .i64 k, .bool true] W (ToldW w W wb vars nums [f, g, h, bo] ((0, onesT) :: (1, 0) :: (vk, mask n) :: [(bo, andT F G), (h, H), (g, G), (f, F)]) [f, g, h, bo].length (Ytebfmcafmojlaaa.given F n true))) := hz1
  have HCV : Hid (∀ (stay : List Nat) (live : List (Nat × Tab)) (K : Nat) (wr : World), LW w wb vars nums stay live K wr → wr.cell? ⟨wb, 1 + k, none⟩ = some (.int .i64 (vk : Nat))) := hcv
  have HGV : Hid (∀ (live : List (Nat × Tab)) (K : Nat) (wr : World) (a : Nat) (t : Tab) (b : Bool), LW w wb vars nums [f, g, h, bo] live K wr → K ≤ 18 → (a, t) ∈ live → Calls Try.prog 13 #[.pointer (some ⟨wb, 0, none⟩), .int .i64 a, .int .i64 k, .bool b] wr (ToldW w wr wb vars nums [f, g, h, bo] live K (Ytebfmcafmojlaaa.given t n b))) := hgv
  clear hvk hn hcv hgv hz1 hLm hL
  go_cut [19] from 90 (fun z wc => z = .bool true ∧ LW w wb vars nums [f, g, h, bo] [(bo, andT F G), (h, H), (g, G), (f, F)] ([f, g, h, bo].length + 1 + 1 + 1) wc)
  case first =>
    go_region_held (fun w' => w'.cell? ⟨wb, 1 + k, none⟩ = some (.int .i64 (vk : Nat))) (go_keep) (first
      | (go_at_call 13; refine (HZ1.out _ (Below.refl _ _).drew).mono ?_; clear HZ1; rintro e w17 ⟨z1, rfl, hL17, -⟩; have s17 := HCV.out _ _ _ _ hL17; have hz2 := HGV.out _ _ _ f F false hL17 (by simp) (by simp); clear hL17)
      | (go_at_call 13; refine hz2.mono ?_; clear hz2; rintro e w18 ⟨z2, rfl, hL18, -⟩; have s18 := HCV.out _ _ _ _ hL18; have hz3 := hL18.ite (by simp) vk z1 z2 (mask n) (Ytebfmcafmojlaaa.given F n true) (Ytebfmcafmojlaaa.given F n false) (by simp) (by simp) (by simp); rw [lawZ _ _ hn6] at hz3; clear hL18)
      | (go_at_call 12; refine hz3.mono ?_; clear hz3; intro e w19 hp; obtain ⟨he, hL19, -⟩ := hp.is (r0 := f) (by simp); clear hp; subst he; have s19 := HCV.out _ _ _ _ hL19; have HL19 : Hid (LW w wb vars nums [f, g, h, bo] [(bo, andT F G), (h, H), (g, G), (f, F)] ([f, g, h, bo].length + 1 + 1 + 1) w19) := hL19.sub (by simp); clear hL19))
    all_goals
      clear cvk s17 s18 s19
      go_wp2_with fail
      go_meet
      case rel => exact ⟨rfl, HL19.out⟩
  case rest =>
    obtain ⟨hc1, hL19⟩ := hcut
    subst hc1
    have hz5 := hL19.clean (live' := [(bo, andT F G), (h, H), (g, G), (f, F)]) (by simp) (by simp)
    clear hL19 cvk HZ1 HCV
    go_upto_region 16 with (go_at_call 11; refine hz5.mono ?_; clear hz5; rintro e w20 ⟨rfl, hL⟩)
    have hLm := hL.more 0 (by decide)
    have ht1 := fun W (hb : Below w20.heap.size w20 W) => (hLm.below hb).not (by simp) f F (by simp)
    obtain ⟨x20, c20⟩ := hL.c.1
    have HT1 : Hid (∀ W, Below w20.heap.size w20 W → Calls Try.prog 9 #[.pointer (some ⟨wb, 0, none⟩), .int .i64 f] W (ToldW w W wb vars nums [f, g, h, bo] ((0, onesT) :: (1, 0) :: (vars.getD 0 0, mask (nums.getD 0 0)) :: [(bo, andT F G), (h, H), (g, G), (f, F)]) [f, g, h, bo].length (~~~ F))) := ht1
    clear ht1 hL hLm
    go_cut [20] from 110 (fun z wc => z = .bool true ∧ ∃ K, LW w wb vars nums [f, g, h, bo] [(bo, andT F G), (h, H), (g, G), (f, F)] K wc)
    case first =>
      have hcT := constT
      have hcF := constF
      go_region_held (fun w' => w'.cell? ⟨wb, 0, none⟩ = some (.pointer (some ⟨x20, 0, none⟩))) (go_keep) (first
        | (go_at_call 14; refine (hcT _ _).mono ?_; clear hcT; rintro e wq ⟨rfl, hq⟩; replace hq := hq.symm; subst hq)
        | (go_at_call 14; refine (hcF _ _).mono ?_; clear hcF; rintro e wq ⟨rfl, hq⟩; replace hq := hq.symm; subst hq)
        | (go_at_call 9; refine (HT1.out _ (Below.refl _ _).drew).mono ?_; clear HT1; rintro e w21 ⟨t1, rfl, hL21, cc⟩; have c21 : w21.cell? ⟨wb, 0, none⟩ = some (.pointer (some ⟨x20, 0, none⟩)) := cc.trans c20; clear cc; have ht2 := hL21.or (by simp) f t1 F (~~~ F) (by simp) (by simp); rw [lawT1] at ht2; clear hL21)
        | (go_at_call 10; refine ht2.mono ?_; clear ht2; intro e w22 hp; obtain ⟨he, hL22, cc⟩ := hp.is0 (by simp); clear hp; subst he; have c22 := cc.trans c21; clear cc; have ht3 := hL22.not (by simp) f F (by simp); clear hL22)
        | (go_at_call 9; refine ht3.mono ?_; clear ht3; intro e w23 hp; obtain ⟨he, hL23, cc⟩ := hp.is (r0 := t1) (by simp); clear hp; subst he; have c23 := cc.trans c22; clear cc; have ht4 := hL23.and (by simp) f t1 F (~~~ F) (by simp) (by simp); rw [lawT2] at ht4; clear hL23)
        | (go_at_call 7; refine ht4.mono ?_; clear ht4; intro e w24 hp; obtain ⟨he, hL24, cc⟩ := hp.is1 (by simp); clear hp; subst he; have c24 := cc.trans c23; clear cc; have ht5 := hL24.not (by simp) f F (by simp); clear hL24)
        | (go_at_call 9; refine ht5.mono ?_; clear ht5; intro e w25 hp; obtain ⟨he, hL25, cc⟩ := hp.is (r0 := t1) (by simp); clear hp; subst he; have c25 := cc.trans c24; clear cc; have ht6 := hL25.not (by simp) t1 (~~~ F) (by simp); rw [lawT3] at ht6; clear hL25)
        | (go_at_call 9; refine ht6.mono ?_; clear ht6; intro e w26 hp; obtain ⟨he, hL26, cc⟩ := hp.is (r0 := f) (by simp); clear hp; subst he; have c26 := cc.trans c25; clear cc; have HL26 : Hid (∃ K, LW w wb vars nums [f, g, h, bo] [(bo, andT F G), (h, H), (g, G), (f, F)] K w26) := ⟨_, hL26.sub (by simp)⟩; clear hL26))
      all_goals
        go_wp2_with fail
        go_meet
        case rel => exact ⟨rfl, HL26.out⟩
    case rest =>
      obtain ⟨hc1, K26, hL26⟩ := hcut
      subst hc1
      clear HT1 c20
      have ht7 := hL26.clean (live' := [(bo, andT F G), (h, H), (g, G), (f, F)]) (by simp) (by simp)
      clear hL26
      go_upto_region 18 with (go_at_call 11; refine ht7.mono ?_; clear ht7; rintro e w27 ⟨rfl, hL⟩)
      have hd1 := HGV.out _ _ _ f F true hL (by simp) (by simp)
      clear hL
      go_upto_region 21 with (first
        | (go_at_call 13; refine hd1.mono ?_; clear hd1; rintro e w28 ⟨d1, rfl, hL28, -⟩; have hd2 := HGV.out _ _ _ d1 (Ytebfmcafmojlaaa.given F n true) false hL28 (by simp) (by simp); rw [lawD _ _ hn6] at hd2; clear hL28)
        | (go_at_call 13; refine hd2.mono ?_; clear hd2; intro e w29 hp; obtain ⟨he, hL29, -⟩ := hp.is (r0 := d1) (by simp); clear hp; subst he; have hd3 := HGV.out _ _ _ f F true hL29 (by simp) (by simp); clear hL29)
        | (go_at_call 13; refine hd3.mono ?_; clear hd3; intro e w30 hp; obtain ⟨he, hL30, -⟩ := hp.is (r0 := d1) (by simp); clear hp; subst he; have hd4 := hL30.clean (live' := [(bo, andT F G), (h, H), (g, G), (f, F)]) (by simp) (by simp); clear hL30)
        | (go_at_call 11; refine hd4.mono ?_; clear hd4; rintro e w31 ⟨rfl, hL⟩; have HL : Hid (LW w wb vars nums [f, g, h, bo] [(bo, andT F G), (h, H), (g, G), (f, F)] 4 w31) := hL; clear hL))
      clear HGV
      go_loopw [22] (fun iv wr => ∃ i K : Nat, i ≤ 64 ∧ K ≤ 4 ∧ iv = .int .i64 (i : Nat) ∧ LW w wb vars nums [f, g, h, bo] [(bo, andT F G), (h, H), (g, G), (f, F)] K wr) (fun iv _ => 64 - (intOf iv).toNat)
      case atStart => exact ⟨0, 4, Nat.zero_le _, Nat.le_refl _, rfl, HL.out⟩
      case round =>
        obtain ⟨i, K, hi64, hK4, rfl, hL⟩ := hrel
        clear HL
        by_cases hlt : i < 64
        · have hA64 := asg_lt hL.c.2.2.2 i 6 (Nat.le_refl _)
          have htl : ∀ (wr : World) (K : Nat), K ≤ 4 → LW w wb vars nums [f, g, h, bo] [(bo, andT F G), (h, H), (g, G), (f, F)] K wr → TellsAt w wb f g bo vars nums [f, g, h, bo] [(bo, andT F G), (h, H), (g, G), (f, F)] i (F.getLsbD (asg nums i 6)) (G.getLsbD (asg nums i 6)) K wr := by
            intro wr K hK hL
            refine ⟨hL.tells f F (by simp) i hlt, hL.tells g G (by simp) i hlt, ?_, ?_⟩
            · show Calls _ _ _ _ _
              rw [← andT_bit _ _ _ hA64]
              exact hL.tells bo (andT F G) (by simp) i hlt
            · show Calls _ _ _ _ _
              rw [← andT_bit _ _ _ hA64]
              exact hL.chosen (by omega) (by simp) (by simp) bo (andT F G) (by simp) i hlt
          generalize F.getLsbD (asg nums i 6) = p at htl
          generalize G.getLsbD (asg nums i 6) = q at htl
          have h1 := (htl _ _ hK4 hL).1
          have HT : Hid (∀ (wr : World) (K : Nat), K ≤ 4 → LW w wb vars nums [f, g, h, bo] [(bo, andT F G), (h, H), (g, G), (f, F)] K wr → TellsAt w wb f g bo vars nums [f, g, h, bo] [(bo, andT F G), (h, H), (g, G), (f, F)] i p q K wr) := htl
          have HLT : Hid (i < 64) := hlt
          clear htl hL hA64 hn6
          obtain ⟨m9, hm9⟩ : ∃ m9, m9 = i % 9 := ⟨_, rfl⟩
          have hm : (i : Int).tmod 9 = (m9 : Int) := by rw [hm9]; rfl
          have hm' : (i : Int) % 9 = (m9 : Int) := by omega
          clear hm9
          cases p <;> cases q
          all_goals
            by_cases hkm : m9 = k
            all_goals
              have hkb : ((m9 : Int) == (k : Int)) = decide (m9 = k) := by rw [Bool.eq_iff_iff]; simp; omega
              first | rw [decide_eq_true hkm] at hkb | rw [decide_eq_false hkm] at hkb
              clear hkm
              go_wp2_with (first
                | (go_at_call 15; refine h1.mono ?_; clear h1; rintro e w32 ⟨rfl, hL32⟩; have h2 := (HT.out _ _ hK4 hL32).2.1; clear hL32)
                | (go_at_call 15; refine h2.mono ?_; clear h2; rintro e w33 ⟨rfl, hL33⟩; have h3 := (HT.out _ _ hK4 hL33).2.2.1; clear hL33)
                | (go_at_call 15; refine h3.mono ?_; clear h3; rintro e w34 ⟨rfl, hL34⟩; have h4 := (HT.out _ _ hK4 hL34).2.2.2; have HL34 : Hid (∃ K, K ≤ 4 ∧ LW w wb vars nums [f, g, h, bo] [(bo, andT F G), (h, H), (g, G), (f, F)] K w34) := ⟨_, hK4, hL34⟩; clear hL34)
                | (go_at_call 16; refine h4.mono ?_; clear h4 HL34; rintro e w34 ⟨rfl, hL34⟩; have HL34 : Hid (∃ K, K ≤ 4 ∧ LW w wb vars nums [f, g, h, bo] [(bo, andT F G), (h, H), (g, G), (f, F)] K w34) := ⟨_, Nat.le_refl _, hL34⟩; clear hL34))
              have hlt := HLT.out
              obtain ⟨K5, hK5, hL5⟩ := HL34.out
              exact ⟨⟨i + 1, K5, by omega, hK5, congrArg (Value.int .i64) (by omega), hL5⟩, by simp [intOf]; omega⟩
        · have h64 : i = 64 := by omega
          subst h64
          have c14 := hL.c.2.2.1
          have hfin : Below w.heap.size w wr := by
            obtain ⟨_, _, _, _, h, _⟩ := hL
            exact h
          have HF : Hid (Below w.heap.size w wr) := hfin
          clear hL hfin hlt hi64
          go_wp2_with fail
          go_ret
          exact ⟨rfl, HF.out⟩
end Go.Proofs.Ytebfmcafmojlaaa

