/-
  graph: swap.
-/
import Derived.BigRegion
import Derived.Test.YtebfmcafmojlaaaGreatDoorT32
import Derived.Test.YtebfmcafmojlaaaGreatDoorT27
namespace Go.Proofs.YtebfmcafmojlaaaGreatDoor
open Go.RowKit Go.Maps
set_option linter.unusedSimpArgs false
set_option linter.unusedVariables false

def SwapPost (O : Nat → Prop) (w : World) (gb : Nat) (S : GrS) (l x y : Nat) (e : Ending) (w' : World) : Prop := e = .returned (.tuple #[]) ∧ ∃ S', GrStep O w gb w' S' ∧ S.Swapped S' l x y

theorem order_at {O : Nat → Prop} {w : World} {gb : Nat} {S : GrS} {ov nv fv : Value} {mb rb : Nat} {M R : List (Value × Value)} (h : GrAt O w gb S ov nv fv mb rb M R) {l x y : Nat} (two : S.g.Two l x y) : ∃ ob cap cur, ov = .slice (some ⟨ob, 0, none⟩) S.order.length cap ∧ l + 1 < S.order.length ∧ ob < w.heap.size ∧ w.heap[ob]? = some (.cells cur 3 (0, 0)) ∧ w.cell? ⟨ob, l, none⟩ = some (.int .i64 (x : Int)) ∧ w.cell? ⟨ob, l + 1, none⟩ = some (.int .i64 (y : Int)) := by
  have hm : S.order.idxOf y < S.order.length := List.idxOf_lt_length_of_mem two.hy
  have hm0 : S.order.idxOf x < S.order.length := List.idxOf_lt_length_of_mem two.hx
  have h2 : S.order.idxOf y = l + 1 := two.iy
  have h1 : S.order.idxOf x = l := two.ix
  have hr := h.order.1
  rw [List.length_map] at hr
  rcases hr.2 with ⟨rfl, h0⟩ | ⟨ob, cap, cur, e, _, hg, _⟩
  · omega
  · have gx : S.order[l]? = some x := by rw [← h1]; exact List.getElem?_eq_some_iff.2 ⟨hm0, List.getElem_idxOf hm0⟩
    have gy : S.order[l + 1]? = some y := by rw [← h2]; exact List.getElem?_eq_some_iff.2 ⟨hm, List.getElem_idxOf hm⟩
    have c1 := hr.cells (g := ob) (by rw [e]; rfl) l (natv x) (by rw [List.getElem?_map, gx]; rfl)
    have c2 := hr.cells (g := ob) (by rw [e]; rfl) (l + 1) (natv y) (by rw [List.getElem?_map, gy]; rfl)
    rw [Addr.add_lit, Nat.zero_add] at c1 c2
    exact ⟨ob, cap, cur, e, by omega, own_lt2 hg, hg, c1, c2⟩

theorem z_ok {G : Gr} {ex : Nat → Nat → Prop} (k : G.Sm ex) (i : Nat) : G.ok (ndZ (G.node i)).t ∧ G.ok (ndZ (G.node i)).e := by
  cases h : G.node i with
  | none => exact ⟨.inl rfl, .inl rfl⟩
  | some n => exact ⟨k.tok h, k.eok h⟩

theorem z_some {G : Gr} {ex : Nat → Nat → Prop} (k : G.Sm ex) {i l : Nat} (hl : l + 1 < G.order.length) (h : G.lev (ndZ (G.node i)).t = l + 1 ∨ G.lev (ndZ (G.node i)).e = l + 1) : G.node i = some (ndZ (G.node i)) := by
  cases e : G.node i with
  | some n => rfl
  | none =>
    rw [e] at h
    have h0 : G.lev 0 = G.order.length := Gr.Sm.lev_const k rfl
    have h1 : G.lev (ndZ none).t = G.lev 0 := rfl
    have h2 : G.lev (ndZ none).e = G.lev 0 := rfl
    omega

theorem swap_bound {S Sm : GrS} {m : Nat} (hcnt : Sm.nums.length ≤ S.nums.length + 2 * (S.nums.filter (fun i => decide (i < m))).length) (hnl : Sm.nl.length = S.nl.length ∨ Sm.nl.length ≤ Sm.nums.length + 1) (hc : S.nums.length ≤ 24300) (hl : S.nl.length ≤ 80000) : Sm.nums.length ≤ 80000 ∧ Sm.nl.length ≤ 90000 := by
  have h2 : (S.nums.filter (fun i => decide (i < m))).length ≤ S.nums.length := List.length_filter_le _ _
  omega

theorem drewN_add (w : World) (a b : Nat) : (w.drewN a).drewN b = w.drewN (a + b) := by
  unfold World.drewN
  simp [Nat.add_assoc]

set_option maxHeartbeats 4000000 in
set_option maxRecDepth 10000 in
theorem graphSwap_is {O : Nat → Prop} {w : World} {gb : Nat} {S : GrS} {l x y : Nat} (hG : GrIs O w gb S) (k : S.g.Ok) (two : S.g.Two l x y) (hF : S.Full) (hc : S.nums.length ≤ 24300) (hl : S.nl.length ≤ 80000) :
    Calls Tryz.prog 146 #[.pointer (some ⟨gb, 0, none⟩), .int .i64 (l : Int)] w (SwapPost O w gb S l x y) := by
  have hst0 : SwapSt O w gb S x y 0 w S O := SwapSt.start hG k hF
  obtain ⟨ov, nv, fv, mb, rb, M, R, hA⟩ := hG
  obtain ⟨c0, c1, c2, c3, c4⟩ := hA.c
  obtain ⟨nb, ncap, en, hnbl, hz⟩ := hA.zAt
  subst en
  have hol := hA.ol
  obtain ⟨N, hN⟩ : ∃ N, N = S.nl.length := ⟨_, rfl⟩
  rw [← hN] at c1
  have hlo : l + 1 < S.order.length := by
    obtain ⟨_, _, _, _, h, _⟩ := order_at hA two
    exact h
  have hl6 : l < 6 := by omega
  have hwr : IntKind.i64.wrap ((l : Int) + 1) = (l : Int) + 1 := wrap_six _ (by omega)
  have HTWO : Hid (S.g.Two l x y) := two
  clear hA k two hF c0 c2 c3 c4 hz
  go_enter Tryz.func146, Tryz.ntmps146
  go_wp2_with fail
  go_loopw [11] (fun i wr => ∃ m : Nat, m ≤ N ∧ i = .int .i64 m ∧ ∃ Sm Om, SwapSt O w gb S x y m wr Sm Om) (fun i _ => N - (intOf i).toNat)
  case atStart => exact ⟨0, Nat.zero_le _, rfl, S, O, hst0⟩
  case round =>
    obtain ⟨m, hm, rfl, Sm, Om, hst⟩ := hrel
    clear hst0 c1 hnbl
    have two2 : Sm.g.Two l x y := HTWO.out.ext hst.order
    obtain ⟨ov2, nv2, fv2, mb2, rb2, M2, R2, hA2⟩ := hst.G
    obtain ⟨d0, d1, d2, d3, d4⟩ := hA2.c
    obtain ⟨nb2, ncap2, en2, hnb2, hz2⟩ := hA2.zAt
    subst en2
    obtain ⟨ob, cap, cur, eo, hlo2, hobl, hobc, cx, cy⟩ := order_at hA2 two2
    subst eo
    have hgl2 := hA2.lt gb hA2.self
    by_cases hml : m < N
    · have hmS : m < Sm.nl.length := Nat.lt_of_lt_of_le (by omega) hst.le
      obtain ⟨z0, z1, z2⟩ := hz2 m hmS
      have hzok := z_ok hst.sm m
      have hzs := fun h => z_some hst.sm (i := m) (l := l) hlo2 h
      have hzn : ∀ n, Sm.g.node m = some n → ndZ (Sm.g.node m) = n := by intro n h; rw [h]; rfl
      have hnode : Sm.nl.getD m none = Sm.g.node m := rfl
      rw [hnode] at z0 z1 z2
      have hsm1 := hA2.small hzok.1
      have hsm2 := hA2.small hzok.2
      obtain ⟨zN', hzN⟩ : ∃ z, z = ndZ (Sm.g.node m) := ⟨_, rfl⟩
      rw [← hzN] at z0 z1 z2 hzok hzs hsm1 hsm2
      obtain ⟨nlt, hlt⟩ : ∃ n, ∀ wq, Below wr.heap.size wr wq → Calls Tryz.prog 98 #[.pointer (some ⟨gb, 0, none⟩), .int .i64 zN'.t] wq fun e w' => e = .returned (.int .i64 (Sm.g.lev zN'.t : Nat)) ∧ w' = wq.drewN n := by
        refine ⟨if zN'.t / 2 = 0 then 0 else 1, fun wq hb => (graphLevel2_w (hst.G.below hb) hst.sm zN'.t hzok.1).mono ?_⟩
        rintro e w' ⟨he, hw⟩
        refine ⟨he, ?_⟩
        rw [hw]
        split <;> rfl
      obtain ⟨nle, hle⟩ : ∃ n, ∀ wq, Below wr.heap.size wr wq → Calls Tryz.prog 98 #[.pointer (some ⟨gb, 0, none⟩), .int .i64 zN'.e] wq fun e w' => e = .returned (.int .i64 (Sm.g.lev zN'.e : Nat)) ∧ w' = wq.drewN n := by
        refine ⟨if zN'.e / 2 = 0 then 0 else 1, fun wq hb => (graphLevel2_w (hst.G.below hb) hst.sm zN'.e hzok.2).mono ?_⟩
        rintro e w' ⟨he, hw⟩
        refine ⟨he, ?_⟩
        rw [hw]
        split <;> rfl
      have hturn : (Sm.g.lev zN'.t = l + 1 ∨ Sm.g.lev zN'.e = l + 1) → zN'.v = x → ∀ wq, Below wr.heap.size wr wq → Calls Tryz.prog 167 #[.pointer (some ⟨gb, 0, none⟩), .int .i64 (m : Int), .int .i64 (l : Int)] wq (fun e w' => e = .returned (.tuple #[]) ∧ ∃ S' O', SwapSt O w gb S x y (m + 1) w' S' O') := by
        intro h hv wq hb
        have hn := hzs h
        have hang := hst.sm.asks two2 hn h
        have hbd := swap_bound hst.cnt hst.nl hc hl
        refine (graphTurn_is (hst.G.below hb) hst.sm two2 hst.full hn hv hang hbd.1 hbd.2).mono ?_
        rintro e w' ⟨he, S', hs, ht⟩
        obtain ⟨O', h'⟩ := (hst.below hb).turn hs ht hn hv hang
        exact ⟨he, S', O', h'⟩
      have hskip : (zN'.v = x → Sm.g.lev zN'.t ≠ l + 1 ∧ Sm.g.lev zN'.e ≠ l + 1) → ∀ wq, Below wr.heap.size wr wq → SwapSt O w gb S x y (m + 1) wq Sm Om := by
        intro h wq hb
        refine (hst.below hb).next ?_
        intro n hn hv
        have e := hzn n hn
        rw [← hzN] at e
        rw [e] at h
        exact hst.sm.no_ask two2 hn hv (h hv).1 (h hv).2
      obtain ⟨zv, zt, ze⟩ := zN'
      dsimp only at z0 z1 z2 hlt hle hturn hskip
      generalize Sm.g.lev zt = lt at hlt hturn hskip
      generalize Sm.g.lev ze = le at hle hturn hskip
      have HH : Hid _ := hst
      clear hst hA2 hz2 hzok hzs hzn hnode hzN hsm1 hsm2 HTWO two2 d2 d3 d4 hobc
      have hbx := (Below.refl wr.heap.size wr).alloc (Nat.le_refl _) (.cells #[.int .i64 (zv : Int), .int .i64 (zt : Int), .int .i64 (ze : Int)] 214)
      have hbh := heap_alloc_new wr (.cells #[.int .i64 (zv : Int), .int .i64 (zt : Int), .int .i64 (ze : Int)] 214)
      obtain ⟨Wb, hWb⟩ : ∃ Wb, Wb = wr.alloc (.cells #[.int .i64 (zv : Int), .int .i64 (zt : Int), .int .i64 (ze : Int)] 214) := ⟨_, rfl⟩
      rw [← hWb] at hbx hbh
      obtain ⟨q0, q1, q2⟩ := box3 hbh
      have g0 := (hbx.cell (p := ⟨gb, 0, none⟩) hgl2).trans d0
      have gx := (hbx.cell (p := ⟨ob, l, none⟩) hobl).trans cx
      have hlol : (l : Int) < (Sm.order.length : Int) := by omega
      have hltq : ∀ nq, Calls Tryz.prog 98 #[.pointer (some ⟨gb, 0, none⟩), .int .i64 zt] (Wb.drewN nq) fun e w' => e = .returned (.int .i64 (lt : Int)) ∧ ∃ mq, w' = Wb.drewN mq := by
        intro nq
        refine (hlt _ (below_drewN hbx nq)).mono ?_
        rintro e w' ⟨he, hw⟩
        exact ⟨he, nq + nlt, by rw [hw]; exact drewN_add _ _ _⟩
      have hleq : ∀ nq, Calls Tryz.prog 98 #[.pointer (some ⟨gb, 0, none⟩), .int .i64 ze] (Wb.drewN nq) fun e w' => e = .returned (.int .i64 (le : Int)) ∧ ∃ mq, w' = Wb.drewN mq := by
        intro nq
        refine (hle _ (below_drewN hbx nq)).mono ?_
        rintro e w' ⟨he, hw⟩
        exact ⟨he, nq + nle, by rw [hw]; exact drewN_add _ _ _⟩
      clear hlt hle
      go_upto_region 4 with fail
      rw [← hWb]
      clear hWb z0 z1 z2 d0 d1 hbh cx cy
      by_cases hv : zv = x
      · subst hv
        have e1 : ((zv : Int) == (zv : Int)) = true := by simp
        by_cases h1 : lt = l + 1
        · have hcall := hturn (.inl h1) rfl
          have e2 : ((lt : Int) == (l : Int) + 1) = true := by rw [h1]; simp
          clear hturn hskip h1
          go_quiet (first | (go_at_call_of 98 (Value.int .i64 (zt : Int)); exact hltq _) | (go_at_call_of 98 (Value.int .i64 (ze : Int)); exact hleq _))
          all_goals
            go_wp2_with (go_at_call 167; refine (hcall _ (below_drewN hbx _)).mono ?_; rintro e w9 ⟨rfl, S9, O9, hst9⟩)
            go_roundw
            case rel => exact ⟨m + 1, by omega, by go_num, S9, O9, hst9⟩
            case measure => simp [intOf]; omega
        · by_cases h2 : le = l + 1
          · have hcall := hturn (.inr h2) rfl
            have e2 : ((lt : Int) == (l : Int) + 1) = false := by simp; omega
            have e3 : ((le : Int) == (l : Int) + 1) = true := by rw [h2]; simp
            clear hturn hskip h1 h2
            go_quiet (first | (go_at_call_of 98 (Value.int .i64 (zt : Int)); exact hltq _) | (go_at_call_of 98 (Value.int .i64 (ze : Int)); exact hleq _))
            all_goals
              go_wp2_with (go_at_call 167; refine (hcall _ (below_drewN hbx _)).mono ?_; rintro e w9 ⟨rfl, S9, O9, hst9⟩)
              go_roundw
              case rel => exact ⟨m + 1, by omega, by go_num, S9, O9, hst9⟩
              case measure => simp [intOf]; omega
          · have hsk := hskip (fun _ => ⟨h1, h2⟩)
            have e2 : ((lt : Int) == (l : Int) + 1) = false := by simp; omega
            have e3 : ((le : Int) == (l : Int) + 1) = false := by simp; omega
            clear hturn hskip h1 h2
            go_quiet (first | (go_at_call_of 98 (Value.int .i64 (zt : Int)); exact hltq _) | (go_at_call_of 98 (Value.int .i64 (ze : Int)); exact hleq _))
            all_goals
              go_wp2_with fail
              go_roundw
              case rel => exact ⟨m + 1, by omega, by go_num, Sm, Om, hsk _ (below_drewN hbx _)⟩
              case measure => simp [intOf]; omega
      · have hsk := hskip (fun e => absurd e hv)
        have e1 : ((zv : Int) == (x : Int)) = false := by simp; omega
        clear hturn hskip hv hltq hleq
        go_quiet (fail)
        go_wp2_with fail
        go_roundw
        case rel => exact ⟨m + 1, by omega, by go_num, Sm, Om, hsk _ (below_drewN hbx _)⟩
        case measure => simp [intOf]; omega
    · have hm' : S.nl.length ≤ m := by omega
      have hdone := fun w' e => (hst.below (Below.refl _ _).drew).done (w' := w') (l := l) hm' HTWO.out (hA2.below (Below.refl _ _).drew) rfl e
      have f0 : wr.frozen? ⟨ob, l, none⟩ = false := frozen_of_heap hobc
      have f1 : wr.frozen? ⟨ob, l + 1, none⟩ = false := frozen_of_heap hobc
      have hlol : (l : Int) < (Sm.order.length : Int) := by omega
      have hlol2 : (l : Int) + 1 < (Sm.order.length : Int) := by omega
      have HD : Hid _ := hdone
      clear hdone hst hA2 hz2 HTWO two2 d1 d2 d3 d4 hobc
      go_wp2_with fail
      go_region
      all_goals
        first
          | exact ⟨rfl, HD.out _ rfl⟩
          | (go_wp2_with fail; exact ⟨rfl, HD.out _ rfl⟩)
          | (go_end0; exact ⟨rfl, HD.out _ rfl⟩)

end Go.Proofs.YtebfmcafmojlaaaGreatDoor

/-
  graph: Move.
-/
namespace Go.Proofs.YtebfmcafmojlaaaGreatDoor
open Go.RowKit Go.Maps
set_option linter.unusedSimpArgs false
set_option linter.unusedVariables false

theorem swap_erase {o : List Nat} {l x y : Nat} (hd : o.Nodup) (hx : x ∈ o) (hy : y ∈ o) (ix : o.idxOf x = l) (iy : o.idxOf y = l + 1) : (swapO o l x y).erase x = o.erase x ∧ (swapO o l x y).erase y = o.erase y := by
  obtain ⟨A, B, rfl, hl⟩ := two_split hd hx hy ix iy
  subst hl
  rw [swapO_split]
  rw [List.nodup_append] at hd
  obtain ⟨hA, hB, hAB⟩ := hd
  rw [List.nodup_cons, List.nodup_cons] at hB
  obtain ⟨hxB, hyB, hB⟩ := hB
  simp only [List.mem_cons, not_or] at hxB
  have hxA : x ∉ A := fun e => hAB x e x (by simp) rfl
  have hyA : y ∉ A := fun e => hAB y e y (by simp) rfl
  have e1 : (y == x) = false := by simpa using fun e => hxB.1 e.symm
  have e2 : (x == y) = false := by simpa using hxB.1
  constructor
  · rw [List.erase_append_right _ hxA, List.erase_append_right _ hxA, List.erase_cons, List.erase_cons, List.erase_cons]
    simp [e1]
  · rw [List.erase_append_right _ hyA, List.erase_append_right _ hyA, List.erase_cons, List.erase_cons, List.erase_cons]
    simp [e2]

/-- After j changes of places: v at level i, the others as they were to one another. -/
structure GrS.MoveSt (S S' : GrS) (v i j : Nat) : Prop where
  er : S'.order.erase v = S.order.erase v
  mem : ∀ u, u ∈ S'.order ↔ u ∈ S.order
  len : S'.order.length = S.order.length
  ix : S'.order.idxOf v = i
  ov : S'.ov = S.ov
  ok : S'.g.Ok
  full : S'.Full
  keeps : ∀ r, S.g.ok r → S'.g.ok r ∧ S'.g.tab r = S.g.tab r
  cnt : S'.nums.length ≤ 3 ^ j * 300
  nl : S'.nl.length ≤ 80000

theorem pow3_le {j : Nat} (h : j ≤ 4) : 3 ^ j * 300 ≤ 24300 := by
  have : 3 ^ j ≤ 3 ^ 4 := Nat.pow_le_pow_right (by omega) h
  have e : (3 : Nat) ^ 4 = 81 := rfl
  omega

theorem GrS.MoveSt.step {S S' S2 : GrS} {v i j l x y : Nat} (h : S.MoveSt S' v i j) (hs : S'.Swapped S2 l x y) (two : S'.g.Two l x y) (hj : j ≤ 4) (hv : (v = x ∧ i = l) ∨ (v = y ∧ i = l + 1)) : S.MoveSt S2 v (if v = x then l + 1 else l) (j + 1) := by
  have hsw := swapO_is h.ok.nodup two.hx two.hy two.ix two.iy
  have her := swap_erase h.ok.nodup two.hx two.hy two.ix two.iy
  have ho := hs.order
  refine ⟨?_, ?_, ?_, ?_, hs.ov.trans h.ov, hs.ok, hs.full, ?_, ?_, ?_⟩
  · rw [ho]
    rcases hv with ⟨e, _⟩ | ⟨e, _⟩
    · subst e; exact her.1.trans h.er
    · subst e; exact her.2.trans h.er
  · intro u; rw [ho]; exact (hsw.mem u).trans (h.mem u)
  · rw [ho]; exact hsw.len.trans h.len
  · rw [ho]
    rcases hv with ⟨e, _⟩ | ⟨e, _⟩
    · subst e; rw [if_pos rfl]; exact hsw.ix
    · subst e; rw [if_neg (fun e => two.ne e.symm)]; exact hsw.iy
  · intro r hr
    obtain ⟨h1, h2⟩ := h.keeps r hr
    obtain ⟨h3, h4⟩ := hs.keeps r h1
    exact ⟨h3, h4.trans h2⟩
  · have h1 := hs.cnt
    have h2 := h.cnt
    rw [Nat.pow_succ]
    omega
  · rcases hs.nl with e | e
    · rw [e]; exact h.nl
    · have h1 := hs.cnt
      have h2 := h.cnt
      have h3 := pow3_le hj
      omega

/-- Behind Move. -/
def MovePost (O : Nat → Prop) (w : World) (gb : Nat) (S : GrS) (v t : Nat) (e : Ending) (w' : World) : Prop := e = .returned (.tuple #[]) ∧ ∃ S', GrStep O w gb w' S' ∧ ∃ j, j ≤ 5 ∧ S.MoveSt S' v t j

theorem move_two {S' : GrS} (k : S'.g.Ok) {i : Nat} (h : i + 1 < S'.order.length) : ∃ x y, S'.order[i]? = some x ∧ S'.order[i + 1]? = some y ∧ S'.g.Two i x y := by
  refine ⟨S'.order[i], S'.order[i + 1], List.getElem?_eq_getElem (Nat.lt_of_succ_lt h), List.getElem?_eq_getElem h, ⟨List.getElem_mem _, List.getElem_mem _, ?_, ?_⟩⟩
  · exact List.Nodup.idxOf_getElem k.nodup i (Nat.lt_of_succ_lt h)
  · exact List.Nodup.idxOf_getElem k.nodup (i + 1) h

theorem idx_get {o : List Nat} {v i x : Nat} (hv : v ∈ o) (h : o.idxOf v = i) (hx : o[i]? = some x) : v = x := by
  have hm := List.idxOf_lt_length_of_mem hv
  have := List.getElem?_eq_some_iff.2 ⟨hm, List.getElem_idxOf hm⟩
  rw [h, hx] at this
  exact (Option.some.inj this).symm

theorem move_down {O : Nat → Prop} {w : World} {gb : Nat} {S S' : GrS} {v i j t : Nat} (hG : GrIs O w gb S') (h : S.MoveSt S' v i j) (hv : v ∈ S.order) (hit : i < t) (ht : t < S.order.length) (hj : j ≤ 4) :
    Calls Tryz.prog 146 #[.pointer (some ⟨gb, 0, none⟩), .int .i64 (i : Int)] w (fun e w' => e = .returned (.tuple #[]) ∧ ∃ S2, GrStep O w gb w' S2 ∧ S.MoveSt S2 v (i + 1) (j + 1)) := by
  obtain ⟨x, y, hx, hy, two⟩ := move_two h.ok (i := i) (by rw [h.len]; omega)
  have hvx : v = x := idx_get ((h.mem v).2 hv) h.ix hx
  refine (graphSwap_is hG h.ok two h.full (Nat.le_trans h.cnt (pow3_le hj)) h.nl).mono ?_
  rintro e w' ⟨he, S2, hs, hsw⟩
  have := h.step hsw two hj (.inl ⟨hvx, rfl⟩)
  rw [if_pos hvx] at this
  exact ⟨he, S2, hs, this⟩

theorem move_up {O : Nat → Prop} {w : World} {gb : Nat} {S S' : GrS} {v i j : Nat} (hG : GrIs O w gb S') (h : S.MoveSt S' v (i + 1) j) (hv : v ∈ S.order) (hi : i + 1 < S.order.length) (hj : j ≤ 4) :
    Calls Tryz.prog 146 #[.pointer (some ⟨gb, 0, none⟩), .int .i64 (i : Int)] w (fun e w' => e = .returned (.tuple #[]) ∧ ∃ S2, GrStep O w gb w' S2 ∧ S.MoveSt S2 v i (j + 1)) := by
  obtain ⟨x, y, hx, hy, two⟩ := move_two h.ok (i := i) (by rw [h.len]; omega)
  have hvy : v = y := idx_get ((h.mem v).2 hv) h.ix hy
  refine (graphSwap_is hG h.ok two h.full (Nat.le_trans h.cnt (pow3_le hj)) h.nl).mono ?_
  rintro e w' ⟨he, S2, hs, hsw⟩
  have := h.step hsw two hj (.inr ⟨hvy, rfl⟩)
  rw [if_neg (by rw [hvy]; exact fun e => two.ne e.symm)] at this
  exact ⟨he, S2, hs, this⟩

set_option maxHeartbeats 2000000 in
set_option maxRecDepth 10000 in
theorem graphMove_is {O : Nat → Prop} {w : World} {gb : Nat} {S : GrS} {v t : Nat} (hG : GrIs O w gb S) (k : S.g.Ok) (hF : S.Full) (hv : v ∈ S.order) (ht : t < S.order.length) (hc : S.nums.length ≤ 300) (hl : S.nl.length ≤ 80000) :
    Calls Tryz.prog 92 #[.pointer (some ⟨gb, 0, none⟩), .int .i64 (v : Int), .int .i64 (t : Int)] w (MovePost O w gb S v t) := by
  have hol : S.order.length ≤ 6 := hG.ol
  obtain ⟨i0, hi0⟩ : ∃ i0, i0 = S.order.idxOf v := ⟨_, rfl⟩
  have hil : i0 < S.order.length := by rw [hi0]; exact List.idxOf_lt_length_of_mem hv
  have hst0 : S.MoveSt S v i0 0 := ⟨rfl, fun _ => Iff.rfl, rfl, hi0.symm, rfl, k, hF, fun r h => ⟨h, rfl⟩, by omega, hl⟩
  have hGs : GrStep O w gb w S := hG.step (Below.refl _ _)
  obtain ⟨ov, nv, fv, mb, rb, M, R, hA⟩ := hG
  obtain ⟨c0, c1, c2, c3, c4⟩ := hA.c
  obtain ⟨ao, cap, eo, hro⟩ := order_reads hA
  subst eo
  have hix := slicesIndex_is (.slice ao S.order.length cap) S.order v w hro (by omega)
  have hidx : idxI S.order v = (i0 : Int) := by rw [idxI_mem hv, hi0]
  rw [hidx] at hix
  have hdown := fun (O' : Nat → Prop) (w' : World) (S' : GrS) (i j : Nat) (h1 : GrIs O' w' gb S') (h2 : S.MoveSt S' v i j) (h3 : i < t) (h4 : j ≤ 4) => move_down (t := t) h1 h2 hv h3 ht h4
  have hup := fun (O' : Nat → Prop) (w' : World) (S' : GrS) (i j : Nat) (h1 : GrIs O' w' gb S') (h2 : S.MoveSt S' v (i + 1) j) (h3 : i + 1 < S.order.length) (h4 : j ≤ 4) => move_up h1 h2 hv h3 h4
  clear hA k hF hv hc hl c1 c2 c3 c4 hro hidx hi0
  go_enter Tryz.func92, Tryz.ntmps92
  go_wp2_with (go_at_call 81; refine hix.mono ?_; rintro e w1 ⟨rfl, rfl⟩)
  have hz : ∀ m : Nat, m < S.order.length → IntKind.i64.wrap ((m : Int) + 1) = (m : Int) + 1 := fun m h => wrap_six _ (by omega)
  clear hix c0
  go_loopw [6] (fun i wr => ∃ m : Nat, m < S.order.length ∧ i = .int .i64 m ∧ ∃ S' j, GrStep O w1 gb wr S' ∧ S.MoveSt S' v m j ∧ j + (t - m) + (m - t) ≤ 5) (fun i _ => t - (intOf i).toNat)
  case atStart => exact ⟨i0, hil, rfl, S, 0, hGs, hst0, by omega⟩
  case round =>
    obtain ⟨m, hm, rfl, S', j, hs, hst, hj⟩ := hrel
    clear hGs hst0
    by_cases hmt : m < t
    · obtain ⟨ho, O', hi, hg⟩ := hs
      have hcall := hdown O' _ S' m j hi hst hmt (by omega)
      have hwm := hz m hm
      clear hdown hup
      go_wp2_with (go_at_call 146; refine hcall.mono ?_; rintro e w9 ⟨rfl, S9, hs9, hst9⟩)
      go_roundw
      case rel => exact ⟨m + 1, by omega, by go_num, S9, j + 1, GrStep.trans ho hg hs9, hst9, by omega⟩
      case measure => simp [intOf]; omega
    · go_wp2_with fail
      go_loopw [6] (fun i wr => ∃ m : Nat, t ≤ m ∧ m < S.order.length ∧ i = .int .i64 m ∧ ∃ S' j, GrStep O w1 gb wr S' ∧ S.MoveSt S' v m j ∧ j + (m - t) ≤ 5) (fun i _ => (intOf i).toNat)
      case atStart => exact ⟨m, by omega, hm, rfl, S', j, hs, hst, by omega⟩
      case round =>
        obtain ⟨n, htn, hn, rfl, S2, j2, hs2, hst2, hj2⟩ := hrel
        clear hs hst hj hdown
        by_cases hnt : t < n
        · obtain ⟨n1, rfl⟩ : ∃ n1, n = n1 + 1 := ⟨n - 1, by omega⟩
          obtain ⟨ho, O', hi, hg⟩ := hs2
          have hcall := hup O' _ S2 n1 j2 hi hst2 hn (by omega)
          clear hup
          go_wp2_with (go_at_call 146; refine hcall.mono ?_; rintro e w9 ⟨rfl, S9, hs9, hst9⟩)
          go_roundw
          case rel => exact ⟨n1, by omega, by omega, by go_num, S9, j2 + 1, GrStep.trans ho hg hs9, hst9, by omega⟩
          case measure => simp [intOf]
        · have e : n = t := by omega
          subst e
          clear hup
          go_wp2_with fail
          go_end0
          exact ⟨rfl, S2, hs2, j2, by omega, hst2⟩

end Go.Proofs.YtebfmcafmojlaaaGreatDoor

/-
  slices.Clone, of numbers and of nodes.
-/
namespace Go.Proofs.YtebfmcafmojlaaaGreatDoor
open Go.RowKit Go.Maps
set_option linter.unusedSimpArgs false
set_option linter.unusedVariables false

theorem owns_empty (w : World) (e : TypeId) (size : Nat) : (w.alloc (.cells #[] e)).ownsRow w.heap.size e size (.slice (some ⟨w.heap.size, 0, none⟩) 0 0) 0 [] :=
  ⟨by simp, .inr ⟨w.heap.size, 0, #[], rfl, Nat.le_refl _, heap_alloc_new w _, Nat.le_refl _, Nat.zero_le _, by simp, by simp⟩⟩

theorem owned_news {w : World} {e : TypeId} {size g n cap : Nat} {xs : List Value} (h : w.ownsRow 0 e size (.slice (some ⟨g, 0, none⟩) n cap) n xs) (o : Obj) : ∀ j u, xs[j]? = some u → (w.alloc o).cell? ((⟨g, 0, none⟩ : Addr).add j) = some u := by
  intro j u hj
  have hgl := (h.lt g rfl).2
  have h1 := h.cells (g := g) rfl j u hj
  rw [Addr.add_lit] at h1 ⊢
  rw [← h1]
  exact World.cell?_of_block (Below.heap_alloc w o g hgl)

set_option maxHeartbeats 400000 in
set_option maxRecDepth 10000 in
theorem slicesCloneI {w : World} {v : Value} {xs : List Nat} (h : w.ownsRow 0 3 1 v xs.length (xs.map natv)) (hl : xs.length ≤ 100000) :
    Calls Tryz.prog 90 #[v] w fun e w' => ∃ v', e = .returned v' ∧ w'.ownsRow w.heap.size 3 1 v' xs.length (xs.map natv) ∧ Below w.heap.size w w' := by
  obtain ⟨i0, hi, hz0, hz1, hz2⟩ := info_parts Tryz.infoIntP
  by_cases hnil : v = .slice none 0 0
  · subst hnil
    have h0 : xs = [] := by
      rcases h.2 with ⟨_, h0⟩ | ⟨g, cap, cur, e, _⟩
      · exact List.eq_nil_of_length_eq_zero h0
      · cases e
    subst h0
    clear h
    go_enter Tryz.func90, Tryz.ntmps90
    have hq : ∀ W : World, (binOp BinOp.eql 25 (.slice none 0 0) (.slice none 0 0)).run Tryz.prog W = .ok (.bool true) W := fun _ => rfl
    go_wp2
    go_ret
    exact ⟨_, rfl, World.ownsRow_nil _ _ _ _, Below.refl _ _⟩
  · obtain ⟨g, cap, rfl⟩ : ∃ g cap, v = .slice (some ⟨g, 0, none⟩) xs.length cap := by
      rcases h.2 with ⟨e, _⟩ | ⟨g, cap, cur, e, _⟩
      · exact absurd e hnil
      · exact ⟨g, cap, e⟩
    clear hnil
    have hnews := owned_news h (.cells #[] 3)
    have hem := owns_empty w 3 1
    have hln : (xs.map natv).length = xs.length * 1 := by simp
    have h1 : ∀ u ∈ xs.map natv, u.oneCell' = true := by
      intro u hu
      obtain ⟨y, _, rfl⟩ := List.mem_map.1 hu
      rfl
    obtain ⟨X, hX⟩ : ∃ X, X = xs.map natv := ⟨_, rfl⟩
    obtain ⟨N, hN⟩ : ∃ N, N = xs.length := ⟨_, rfl⟩
    rw [← hX] at hnews h1
    rw [← hX, ← hN] at hln
    rw [← hX, ← hN]
    rw [← hN] at hl
    have HNW : Hid _ := hnews
    clear h hX hN hnews
    go_enter Tryz.func90, Tryz.ntmps90
    have hq : ∀ (W : World) (n : Nat), (binOp BinOp.eql 25 (.slice (some ⟨g, 0, none⟩) n cap) (.slice none 0 0)).run Tryz.prog W = .ok (.bool false) W := fun _ _ => rfl
    go_wp2_with (at_builtin; refine wpList_append_placed rfl (.tmp 5) (.tmp 6) 25 rfl w.heap.size 3 i0 (.int .i64 0) 1 8 Tryz.underlying25 hi hz0 hz1 hz2 rfl (by decide) _ 0 [] rfl hem _ N cap X rfl hln HNW.out h1 ?_ ?_ ?_ ?_; (unfold maxLen; omega); omega; simp; intro v' w1 ho hg hp; have hbl := ((Below.refl w.heap.size w).alloc (Nat.le_refl _) (.cells #[] 3)).grown hg (by simp) (fun k hk => (hem.lt k hk).1); rw [Nat.zero_add, List.nil_append] at ho; have HQ : Hid (w1.ownsRow w.heap.size 3 1 v' N X ∧ Below w.heap.size w w1) := ⟨ho, hbl⟩; clear ho hg hp hbl HNW hem)
    go_ret
    exact ⟨_, rfl, HQ.out.1, HQ.out.2⟩

set_option maxHeartbeats 400000 in
set_option maxRecDepth 10000 in
theorem slicesCloneN {w : World} {v : Value} {N : Nat} {X : List Value} (h : w.ownsRow 0 214 3 v N X) (h1 : ∀ u ∈ X, u.oneCell' = true) (hl : N ≤ 100000) :
    Calls Tryz.prog 144 #[v] w fun e w' => ∃ v', e = .returned v' ∧ w'.ownsRow w.heap.size 214 3 v' N X ∧ Below w.heap.size w w' := by
  obtain ⟨i0, hi, hz0, hz1, hz2⟩ := info_parts Tryz.infoNode
  by_cases hnil : v = .slice none 0 0
  · subst hnil
    have h0 : N = 0 := by
      rcases h.2 with ⟨_, h0⟩ | ⟨g, cap, cur, e, _⟩
      · exact h0
      · cases e
    have hX : X = [] := List.eq_nil_of_length_eq_zero (by rw [h.1, h0])
    subst h0
    subst hX
    clear h
    go_enter Tryz.func144, Tryz.ntmps144
    have hq : ∀ W : World, (binOp BinOp.eql 152 (.slice none 0 0) (.slice none 0 0)).run Tryz.prog W = .ok (.bool true) W := fun _ => rfl
    go_wp2
    go_ret
    exact ⟨_, rfl, World.ownsRow_nil _ _ _ _, Below.refl _ _⟩
  · obtain ⟨g, cap, rfl⟩ : ∃ g cap, v = .slice (some ⟨g, 0, none⟩) N cap := by
      rcases h.2 with ⟨e, _⟩ | ⟨g, cap, cur, e, _⟩
      · exact absurd e hnil
      · exact ⟨g, cap, e⟩
    clear hnil
    have hnews := owned_news h (.cells #[] 214)
    have hem := owns_empty w 214 3
    have hln : X.length = N * 3 := h.1
    have HNW : Hid _ := hnews
    clear h hnews
    go_enter Tryz.func144, Tryz.ntmps144
    have hq : ∀ (W : World) (n : Nat), (binOp BinOp.eql 152 (.slice (some ⟨g, 0, none⟩) n cap) (.slice none 0 0)).run Tryz.prog W = .ok (.bool false) W := fun _ _ => rfl
    go_wp2_with (at_builtin; refine wpList_append_placed rfl (.tmp 5) (.tmp 6) 152 rfl w.heap.size 214 i0 (.agg #[.int .i64 0, .int .i64 0, .int .i64 0]) 3 24 Tryz.underlying152 hi hz0 hz1 hz2 rfl (by decide) _ 0 [] rfl hem _ N cap X rfl hln HNW.out h1 ?_ ?_ ?_ ?_; (unfold maxLen; omega); omega; simp; intro v' w1 ho hg hp; have hbl := ((Below.refl w.heap.size w).alloc (Nat.le_refl _) (.cells #[] 214)).grown hg (by simp) (fun k hk => (hem.lt k hk).1); rw [Nat.zero_add, List.nil_append] at ho; have HQ : Hid (w1.ownsRow w.heap.size 214 3 v' N X ∧ Below w.heap.size w w1) := ⟨ho, hbl⟩; clear ho hg hp hbl HNW hem)
    go_ret
    exact ⟨_, rfl, HQ.out.1, HQ.out.2⟩

end Go.Proofs.YtebfmcafmojlaaaGreatDoor

