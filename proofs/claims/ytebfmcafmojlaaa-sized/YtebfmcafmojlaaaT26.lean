/-
  graph: swap.
-/
import Derived.BigRegion
import Derived.Test.YtebfmcafmojlaaaT25
import Derived.Test.YtebfmcafmojlaaaT24
namespace Go.Proofs.Ytebfmcafmojlaaa
open Go.RowKit Go.Maps
set_option linter.unusedSimpArgs false
set_option linter.unusedVariables false

def SwapPost (O : Nat → Prop) (w : World) (gb : Nat) (S : GrS) (l x y : Nat) (e : Ending) (w' : World) : Prop := e = .returned (.tuple #[]) ∧ ∃ S', GrStep O w gb w' S' ∧ S.Swapped S' l x y

theorem order_at {O : Nat → Prop} {w : World} {gb : Nat} {S : GrS} {ov nv fv : Value} {mb rb : Nat} {M R : List (Value × Value)} (h : GrAt O w gb S ov nv fv mb rb M R) {l x y : Nat} (two : S.g.Two l x y) : ∃ ob cap cur, ov = .slice (some ⟨ob, 0, none⟩) S.order.length cap ∧ l + 1 < S.order.length ∧ ob < w.heap.size ∧ w.heap[ob]? = some (.cells cur 3 (0, 0)) ∧ w.cell? ⟨ob, l, none⟩ = some (.int .i64 (x : Int)) ∧ w.cell? ⟨ob, l + 1, none⟩ = some (.int .i64 (y : Int)) := by
  have hm : S.order.idxOf y < S.order.length := List.idxOf_lt_length_of_mem two.hy
  have hm0 : S.order.idxOf x < S.order.length := List.idxOf_lt_length_of_mem two.hx
  have h2 : S.order.idxOf y = l + 1 := two.iy
  have h1 : S.order.idxOf x = l := two.ix
  have hr := h.order.1
  rw [List.length_map] at hr
  rcases hr.2 with ⟨rfl, h0⟩ | ⟨ob, cap, cur, e, _, hg, _⟩
  · omega
  · have gx : S.order[l]? = some x := by rw [← h1]; exact List.getElem?_eq_some_iff.2 ⟨hm0, List.getElem_idxOf hm0⟩
    have gy : S.order[l + 1]? = some y := by rw [← h2]; exact List.getElem?_eq_some_iff.2 ⟨hm, List.getElem_idxOf hm⟩
    have c1 := hr.cells (g := ob) (by rw [e]; rfl) l (natv x) (by rw [List.getElem?_map, gx]; rfl)
    have c2 := hr.cells (g := ob) (by rw [e]; rfl) (l + 1) (natv y) (by rw [List.getElem?_map, gy]; rfl)
    rw [Addr.add_lit, Nat.zero_add] at c1 c2
    exact ⟨ob, cap, cur, e, by omega, own_lt2 hg, hg, c1, c2⟩

theorem z_ok {G : Gr} {ex : Nat → Nat → Prop} (k : G.Sm ex) (i : Nat) : G.ok (ndZ (G.node i)).t ∧ G.ok (ndZ (G.node i)).e := by
  cases h : G.node i with
  | none => exact ⟨.inl rfl, .inl rfl⟩
  | some n => exact ⟨k.tok h, k.eok h⟩

theorem z_some {G : Gr} {ex : Nat → Nat → Prop} (k : G.Sm ex) {i l : Nat} (hl : l + 1 < G.order.length) (h : G.lev (ndZ (G.node i)).t = l + 1 ∨ G.lev (ndZ (G.node i)).e = l + 1) : G.node i = some (ndZ (G.node i)) := by
  cases e : G.node i with
  | some n => rfl
  | none =>
    rw [e] at h
    have h0 : G.lev 0 = G.order.length := Gr.Sm.lev_const k rfl
    have h1 : G.lev (ndZ none).t = G.lev 0 := rfl
    have h2 : G.lev (ndZ none).e = G.lev 0 := rfl
    omega

theorem swap_bound {S Sm : GrS} {m : Nat} (hcnt : Sm.nums.length ≤ S.nums.length + 2 * (S.nums.filter (fun i => decide (i < m))).length) (hnl : Sm.nl.length = S.nl.length ∨ Sm.nl.length ≤ Sm.nums.length + 1) (hc : S.nums.length ≤ 24300) (hl : S.nl.length ≤ 80000) : Sm.nums.length ≤ 80000 ∧ Sm.nl.length ≤ 90000 := by
  have h2 : (S.nums.filter (fun i => decide (i < m))).length ≤ S.nums.length := List.length_filter_le _ _
  omega

theorem drewN_add (w : World) (a b : Nat) : (w.drewN a).drewN b = w.drewN (a + b) := by
  unfold World.drewN
  simp [Nat.add_assoc]

set_option maxHeartbeats 4000000 in
set_option maxRecDepth 10000 in
theorem graphSwap_is {O : Nat → Prop} {w : World} {gb : Nat} {S : GrS} {l x y : Nat} (hG : GrIs O w gb S) (k : S.g.Ok) (two : S.g.Two l x y) (hF : S.Full) (hc : S.nums.length ≤ 24300) (hl : S.nl.length ≤ 80000) :
    Calls Try.prog 73 #[.pointer (some ⟨gb, 0, none⟩), .int .i64 (l : Int)] w (SwapPost O w gb S l x y) := by
  have hst0 : SwapSt O w gb S x y 0 w S O := SwapSt.start hG k hF
  obtain ⟨ov, nv, fv, mb, rb, M, R, hA⟩ := hG
  obtain ⟨c0, c1, c2, c3, c4⟩ := hA.c
  obtain ⟨nb, ncap, en, hnbl, hz⟩ := hA.zAt
  subst en
  have hol := hA.ol
  obtain ⟨N, hN⟩ : ∃ N, N = S.nl.length := ⟨_, rfl⟩
  rw [← hN] at c1
  have hlo : l + 1 < S.order.length := by
    obtain ⟨_, _, _, _, h, _⟩ := order_at hA two
    exact h
  have hl6 : l < 6 := by omega
  have hwr : IntKind.i64.wrap ((l : Int) + 1) = (l : Int) + 1 := wrap_six _ (by omega)
  have HTWO : Hid (S.g.Two l x y) := two
  clear hA k two hF c0 c2 c3 c4 hz
  go_enter Try.func73, Try.ntmps73
  go_wp2_with fail
  go_loopw [11] (fun i wr => ∃ m : Nat, m ≤ N ∧ i = .int .i64 m ∧ ∃ Sm Om, SwapSt O w gb S x y m wr Sm Om) (fun i _ => N - (intOf i).toNat)
  case atStart => exact ⟨0, Nat.zero_le _, rfl, S, O, hst0⟩
  case round =>
    obtain ⟨m, hm, rfl, Sm, Om, hst⟩ := hrel
    clear hst0 c1 hnbl
    have two2 : Sm.g.Two l x y := HTWO.out.ext hst.order
    obtain ⟨ov2, nv2, fv2, mb2, rb2, M2, R2, hA2⟩ := hst.G
    obtain ⟨d0, d1, d2, d3, d4⟩ := hA2.c
    obtain ⟨nb2, ncap2, en2, hnb2, hz2⟩ := hA2.zAt
    subst en2
    obtain ⟨ob, cap, cur, eo, hlo2, hobl, hobc, cx, cy⟩ := order_at hA2 two2
    subst eo
    have hgl2 := hA2.lt gb hA2.self
    by_cases hml : m < N
    · have hmS : m < Sm.nl.length := Nat.lt_of_lt_of_le (by omega) hst.le
      obtain ⟨z0, z1, z2⟩ := hz2 m hmS
      have hzok := z_ok hst.sm m
      have hzs := fun h => z_some hst.sm (i := m) (l := l) hlo2 h
      have hzn : ∀ n, Sm.g.node m = some n → ndZ (Sm.g.node m) = n := by intro n h; rw [h]; rfl
      have hnode : Sm.nl.getD m none = Sm.g.node m := rfl
      rw [hnode] at z0 z1 z2
      have hsm1 := hA2.small hzok.1
      have hsm2 := hA2.small hzok.2
      obtain ⟨zN', hzN⟩ : ∃ z, z = ndZ (Sm.g.node m) := ⟨_, rfl⟩
      rw [← hzN] at z0 z1 z2 hzok hzs hsm1 hsm2
      obtain ⟨nlt, hlt⟩ : ∃ n, ∀ wq, Below wr.heap.size wr wq → Calls Try.prog 62 #[.pointer (some ⟨gb, 0, none⟩), .int .i64 zN'.t] wq fun e w' => e = .returned (.int .i64 (Sm.g.lev zN'.t : Nat)) ∧ w' = wq.drewN n := by
        refine ⟨if zN'.t / 2 = 0 then 0 else 1, fun wq hb => (graphLevel2_w (hst.G.below hb) hst.sm zN'.t hzok.1).mono ?_⟩
        rintro e w' ⟨he, hw⟩
        refine ⟨he, ?_⟩
        rw [hw]
        split <;> rfl
      obtain ⟨nle, hle⟩ : ∃ n, ∀ wq, Below wr.heap.size wr wq → Calls Try.prog 62 #[.pointer (some ⟨gb, 0, none⟩), .int .i64 zN'.e] wq fun e w' => e = .returned (.int .i64 (Sm.g.lev zN'.e : Nat)) ∧ w' = wq.drewN n := by
        refine ⟨if zN'.e / 2 = 0 then 0 else 1, fun wq hb => (graphLevel2_w (hst.G.below hb) hst.sm zN'.e hzok.2).mono ?_⟩
        rintro e w' ⟨he, hw⟩
        refine ⟨he, ?_⟩
        rw [hw]
        split <;> rfl
      have hturn : (Sm.g.lev zN'.t = l + 1 ∨ Sm.g.lev zN'.e = l + 1) → zN'.v = x → ∀ wq, Below wr.heap.size wr wq → Calls Try.prog 80 #[.pointer (some ⟨gb, 0, none⟩), .int .i64 (m : Int), .int .i64 (l : Int)] wq (fun e w' => e = .returned (.tuple #[]) ∧ ∃ S' O', SwapSt O w gb S x y (m + 1) w' S' O') := by
        intro h hv wq hb
        have hn := hzs h
        have hang := hst.sm.asks two2 hn h
        have hbd := swap_bound hst.cnt hst.nl hc hl
        refine (graphTurn_is (hst.G.below hb) hst.sm two2 hst.full hn hv hang hbd.1 hbd.2).mono ?_
        rintro e w' ⟨he, S', hs, ht⟩
        obtain ⟨O', h'⟩ := (hst.below hb).turn hs ht hn hv hang
        exact ⟨he, S', O', h'⟩
      have hskip : (zN'.v = x → Sm.g.lev zN'.t ≠ l + 1 ∧ Sm.g.lev zN'.e ≠ l + 1) → ∀ wq, Below wr.heap.size wr wq → SwapSt O w gb S x y (m + 1) wq Sm Om := by
        intro h wq hb
        refine (hst.below hb).next ?_
        intro n hn hv
        have e := hzn n hn
        rw [← hzN] at e
        rw [e] at h
        exact hst.sm.no_ask two2 hn hv (h hv).1 (h hv).2
      obtain ⟨zv, zt, ze⟩ := zN'
      dsimp only at z0 z1 z2 hlt hle hturn hskip
      generalize Sm.g.lev zt = lt at hlt hturn hskip
      generalize Sm.g.lev ze = le at hle hturn hskip
      have HH : Hid _ := hst
      clear hst hA2 hz2 hzok hzs hzn hnode hzN hsm1 hsm2 HTWO two2 d2 d3 d4 hobc
      have hbx := (Below.refl wr.heap.size wr).alloc (Nat.le_refl _) (.cells #[.int .i64 (zv : Int), .int .i64 (zt : Int), .int .i64 (ze : Int)] 97)
      have hbh := heap_alloc_new wr (.cells #[.int .i64 (zv : Int), .int .i64 (zt : Int), .int .i64 (ze : Int)] 97)
      obtain ⟨Wb, hWb⟩ : ∃ Wb, Wb = wr.alloc (.cells #[.int .i64 (zv : Int), .int .i64 (zt : Int), .int .i64 (ze : Int)] 97) := ⟨_, rfl⟩
      rw [← hWb] at hbx hbh
      obtain ⟨q0, q1, q2⟩ := box3 hbh
      have g0 := (hbx.cell (p := ⟨gb, 0, none⟩) hgl2).trans d0
      have gx := (hbx.cell (p := ⟨ob, l, none⟩) hobl).trans cx
      have hlol : (l : Int) < (Sm.order.length : Int) := by omega
      have hltq : ∀ nq, Calls Try.prog 62 #[.pointer (some ⟨gb, 0, none⟩), .int .i64 zt] (Wb.drewN nq) fun e w' => e = .returned (.int .i64 (lt : Int)) ∧ ∃ mq, w' = Wb.drewN mq := by
        intro nq
        refine (hlt _ (below_drewN hbx nq)).mono ?_
        rintro e w' ⟨he, hw⟩
        exact ⟨he, nq + nlt, by rw [hw]; exact drewN_add _ _ _⟩
      have hleq : ∀ nq, Calls Try.prog 62 #[.pointer (some ⟨gb, 0, none⟩), .int .i64 ze] (Wb.drewN nq) fun e w' => e = .returned (.int .i64 (le : Int)) ∧ ∃ mq, w' = Wb.drewN mq := by
        intro nq
        refine (hle _ (below_drewN hbx nq)).mono ?_
        rintro e w' ⟨he, hw⟩
        exact ⟨he, nq + nle, by rw [hw]; exact drewN_add _ _ _⟩
      clear hlt hle
      go_upto_region 4 with fail
      rw [← hWb]
      clear hWb z0 z1 z2 d0 d1 hbh cx cy
      by_cases hv : zv = x
      · subst hv
        have e1 : ((zv : Int) == (zv : Int)) = true := by simp
        by_cases h1 : lt = l + 1
        · have hcall := hturn (.inl h1) rfl
          have e2 : ((lt : Int) == (l : Int) + 1) = true := by rw [h1]; simp
          clear hturn hskip h1
          go_quiet (first | (go_at_call_of 62 (Value.int .i64 (zt : Int)); exact hltq _) | (go_at_call_of 62 (Value.int .i64 (ze : Int)); exact hleq _))
          all_goals
            go_wp2_with (go_at_call 80; refine (hcall _ (below_drewN hbx _)).mono ?_; rintro e w9 ⟨rfl, S9, O9, hst9⟩)
            go_roundw
            case rel => exact ⟨m + 1, by omega, by go_num, S9, O9, hst9⟩
            case measure => simp [intOf]; omega
        · by_cases h2 : le = l + 1
          · have hcall := hturn (.inr h2) rfl
            have e2 : ((lt : Int) == (l : Int) + 1) = false := by simp; omega
            have e3 : ((le : Int) == (l : Int) + 1) = true := by rw [h2]; simp
            clear hturn hskip h1 h2
            go_quiet (first | (go_at_call_of 62 (Value.int .i64 (zt : Int)); exact hltq _) | (go_at_call_of 62 (Value.int .i64 (ze : Int)); exact hleq _))
            all_goals
              go_wp2_with (go_at_call 80; refine (hcall _ (below_drewN hbx _)).mono ?_; rintro e w9 ⟨rfl, S9, O9, hst9⟩)
              go_roundw
              case rel => exact ⟨m + 1, by omega, by go_num, S9, O9, hst9⟩
              case measure => simp [intOf]; omega
          · have hsk := hskip (fun _ => ⟨h1, h2⟩)
            have e2 : ((lt : Int) == (l : Int) + 1) = false := by simp; omega
            have e3 : ((le : Int) == (l : Int) + 1) = false := by simp; omega
            clear hturn hskip h1 h2
            go_quiet (first | (go_at_call_of 62 (Value.int .i64 (zt : Int)); exact hltq _) | (go_at_call_of 62 (Value.int .i64 (ze : Int)); exact hleq _))
            all_goals
              go_wp2_with fail
              go_roundw
              case rel => exact ⟨m + 1, by omega, by go_num, Sm, Om, hsk _ (below_drewN hbx _)⟩
              case measure => simp [intOf]; omega
      · have hsk := hskip (fun e => absurd e hv)
        have e1 : ((zv : Int) == (x : Int)) = false := by simp; omega
        clear hturn hskip hv hltq hleq
        go_quiet (fail)
        go_wp2_with fail
        go_roundw
        case rel => exact ⟨m + 1, by omega, by go_num, Sm, Om, hsk _ (below_drewN hbx _)⟩
        case measure => simp [intOf]; omega
    · have hm' : S.nl.length ≤ m := by omega
      have hdone := fun w' e => (hst.below (Below.refl _ _).drew).done (w' := w') (l := l) hm' HTWO.out (hA2.below (Below.refl _ _).drew) rfl e
      have f0 : wr.frozen? ⟨ob, l, none⟩ = false := frozen_of_heap hobc
      have f1 : wr.frozen? ⟨ob, l + 1, none⟩ = false := frozen_of_heap hobc
      have hlol : (l : Int) < (Sm.order.length : Int) := by omega
      have hlol2 : (l : Int) + 1 < (Sm.order.length : Int) := by omega
      have HD : Hid _ := hdone
      clear hdone hst hA2 hz2 HTWO two2 d1 d2 d3 d4 hobc
      go_wp2_with fail
      go_region
      all_goals
        first
          | exact ⟨rfl, HD.out _ rfl⟩
          | (go_wp2_with fail; exact ⟨rfl, HD.out _ rfl⟩)
          | (go_end0; exact ⟨rfl, HD.out _ rfl⟩)

end Go.Proofs.Ytebfmcafmojlaaa

/-
  graph: Move.
-/
namespace Go.Proofs.Ytebfmcafmojlaaa
open Go.RowKit Go.Maps
set_option linter.unusedSimpArgs false
set_option linter.unusedVariables false

theorem swap_erase {o : List Nat} {l x y : Nat} (hd : o.Nodup) (hx : x ∈ o) (hy : y ∈ o) (ix : o.idxOf x = l) (iy : o.idxOf y = l + 1) : (swapO o l x y).erase x = o.erase x ∧ (swapO o l x y).erase y = o.erase y := by
  obtain ⟨A, B, rfl, hl⟩ := two_split hd hx hy ix iy
  subst hl
  rw [swapO_split]
  rw [List.nodup_append] at hd
  obtain ⟨hA, hB, hAB⟩ := hd
  rw [List.nodup_cons, List.nodup_cons] at hB
  obtain ⟨hxB, hyB, hB⟩ := hB
  simp only [List.mem_cons, not_or] at hxB
  have hxA : x ∉ A := fun e => hAB x e x (by simp) rfl
  have hyA : y ∉ A := fun e => hAB y e y (by simp) rfl
  have e1 : (y == x) = false := by simpa using fun e => hxB.1 e.symm
  have e2 : (x == y) = false := by simpa using hxB.1
  constructor
  · rw [List.erase_append_right _ hxA, List.erase_append_right _ hxA, List.erase_cons, List.erase_cons, List.erase_cons]
    simp [e1]
  · rw [List.erase_append_right _ hyA, List.erase_append_right _ hyA, List.erase_cons, List.erase_cons, List.erase_cons]
    simp [e2]

/-- After j changes of places: v at level i, the others as they were to one another. -/
structure GrS.MoveSt (S S' : GrS) (v i j : Nat) : Prop where
  er : S'.order.erase v = S.order.erase v
  mem : ∀ u, u ∈ S'.order ↔ u ∈ S.order
  len : S'.order.length = S.order.length
  ix : S'.order.idxOf v = i
  ov : S'.ov = S.ov
  ok : S'.g.Ok
  full : S'.Full
  keeps : ∀ r, S.g.ok r → S'.g.ok r ∧ S'.g.tab r = S.g.tab r
  cnt : S'.nums.length ≤ 3 ^ j * 300
  nl : S'.nl.length ≤ 80000

theorem pow3_le {j : Nat} (h : j ≤ 4) : 3 ^ j * 300 ≤ 24300 := by
  have : 3 ^ j ≤ 3 ^ 4 := Nat.pow_le_pow_right (by omega) h
  have e : (3 : Nat) ^ 4 = 81 := rfl
  omega

theorem GrS.MoveSt.step {S S' S2 : GrS} {v i j l x y : Nat} (h : S.MoveSt S' v i j) (hs : S'.Swapped S2 l x y) (two : S'.g.Two l x y) (hj : j ≤ 4) (hv : (v = x ∧ i = l) ∨ (v = y ∧ i = l + 1)) : S.MoveSt S2 v (if v = x then l + 1 else l) (j + 1) := by
  have hsw := swapO_is h.ok.nodup two.hx two.hy two.ix two.iy
  have her := swap_erase h.ok.nodup two.hx two.hy two.ix two.iy
  have ho := hs.order
  refine ⟨?_, ?_, ?_, ?_, hs.ov.trans h.ov, hs.ok, hs.full, ?_, ?_, ?_⟩
  · rw [ho]
    rcases hv with ⟨e, _⟩ | ⟨e, _⟩
    · subst e; exact her.1.trans h.er
    · subst e; exact her.2.trans h.er
  · intro u; rw [ho]; exact (hsw.mem u).trans (h.mem u)
  · rw [ho]; exact hsw.len.trans h.len
  · rw [ho]
    rcases hv with ⟨e, _⟩ | ⟨e, _⟩
    · subst e; rw [if_pos rfl]; exact hsw.ix
    · subst e; rw [if_neg (fun e => two.ne e.symm)]; exact hsw.iy
  · intro r hr
    obtain ⟨h1, h2⟩ := h.keeps r hr
    obtain ⟨h3, h4⟩ := hs.keeps r h1
    exact ⟨h3, h4.trans h2⟩
  · have h1 := hs.cnt
    have h2 := h.cnt
    rw [Nat.pow_succ]
    omega
  · rcases hs.nl with e | e
    · rw [e]; exact h.nl
    · have h1 := hs.cnt
      have h2 := h.cnt
      have h3 := pow3_le hj
      omega

/-- Behind Move. -/
def MovePost (O : Nat → Prop) (w : World) (gb : Nat) (S : GrS) (v t : Nat) (e : Ending) (w' : World) : Prop := e = .returned (.tuple #[]) ∧ ∃ S', GrStep O w gb w' S' ∧ ∃ j, j ≤ 5 ∧ S.MoveSt S' v t j

theorem move_two {S' : GrS} (k : S'.g.Ok) {i : Nat} (h : i + 1 < S'.order.length) : ∃ x y, S'.order[i]? = some x ∧ S'.order[i + 1]? = some y ∧ S'.g.Two i x y := by
  refine ⟨S'.order[i], S'.order[i + 1], List.getElem?_eq_getElem (Nat.lt_of_succ_lt h), List.getElem?_eq_getElem h, ⟨List.getElem_mem _, List.getElem_mem _, ?_, ?_⟩⟩
  · exact List.Nodup.idxOf_getElem k.nodup i (Nat.lt_of_succ_lt h)
  · exact List.Nodup.idxOf_getElem k.nodup (i + 1) h

theorem idx_get {o : List Nat} {v i x : Nat} (hv : v ∈ o) (h : o.idxOf v = i) (hx : o[i]? = some x) : v = x := by
  have hm := List.idxOf_lt_length_of_mem hv
  have := List.getElem?_eq_some_iff.2 ⟨hm, List.getElem_idxOf hm⟩
  rw [h, hx] at this
  exact (Option.some.inj this).symm

theorem move_down {O : Nat → Prop} {w : World} {gb : Nat} {S S' : GrS} {v i j t : Nat} (hG : GrIs O w gb S') (h : S.MoveSt S' v i j) (hv : v ∈ S.order) (hit : i < t) (ht : t < S.order.length) (hj : j ≤ 4) :
    Calls Try.prog 73 #[.pointer (some ⟨gb, 0, none⟩), .int .i64 (i : Int)] w (fun e w' => e = .returned (.tuple #[]) ∧ ∃ S2, GrStep O w gb w' S2 ∧ S.MoveSt S2 v (i + 1) (j + 1)) := by
  obtain ⟨x, y, hx, hy, two⟩ := move_two h.ok (i := i) (by rw [h.len]; omega)
  have hvx : v = x := idx_get ((h.mem v).2 hv) h.ix hx
  refine (graphSwap_is hG h.ok two h.full (Nat.le_trans h.cnt (pow3_le hj)) h.nl).mono ?_
  rintro e w' ⟨he, S2, hs, hsw⟩
  have := h.step hsw two hj (.inl ⟨hvx, rfl⟩)
  rw [if_pos hvx] at this
  exact ⟨he, S2, hs, this⟩

theorem move_up {O : Nat → Prop} {w : World} {gb : Nat} {S S' : GrS} {v i j : Nat} (hG : GrIs O w gb S') (h : S.MoveSt S' v (i + 1) j) (hv : v ∈ S.order) (hi : i + 1 < S.order.length) (hj : j ≤ 4) :
    Calls Try.prog 73 #[.pointer (some ⟨gb, 0, none⟩), .int .i64 (i : Int)] w (fun e w' => e = .returned (.tuple #[]) ∧ ∃ S2, GrStep O w gb w' S2 ∧ S.MoveSt S2 v i (j + 1)) := by
  obtain ⟨x, y, hx, hy, two⟩ := move_two h.ok (i := i) (by rw [h.len]; omega)
  have hvy : v = y := idx_get ((h.mem v).2 hv) h.ix hy
  refine (graphSwap_is hG h.ok two h.full (Nat.le_trans h.cnt (pow3_le hj)) h.nl).mono ?_
  rintro e w' ⟨he, S2, hs, hsw⟩
  have := h.step hsw two hj (.inr ⟨hvy, rfl⟩)
  rw [if_neg (by rw [hvy]; exact fun e => two.ne e.symm)] at this
  exact ⟨he, S2, hs, this⟩

set_option maxHeartbeats 2000000 in
set_option maxRecDepth 10000 in
theorem graphMove_is {O : Nat → Prop} {w : World} {gb : Nat} {S : GrS} {v t : Nat} (hG : GrIs O w gb S) (k : S.g.Ok) (hF : S.Full) (hv : v ∈ S.order) (ht : t < S.order.length) (hc : S.nums.length ≤ 300) (hl : S.nl.length ≤ 80000) :
    Calls Try.prog 51 #[.pointer (some ⟨gb, 0, none⟩), .int .i64 (v : Int), .int .i64 (t : Int)] w (MovePost O w gb S v t) := by
  have hol : S.order.length ≤ 6 := hG.ol
  obtain ⟨i0, hi0⟩ : ∃ i0, i0 = S.order.idxOf v := ⟨_, rfl⟩
  have hil : i0 < S.order.length := by rw [hi0]; exact List.idxOf_lt_length_of_mem hv
  have hst0 : S.MoveSt S v i0 0 := ⟨rfl, fun _ => Iff.rfl, rfl, hi0.symm, rfl, k, hF, fun r h => ⟨h, rfl⟩, by omega, hl⟩
  have hGs : GrStep O w gb w S := hG.step (Below.refl _ _)
  obtain ⟨ov, nv, fv, mb, rb, M, R, hA⟩ := hG
  obtain ⟨c0, c1, c2, c3, c4⟩ := hA.c
  obtain ⟨ao, cap, eo, hro⟩ := order_reads hA
  subst eo
  have hix := slicesIndex_is (.slice ao S.order.length cap) S.order v w hro (by omega)
  have hidx : idxI S.order v = (i0 : Int) := by rw [idxI_mem hv, hi0]
  rw [hidx] at hix
  have hdown := fun (O' : Nat → Prop) (w' : World) (S' : GrS) (i j : Nat) (h1 : GrIs O' w' gb S') (h2 : S.MoveSt S' v i j) (h3 : i < t) (h4 : j ≤ 4) => move_down (t := t) h1 h2 hv h3 ht h4
  have hup := fun (O' : Nat → Prop) (w' : World) (S' : GrS) (i j : Nat) (h1 : GrIs O' w' gb S') (h2 : S.MoveSt S' v (i + 1) j) (h3 : i + 1 < S.order.length) (h4 : j ≤ 4) => move_up h1 h2 hv h3 h4
  clear hA k hF hv hc hl c1 c2 c3 c4 hro hidx hi0
  go_enter Try.func51, Try.ntmps51
  go_wp2_with (go_at_call 67; refine hix.mono ?_; rintro e w1 ⟨rfl, rfl⟩)
  have hz : ∀ m : Nat, m < S.order.length → IntKind.i64.wrap ((m : Int) + 1) = (m : Int) + 1 := fun m h => wrap_six _ (by omega)
  clear hix c0
  go_loopw [6] (fun i wr => ∃ m : Nat, m < S.order.length ∧ i = .int .i64 m ∧ ∃ S' j, GrStep O w1 gb wr S' ∧ S.MoveSt S' v m j ∧ j + (t - m) + (m - t) ≤ 5) (fun i _ => t - (intOf i).toNat)
  case atStart => exact ⟨i0, hil, rfl, S, 0, hGs, hst0, by omega⟩
  case round =>
    obtain ⟨m, hm, rfl, S', j, hs, hst, hj⟩ := hrel
    clear hGs hst0
    by_cases hmt : m < t
    · obtain ⟨ho, O', hi, hg⟩ := hs
      have hcall := hdown O' _ S' m j hi hst hmt (by omega)
      have hwm := hz m hm
      clear hdown hup
      go_wp2_with (go_at_call 73; refine hcall.mono ?_; rintro e w9 ⟨rfl, S9, hs9, hst9⟩)
      go_roundw
      case rel => exact ⟨m + 1, by omega, by go_num, S9, j + 1, GrStep.trans ho hg hs9, hst9, by omega⟩
      case measure => simp [intOf]; omega
    · go_wp2_with fail
      go_loopw [6] (fun i wr => ∃ m : Nat, t ≤ m ∧ m < S.order.length ∧ i = .int .i64 m ∧ ∃ S' j, GrStep O w1 gb wr S' ∧ S.MoveSt S' v m j ∧ j + (m - t) ≤ 5) (fun i _ => (intOf i).toNat)
      case atStart => exact ⟨m, by omega, hm, rfl, S', j, hs, hst, by omega⟩
      case round =>
        obtain ⟨n, htn, hn, rfl, S2, j2, hs2, hst2, hj2⟩ := hrel
        clear hs hst hj hdown
        by_cases hnt : t < n
        · obtain ⟨n1, rfl⟩ : ∃ n1, n = n1 + 1 := ⟨n - 1, by omega⟩
          obtain ⟨ho, O', hi, hg⟩ := hs2
          have hcall := hup O' _ S2 n1 j2 hi hst2 hn (by omega)
          clear hup
          go_wp2_with (go_at_call 73; refine hcall.mono ?_; rintro e w9 ⟨rfl, S9, hs9, hst9⟩)
          go_roundw
          case rel => exact ⟨n1, by omega, by omega, by go_num, S9, j2 + 1, GrStep.trans ho hg hs9, hst9, by omega⟩
          case measure => simp [intOf]
        · have e : n = t := by omega
          subst e
          clear hup
          go_wp2_with fail
          go_end0
          exact ⟨rfl, S2, hs2, j2, by omega, hst2⟩

end Go.Proofs.Ytebfmcafmojlaaa

/-
  copse: a graph that was moved, and swept by the live handles.
-/
namespace Go.Proofs.Ytebfmcafmojlaaa
open Go.RowKit Go.Maps
set_option linter.unusedSimpArgs false
set_option linter.unusedVariables false

/-- Of a graph and the live handles, whatever else the graph holds. -/
structure CopPre (names : List ByteArray) (S : GrS) (L : List (Value × Value)) : Prop where
  k : S.g.Ok
  full : S.Full
  ents : ∀ p ∈ L, ∃ r, p = (natv r, .agg #[]) ∧ S.g.ok r
  c0 : liveH L 0
  c1 : liveH L 1
  order : ∀ v, v ∈ S.order ↔ v < names.length
  olen : S.order.length = names.length
  n6 : names.length ≤ 6
  nlen : S.nl.length ≤ 80000

theorem CopPre.liveOk {names : List ByteArray} {S : GrS} {L : List (Value × Value)} (h : CopPre names S L) {r : Nat} (hr : liveH L r) : S.g.ok r := by
  obtain ⟨r', e, h2⟩ := h.ents _ hr
  have := natv_inj (congrArg Prod.fst e)
  subst this
  exact h2

theorem CopMid.pre {names : List ByteArray} {S : GrS} {L : List (Value × Value)} {X : Nat → Prop} (h : CopMid names S L X) : CopPre names S L :=
  ⟨h.k, h.full, h.ents, h.c0, h.c1, h.order, h.olen, h.n6, h.nlen⟩

theorem CopPre.mid {names : List ByteArray} {S : GrS} {L : List (Value × Value)} (h : CopPre names S L) (hr : ∀ i, S.g.has i → S.g.Reach (liveH L) i) (hc : S.nums.length ≤ 499) : CopMid names S L (fun _ => False) :=
  ⟨h.k, h.full, h.ents, h.c0, h.c1, h.order, h.olen, h.n6, fun _ h => h.elim, fun i hi => (hr i hi).mono (fun _ h => .inl h), h.nlen, hc⟩

theorem CopPre.count {cap : Nat} {names : List ByteArray} {S : GrS} {L : List (Value × Value)} (h : CopPre names S L) (hr : ∀ i, S.g.has i → S.g.Reach (liveH L) i) {Lt : List Tab} (hL : Lists (copC cap names S L) Lt) : (allT S.order Lt).length = S.nums.length := by
  refine h.k.count_tabs (R := liveH L) Lt ?_ ?_ S.nums_nodup ?_
  · intro r hr
    refine ⟨h.liveOk hr, ?_⟩
    by_cases h0 : r / 2 = 0
    · exact .inl h0
    · right
      have := (hL (S.g.tab r)).1 ⟨r, copC_T.2 ⟨hr, rfl⟩⟩
      rcases this with e | e | e
      · exact e
      · exfalso
        have := h.k.same (h.liveOk hr) (.inl rfl : S.g.ok 1) (e.trans h.k.tab1.symm)
        omega
      · exfalso
        have := h.k.same (h.liveOk hr) (.inl rfl : S.g.ok 0) (e.trans h.k.tab0.symm)
        omega
  · intro f hf
    obtain ⟨r, hr⟩ := (hL f).2 (.inl hf)
    obtain ⟨h1, h2⟩ := copC_T.1 hr
    exact ⟨r, h.liveOk h1, .inr h1, h2⟩
  · intro i
    constructor
    · intro hi
      obtain ⟨n, hn⟩ := GrS.mem_nums.1 hi
      exact hr i ⟨n, hn⟩
    · intro hi
      obtain ⟨n, hn⟩ := hi.1
      exact GrS.mem_nums.2 ⟨n, hn⟩

theorem swept_pre {names : List ByteArray} {S S' : GrS} {L : List (Value × Value)} {A : List Bool} {xs : List (RefT S.g)} (h : CopPre names S L) (hs : S.Swept S' A) (hm : MarkedAll S.g A xs) (hx : ∀ z : Int, (∃ x ∈ xs, ((x.1 : Nat) : Int) = z) ↔ ∃ r : Nat, z = r ∧ liveH L r) :
    CopPre names S' L ∧ (∀ r, S'.g.tab r = S.g.tab r) ∧ (∀ i, S'.g.has i → S'.g.Reach (liveH L) i) := by
  have hlx : ∀ r, liveH L r → ∃ x ∈ xs, x.1 = r := by
    intro r hr
    obtain ⟨x, h1, h2⟩ := (hx r).2 ⟨r, rfl, hr⟩
    exact ⟨x, h1, by omega⟩
  have hxl : ∀ x ∈ xs, liveH L x.1 := by
    intro x hx'
    obtain ⟨r, h1, h2⟩ := (hx (x.1 : Nat)).1 ⟨x, hx', rfl⟩
    have : x.1 = r := by omega
    rw [this]; exact h2
  have horder : S'.g.order = S.g.order := hs.order
  have hsem : S'.g.sem = S.g.sem := hs.sem
  have htab : ∀ r, S'.g.tab r = S.g.tab r := by intro r; unfold Gr.tab; rw [hsem]
  have hidx : ∀ v, S'.g.idx v = S.g.idx v := by intro v; unfold Gr.idx; rw [horder]
  have hM : ∀ {i n}, S'.g.node i = some n → isM A i ∧ S.g.node i = some n := by
    intro i n hn
    by_cases c : isM A i
    · exact ⟨c, by rw [← hs.kept i c]; exact hn⟩
    · rw [hs.gone i c] at hn; cases hn
  have hhas : ∀ {i}, isM A i → S'.g.has i := by
    intro i c
    obtain ⟨n, hn, _⟩ := hm.kids i c
    exact ⟨n, by rw [hs.kept i c]; exact hn⟩
  have hok : ∀ {r}, (r / 2 = 0 ∨ isM A (r / 2)) → S'.g.ok r := fun hr => hr.imp id hhas
  have hkid : ∀ {i n}, S'.g.node i = some n → S'.g.ok n.t ∧ S'.g.ok n.e := by
    intro i n hn
    obtain ⟨c, hn'⟩ := hM hn
    obtain ⟨n2, h1, h2, h3⟩ := hm.kids i c
    rw [hn'] at h1
    cases h1
    exact ⟨hok h2, hok h3⟩
  have h0 : ¬ isM A 0 := by
    intro c
    obtain ⟨n, h1, _⟩ := hm.kids 0 c
    rw [h.k.zero] at h1; cases h1
  have hlev : ∀ {r}, S'.g.ok r → S'.g.lev r = S.g.lev r := by
    intro r hr
    unfold Gr.lev
    rcases hr with e | ⟨n, e⟩
    · rw [e, h.k.zero, hs.gone 0 h0, horder]
    · rw [e, (hM e).2]
      exact hidx _
  have k' : S'.g.Ok := by
    refine ⟨?_, ?_, hs.gone 0 h0, ?_, ?_, ?_, ?_, ?_, ?_, ?_, ?_, ?_, ?_⟩
    · rw [horder]; exact h.k.nodup
    · rw [horder]; exact h.k.lt6
    · rw [hsem]; exact h.k.sem0
    · intro i n hn; rw [horder]; exact h.k.var (hM hn).2
    · intro i n hn; exact h.k.tev (hM hn).2
    · intro i n hn; exact (hkid hn).1
    · intro i n hn; exact (hkid hn).2
    · intro i n hn; rw [hidx, hlev (hkid hn).1]; exact h.k.tlev (hM hn).2
    · intro i n hn; rw [hidx, hlev (hkid hn).2]; exact h.k.elev (hM hn).2
    · intro i n hn; exact h.k.ne (hM hn).2
    · intro i n hn; rw [hsem, htab, htab]; exact h.k.is (hM hn).2
    · intro i j n hn hn'; exact h.k.inj (hM hn).2 (hM hn').2
  refine ⟨⟨k', hs.full, ?_, h.c0, h.c1, ?_, ?_, h.n6, ?_⟩, htab, ?_⟩
  · intro p hp
    obtain ⟨r, e, _⟩ := h.ents p hp
    refine ⟨r, e, ?_⟩
    obtain ⟨x, h1, h2⟩ := hlx r (by rw [e] at hp; exact hp)
    have := hm.self x h1
    rw [h2] at this
    exact hok this
  · intro v; rw [hs.order]; exact h.order v
  · rw [hs.order]; exact h.olen
  · rw [hs.len]; exact h.nlen
  · rintro i ⟨n, hn⟩
    obtain ⟨c, hn'⟩ := hM hn
    refine ⟨⟨n, hn⟩, fun T hT hR => ?_⟩
    have := hm.least (fun j => isM A j ∧ T j) ?_ ?_ i c
    · exact this.2
    · rintro j ⟨hj1, hj2⟩ m hmn
      have hmn' : S'.g.node j = some m := by rw [hs.kept j hj1]; exact hmn
      obtain ⟨m2, g1, g2, g3⟩ := hm.kids j hj1
      rw [hmn] at g1
      cases g1
      obtain ⟨t1, t2⟩ := hT j hj2 m hmn'
      constructor
      · rcases g2 with g2 | g2
        · exact .inl g2
        · exact t1.imp id (fun t => ⟨g2, t⟩)
      · rcases g3 with g3 | g3
        · exact .inl g3
        · exact t2.imp id (fun t => ⟨g3, t⟩)
    · intro x hx'
      rcases hm.self x hx' with e | e
      · exact .inl e
      · exact (hR x.1 (hxl x hx')).imp id (fun t => ⟨e, t⟩)

set_option maxRecDepth 100000 in
theorem graphSweep_pre {Og : Nat → Prop} {w : World} {names : List ByteArray} {S : GrS} {gb lb : Nat} {L : List (Value × Value)} (hm : CopPre names S L) (hG : GrIs Og w gb S) (hlive : MapIs Try.prog 72 w lb L) (hlen : L.length ≤ 2000) (nlb : ¬ Og lb) {bm : Nat} (hbm : w.cell? ⟨bm, 0, none⟩ = some (.map (some lb))) (hbl : bm < w.heap.size) (hbo : ¬ Og bm) :
    Calls Try.prog 38 #[.pointer (some ⟨gb, 0, none⟩), .func (.func 56) #[] #[.pointer (some ⟨bm, 0, none⟩)]] w (SweepPost Og w gb S (LiveXs L)) := by
  refine graphSweep_is hG hm.k ?_
  intro W ho hsz hG
  have hlb := hlive.lt
  have hlW : W.heap[lb]? = w.heap[lb]? := ho.block lb hlb nlb
  have hbW : W.heap[bm]? = w.heap[bm]? := ho.block bm hbl hbo
  have hcW : W.cell? ⟨bm, 0, none⟩ = some (.map (some lb)) := by
    rw [← hbm]
    unfold World.cell?
    simp only [hbW]
  have hmW := hlive.same hlW
  have hsm : ∀ {r}, S.g.ok r → r < refMax := by
    intro r hr
    have := hm.nlen
    unfold refMax
    rcases hr with e' | ⟨n, hn⟩
    · omega
    · have := GrS.node_lt hn
      omega
  obtain ⟨D, hD1, hD2⟩ := ownsMap_live hmW (fun p hp => by obtain ⟨r, e, _⟩ := hm.ents p hp; rw [e]) (fun p hp => by
    obtain ⟨r, e, hr⟩ := hm.ents p hp
    exact ⟨r, by rw [e], hsm hr⟩) (by unfold maxLen; omega)
  have hseq := keys_stops (G := S.g) 5 (by omega) bm lb L.length D W (by omega) hcW hD1 (fun z hz => by
    obtain ⟨r, e, hr⟩ := (hD2 z).1 hz
    have := hm.liveOk hr
    exact ⟨r, e, this, hsm this⟩)
  have := graphReach_is (S := { S with free := [] }) hG hm.k (gf := 56) (by intro args w; rfl) hseq (fun h1 h2 => h1.trans h2) (fun W W' h _ => h.walks) (fun W l o o' _ hl _ hw => KeepsWalks.putObj o' hl hw)
  refine this.mono ?_
  rintro e w' ⟨xs, A, rb, hxs, r⟩
  refine ⟨xs, A, rb, ?_, r⟩
  intro z
  rw [hxs z, hD2 z]
  rfl

/-- v goes to place t of the order. -/
def moveO (o : List Nat) (v t : Nat) : List Nat := (o.erase v).take t ++ v :: (o.erase v).drop t

theorem moveO_of {o : List Nat} {v t : Nat} (hd : o.Nodup) (hv : v ∈ o) (ht : o.idxOf v = t) : o = moveO o v t := by
  obtain ⟨A, B, rfl, hA⟩ : ∃ A B, o = A ++ v :: B ∧ v ∉ A := by
    clear hd ht
    induction o with
    | nil => simp at hv
    | cons a o ih =>
      by_cases e : a = v
      · subst e; exact ⟨[], o, rfl, by simp⟩
      · obtain ⟨A, B, h1, h2⟩ := ih (by rcases List.mem_cons.1 hv with h | h; exact absurd h.symm e; exact h)
        exact ⟨a :: A, B, by rw [h1]; rfl, by simp only [List.mem_cons, not_or]; exact ⟨fun h => e h.symm, h2⟩⟩
  have e1 : (A ++ v :: B).idxOf v = A.length := by
    rw [List.idxOf_append, if_neg hA, List.idxOf_cons_self, Nat.zero_add]
  rw [e1] at ht
  subst ht
  unfold moveO
  rw [List.erase_append_right _ hA, List.erase_cons_head]
  simp

theorem GrS.MoveSt.moved {S S' : GrS} {v t j : Nat} (h : S.MoveSt S' v t j) (hv : v ∈ S.order) : S'.order = moveO S.order v t := by
  have h1 := moveO_of (v := v) (t := t) h.ok.nodup ((h.mem v).2 hv) h.ix
  have h1' : S'.order = moveO S'.order v t := h1
  rw [h1']
  unfold moveO
  rw [h.er]

theorem moved_pre {names : List ByteArray} {S S' : GrS} {L : List (Value × Value)} {v t j : Nat} (h : CopPre names S L) (hm : S.MoveSt S' v t j) : CopPre names S' L := by
  refine ⟨hm.ok, hm.full, ?_, h.c0, h.c1, ?_, ?_, h.n6, hm.nl⟩
  · intro p hp
    obtain ⟨r, e, hr⟩ := h.ents p hp
    exact ⟨r, e, (hm.keeps r hr).1⟩
  · intro u; exact (hm.mem u).trans (h.order u)
  · exact hm.len.trans h.olen

end Go.Proofs.Ytebfmcafmojlaaa

/-
  copse: moved, Move.
-/
namespace Go.Proofs.Ytebfmcafmojlaaa
open Go.RowKit Go.Maps
set_option linter.unusedSimpArgs false
set_option linter.unusedVariables false

theorem only_over {B : Nat} {O : Nat → Prop} {w w' : World} (h : Only O w w') (hO : ∀ b, O b → B ≤ b) (hB : B ≤ w.heap.size) : Below B w w' :=
  ⟨h.os, h.tape, h.output, h.size, fun k hk => h.block k (by omega) (fun e => by have := hO k e; omega)⟩

/-- A graph of new blocks, moved and swept. -/
def MovedPost (w : World) (names : List ByteArray) (S : GrS) (L : List (Value × Value)) (v t : Nat) (e : Ending) (w' : World) : Prop :=
  ∃ gb2 S2, e = .returned (.pointer (some ⟨gb2, 0, none⟩)) ∧ w.heap.size ≤ gb2 ∧ Below w.heap.size w w' ∧ GrIs (fun b => w.heap.size ≤ b ∧ b < w'.heap.size) w' gb2 S2 ∧ CopPre names S2 L ∧ (∀ i, S2.g.has i → S2.g.Reach (liveH L) i) ∧ S2.order = moveO S.order v t ∧ ∀ r, liveH L r → S2.g.tab r = S.g.tab r

theorem GrIs.wide {O O' : Nat → Prop} {w : World} {gb : Nat} {S : GrS} (h : GrIs O w gb S) (hO : ∀ b, O b → O' b) (hl : ∀ b, O' b → b < w.heap.size) : GrIs O' w gb S := by
  obtain ⟨ov, nv, fv, mb, rb, M, R, hA⟩ := h
  exact ⟨ov, nv, fv, mb, rb, M, R, { hA with lt := hl, self := hO _ hA.self, om := hO _ hA.om, orr := hO _ hA.orr, order := hA.order.mono hO, nin := fun k hk => hO k (hA.nin k hk), free := hA.free.mono hO }⟩

theorem moved_end {w w1 w2 w3 w4 : World} {names : List ByteArray} {S S2 : GrS} {L : List (Value × Value)} {v t j gb : Nat} {ov' : Value} {O2 : Nat → Prop} (hp : CopPre names S L) (hv : v ∈ S.order) (hgb : w.heap.size ≤ gb) (hb1 : Below w.heap.size w w1) (h2 : Only (fun b => w.heap.size ≤ b ∧ b < w1.heap.size) w1 w2) (hg2 : Grows w1 (fun b => w.heap.size ≤ b ∧ b < w1.heap.size) O2) (hm : ({ S with ov := ov' } : GrS).MoveSt S2 v t j) (hb3 : Below w2.heap.size w2 w3)
    (h4 : SweepPost O2 w3 gb S2 (LiveXs L) (.returned (.tuple #[])) w4) : MovedPost w names S L v t (.returned (.pointer (some ⟨gb, 0, none⟩))) w4 := by
  obtain ⟨_, xs, A, S4, hx, hma, hsw, ho4, O4, hG4, hg4⟩ := h4
  have hp1 : CopPre names ({ S with ov := ov' } : GrS) L := ⟨hp.k, hp.full, hp.ents, hp.c0, hp.c1, hp.order, hp.olen, hp.n6, hp.nlen⟩
  have hp2 := moved_pre hp1 hm
  obtain ⟨hp4, ht4, hr4⟩ := swept_pre hp2 hsw hma hx
  have hs1 := hb1.size
  have hs2 := h2.size
  have hs3 := hb3.size
  have hO2 : ∀ b, O2 b → w.heap.size ≤ b := by
    intro b hb
    rcases hg2 b hb with h | h
    · exact h.1
    · omega
  have hO4 : ∀ b, O4 b → w.heap.size ≤ b := by
    intro b hb
    rcases hg4 b hb with h | h
    · exact hO2 b h
    · omega
  have k2 := only_over h2 (B := w.heap.size) (fun b hb => hb.1) hs1
  have k4 := only_over ho4 (B := w.heap.size) hO2 (by omega)
  refine ⟨gb, S4, rfl, hgb, hb1.trans (k2.trans ((hb3.mono (by omega)).trans k4)), hG4.wide (fun b hb => ⟨hO4 b hb, hG4.lt b hb⟩) (fun b hb => hb.2), hp4, hr4, ?_, ?_⟩
  · rw [hsw.order]
    exact hm.moved hv
  · intro r hr
    rw [ht4]
    exact (hm.keeps r (hp.liveOk hr)).2

set_option maxHeartbeats 1000000 in
set_option maxRecDepth 10000 in
theorem copseMoved_is {O : Nat → Prop} {w : World} {x cap : Nat} {names : List ByteArray} {S : GrS} {nv : Value} {gb lb : Nat} {L : List (Value × Value)} {Og : Nat → Prop} {v t : Nat} (hok : CopOk cap names S L) (hA : CopAt O w x cap names S nv gb lb L Og) (hv : v ∈ S.order) (ht : t < S.order.length) :
    Calls Try.prog 30 #[.pointer (some ⟨x, 0, none⟩), .int .i64 (v : Int), .int .i64 (t : Int)] w (MovedPost w names S L v t) := by
  have hp := hok.mid.pre
  have c2 := hA.c.2.2.1
  have c3 := hA.c.2.2.2
  have hxl := hA.lt x hA.self
  have hlbl := hA.lt lb hA.ol
  have hcl := graphClone_is hA.graph
  have hkeys := fun W => mapsKeys_is lb W
  have hmv : ∀ gb' ov' w1, Below w.heap.size w w1 → GrIs (fun b => w.heap.size ≤ b ∧ b < w1.heap.size) w1 gb' { S with ov := ov' } → Calls Try.prog 51 #[.pointer (some ⟨gb', 0, none⟩), .int .i64 (v : Int), .int .i64 (t : Int)] w1 (fun e w2 => e = .returned (.tuple #[]) ∧ w2.cell? ⟨x, 3, none⟩ = some (.map (some lb)) ∧ MovePost (fun b => w.heap.size ≤ b ∧ b < w1.heap.size) w1 gb' { S with ov := ov' } v t (.returned (.tuple #[])) w2) := by
    intro gb' ov' w1 hb1 hG1
    refine (graphMove_is hG1 (v := v) (t := t) hp.k hp.full hv ht (by have := hok.size; have := hok.c300; show S.nums.length ≤ 300; omega) hp.nlen).mono ?_
    rintro e w2 hpost
    obtain ⟨he, S2, hs, hj⟩ := hpost
    subst he
    refine ⟨rfl, ?_, rfl, S2, hs, hj⟩
    have h1 := hb1.size
    rw [hs.1.cell (p := ⟨x, 3, none⟩) (fun e => by have : w.heap.size ≤ x := e.1; omega) (by show x < _; omega)]
    exact (hb1.cell (p := ⟨x, 3, none⟩) hxl).trans c3
  have hsweep : ∀ gb' ov' w1 w2, w.heap.size ≤ gb' → Below w.heap.size w w1 → MovePost (fun b => w.heap.size ≤ b ∧ b < w1.heap.size) w1 gb' { S with ov := ov' } v t (.returned (.tuple #[])) w2 → Calls Try.prog 38 #[.pointer (some ⟨gb', 0, none⟩), .func (.func 56) #[] #[.pointer (some ⟨w2.heap.size, 0, none⟩)]] (w2.alloc (.cells #[.map (some lb)] 60)) (fun e w4 => e = .returned (.tuple #[]) ∧ MovedPost w names S L v t (.returned (.pointer (some ⟨gb', 0, none⟩))) w4) := by
    intro gb' ov' w1 w2 hgb hb1 hpost
    obtain ⟨_, S2, ⟨ho, O2, hG2, hg2⟩, j, hj, hst⟩ := hpost
    have hp1 : CopPre names ({ S with ov := ov' } : GrS) L := ⟨hp.k, hp.full, hp.ents, hp.c0, hp.c1, hp.order, hp.olen, hp.n6, hp.nlen⟩
    have hp2 := moved_pre hp1 hst
    have hb3 : Below w2.heap.size w2 (w2.alloc (.cells #[.map (some lb)] 60)) := (Below.refl _ w2).alloc (Nat.le_refl _) _
    have hc3 : (w2.alloc (.cells #[.map (some lb)] 60)).heap[w2.heap.size]? = some (.cells #[.map (some lb)] 60 (0, 0)) := heap_alloc_new w2 _
    have hs1 := hb1.size
    have hs2 := ho.size
    have hO2 : ∀ b, O2 b → w.heap.size ≤ b := by
      intro b hb
      rcases hg2 b hb with h | h
      · exact h.1
      · omega
    have k2 := only_over ho (B := w.heap.size) (fun b hb => hb.1) hs1
    have hl3 := hA.live.carry ((hb1.trans k2).trans (hb3.mono (by omega)))
    refine (graphSweep_pre hp2 (hG2.below hb3) hl3 (live_len hok.mid hA.live) (fun e => by have := hO2 _ e; omega) (bm := w2.heap.size) (by rw [cell_of_heap hc3]; rfl) (by simp) (fun e => by have := hG2.lt _ e; omega)).mono ?_
    intro e w4 h4
    have he := h4.1
    subst he
    exact ⟨rfl, moved_end hp hv hgb hb1 ho hg2 hst hb3 h4⟩
  have HM : Hid _ := hmv
  have HS : Hid _ := hsweep
  clear hmv hsweep hp hok hA hv ht
  go_enter Try.func30, Try.ntmps30
  go_wp2_with (first
    | (go_at_call 50; refine hcl.mono ?_; clear hcl; rintro e w1 ⟨gb', ov', rfl, hgb, hb1, hG1⟩; have hm1 := HM.out gb' ov' w1 hb1 hG1; clear HM hG1)
    | (go_at_call 51; refine hm1.mono ?_; clear hm1; rintro e w2 ⟨rfl, q3, hpost⟩; have hs1 := HS.out gb' ov' w1 w2 hgb hb1 hpost; clear HS hpost)
    | (go_at_call 39; refine (hkeys _).mono ?_; clear hkeys; rintro e w3 ⟨rfl, rfl⟩)
    | (go_at_call 38; refine hs1.mono ?_; clear hs1; rintro e w4 ⟨rfl, hfin⟩))
  go_ret
  exact hfin

end Go.Proofs.Ytebfmcafmojlaaa

