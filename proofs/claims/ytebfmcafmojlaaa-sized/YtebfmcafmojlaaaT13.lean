/-
  graph: Ite, level by level: what is carried from one call to the next.
-/
import Derived.Deep.Draws
import Derived.Test.YtebfmcafmojlaaaT12
namespace Go.Proofs.Ytebfmcafmojlaaa
open Go.RowKit Go.Maps
set_option linter.unusedSimpArgs false
set_option linter.unusedVariables false

theorem graphLevel_n {O : Nat → Prop} {w : World} {gb : Nat} {S : GrS} {ov nv fv : Value} {mb rb : Nat} {M R : List (Value × Value)} (hA : GrAt O w gb S ov nv fv mb rb M R) (k : S.g.Ok) (r : Nat) (hr : S.g.ok r) :
    ∃ n, ∀ wq, Below w.heap.size w wq → Calls Try.prog 62 #[.pointer (some ⟨gb, 0, none⟩), .int .i64 r] wq fun e w' => e = .returned (.int .i64 (S.g.lev r : Nat)) ∧ w' = wq.drewN n := by
  refine ⟨if r / 2 = 0 then 0 else 1, fun wq hb => (graphLevel_w ⟨_, _, _, _, _, _, _, hA.below hb⟩ k r hr).mono ?_⟩
  rintro e w' ⟨he, hw⟩
  refine ⟨he, ?_⟩
  rw [hw]
  split <;> rfl

theorem min3_eq (a b c : Nat) : (if (c : Int) < (if b < a then (b : Int) else (a : Int)) then (c : Int) else (if b < a then (b : Int) else (a : Int))) = ((min a (min b c) : Nat) : Int) := by
  split <;> split at * <;> omega

/-- Ite in the midst of it: the graph, the boxes, the level. -/
structure IteSt (d : Nat) (O : Nat → Prop) (w : World) (gb : Nat) (S : GrS) (f g h l v b4 b5 lb b6 b7 : Nat) (ov : Value) : Prop where
  G : GrIs O w gb S
  k : S.g.Ok
  of : S.g.ok f
  og : S.g.ok g
  oh : S.g.ok h
  hv : v ∈ S.g.order
  hl : S.g.idx v = l
  lf : l ≤ S.g.lev f
  lg : l ≤ S.g.lev g
  lh : l ≤ S.g.lev h
  hd : S.g.order.length ≤ l + (d + 1)
  B : IteBox O w b4 b5 lb b6 b7 gb f l g h
  hov : S.ov = ov

theorem IteBox.step {O O1 : Nat → Prop} {w w1 : World} {b4 b5 b12 b6 b7 gb f l g h : Nat} (B : IteBox O w b4 b5 b12 b6 b7 gb f l g h) (ho : Only O w w1) (hg : Grows w O O1) : IteBox O1 w1 b4 b5 b12 b6 b7 gb f l g h := by
  have q : ∀ b, ¬ O b → b < w.heap.size → ¬ O1 b := fun b h1 h2 h3 => (hg b h3).elim h1 (fun e => by omega)
  exact ⟨q _ B.n4 B.l4, q _ B.n5 B.l5, q _ B.n12 B.l12, q _ B.n6 B.l6, q _ B.n7 B.l7, Nat.lt_of_lt_of_le B.l4 ho.size, Nat.lt_of_lt_of_le B.l5 ho.size, Nat.lt_of_lt_of_le B.l12 ho.size, Nat.lt_of_lt_of_le B.l6 ho.size, Nat.lt_of_lt_of_le B.l7 ho.size,
    (ho.cell (p := ⟨b4, 0, none⟩) B.n4 B.l4).trans B.c4, (ho.cell (p := ⟨b5, 0, none⟩) B.n5 B.l5).trans B.c5, (ho.cell (p := ⟨b12, 0, none⟩) B.n12 B.l12).trans B.c12, (ho.cell (p := ⟨b6, 0, none⟩) B.n6 B.l6).trans B.c6, (ho.cell (p := ⟨b7, 0, none⟩) B.n7 B.l7).trans B.c7⟩

theorem IteSt.next {d : Nat} {O O1 : Nat → Prop} {w w1 : World} {gb : Nat} {S S1 : GrS} {f g h l v b4 b5 lb b6 b7 : Nat} {ov : Value} (st : IteSt d O w gb S f g h l v b4 b5 lb b6 b7 ov) (ho : Only O w w1) (hg : Grows w O O1) (hG : GrIs O1 w1 gb S1) {r : Nat} {F : Tab} {n : Nat} (hw : S.Went S1 r F n) : IteSt d O1 w1 gb S1 f g h l v b4 b5 lb b6 b7 ov := by
  have hx := hw.made.ext
  have k1 := hw.ok
  refine ⟨hG, k1, hx.ok st.of, hx.ok st.og, hx.ok st.oh, by rw [hx.order]; exact st.hv, by rw [hx.idx]; exact st.hl, ?_, ?_, ?_, by rw [hx.order]; exact st.hd, st.B.step ho hg, hw.ov.trans st.hov⟩
  · rw [hx.lev st.k k1 st.of]; exact st.lf
  · rw [hx.lev st.k k1 st.og]; exact st.lg
  · rw [hx.lev st.k k1 st.oh]; exact st.lh

theorem IteSt.drew {d : Nat} {O : Nat → Prop} {w : World} {gb : Nat} {S : GrS} {f g h l v b4 b5 lb b6 b7 : Nat} {ov : Value} (st : IteSt d O w gb S f g h l v b4 b5 lb b6 b7 ov) : IteSt d O w.drew gb S f g h l v b4 b5 lb b6 b7 ov :=
  { st with G := st.G.undrew, B := st.B.step (only_of_below (Below.refl _ _).drew O) (fun b hb => .inl hb) }

theorem IteSt.body {d : Nat} (IH : IteIs d) {O : Nat → Prop} {w : World} {gb : Nat} {S : GrS} {f g h l v b4 b5 lb b6 b7 : Nat} {ov : Value} (st : IteSt d O w gb S f g h l v b4 b5 lb b6 b7 ov) (hnl : S.nl.length + 2 ^ d ≤ 100000) (b : Bool) :
    Calls Try.prog 63 #[.bool b, .pointer (some ⟨b4, 0, none⟩), .pointer (some ⟨b5, 0, none⟩), .pointer (some ⟨lb, 0, none⟩), .pointer (some ⟨b6, 0, none⟩), .pointer (some ⟨b7, 0, none⟩)] w (WentPost O w gb S (iteT (given (S.g.tab f) v b) (given (S.g.tab g) v b) (given (S.g.tab h) v b)) (2 ^ d - 1)) :=
  graphIteBody_is d IH st.G st.k f g h l st.of st.og st.oh b v st.hv st.hl st.lf st.lg st.lh st.hd hnl b4 b5 lb b6 b7 st.B

/-- What the region reads of the graph and of the boxes. -/
theorem IteSt.reads {d : Nat} {O : Nat → Prop} {w : World} {gb : Nat} {S : GrS} {f g h l v b4 b5 lb b6 b7 : Nat} {ov : Value} (st : IteSt d O w gb S f g h l v b4 b5 lb b6 b7 ov) :
    ∃ ob cap, ov = .slice (some ⟨ob, 0, none⟩) S.order.length cap ∧ l < S.order.length ∧ w.cell? ⟨gb, 0, none⟩ = some ov ∧ w.cell? ⟨ob, l, none⟩ = some (.int .i64 (v : Int)) := by
  obtain ⟨ov', nv, fv, mb, rb, M, R, hA⟩ := st.G
  have e1 : ov' = ov := hA.eov.symm.trans st.hov
  subst e1
  have hlt : l < S.order.length := by
    have := List.idxOf_lt_length_of_mem st.hv
    have h2 := st.hl
    unfold Gr.idx at h2
    rw [h2] at this
    exact this
  have hr := hA.order.1
  rw [List.length_map] at hr
  rcases hr.2 with ⟨rfl, h0⟩ | ⟨ob, cap, cur, e, _, hg, _⟩
  · omega
  · refine ⟨ob, cap, e, hlt, hA.c.1, ?_⟩
    have hget : S.order[l]? = some v := by
      have hm : S.order.idxOf v < S.order.length := List.idxOf_lt_length_of_mem st.hv
      have h2 : S.order.idxOf v = l := st.hl
      rw [← h2]
      exact List.getElem?_eq_some_iff.2 ⟨hm, List.getElem_idxOf hm⟩
    have := hr.cells (g := ob) (by rw [e]; rfl) l (natv v) (by rw [List.getElem?_map, hget]; rfl)
    have hadd : (⟨ob, 0, none⟩ : Addr).add l = ⟨ob, 0 + l, none⟩ := by unfold Addr.add; split <;> simp_all
    rw [hadd, Nat.zero_add] at this
    exact this

theorem IteSt.held {d : Nat} {O : Nat → Prop} {w : World} {gb : Nat} {S : GrS} {f g h l v b4 b5 lb b6 b7 ob N cap : Nat} (st : IteSt d O w gb S f g h l v b4 b5 lb b6 b7 (.slice (some ⟨ob, 0, none⟩) N cap)) :
    w.cell? ⟨b4, 0, none⟩ = some (.pointer (some ⟨gb, 0, none⟩)) ∧ w.cell? ⟨gb, 0, none⟩ = some (.slice (some ⟨ob, 0, none⟩) N cap) ∧ w.cell? ⟨lb, 0, none⟩ = some (.int .i64 (l : Int)) ∧ w.cell? ⟨ob, l, none⟩ = some (.int .i64 (v : Int)) := by
  obtain ⟨ob', cap', e, _, h1, h2⟩ := st.reads
  simp only [Value.slice.injEq, Option.some.injEq, Addr.mk.injEq, and_true] at e
  obtain ⟨rfl, _, _⟩ := e
  exact ⟨st.B.c4, h1, st.B.c12, h2⟩

theorem hangs_given_le {G : Gr} (k : G.Ok) {r v : Nat} {b : Bool} (hr : G.ok r) (hv : v ∈ G.order) (hl : G.idx v ≤ G.lev r) : ∀ u ∈ G.order, G.idx u ≤ G.idx v → hangs (given (G.tab r) v b) u = false := by
  intro u hu hi
  by_cases e : u = v
  · subst e; exact hangs_given_self _ _ _ (k.lt6 _ hu)
  · have hne : G.idx u ≠ G.idx v := fun e' => e (idxOf_inj hu e')
    have h1 : hangs (G.tab r) u = false := k.ahead hr (k.lt6 _ hu) (.inl (by omega))
    cases h2 : hangs (given (G.tab r) v b) u
    · rfl
    · rw [hangs_given _ _ _ _ (k.lt6 _ hv) (k.lt6 _ hu) h2] at h1; cases h1

theorem hangs_ite_all {F1 F2 F3 : Tab} {u : Nat} (hu : u < 6) (h1 : hangs F1 u = false) (h2 : hangs F2 u = false) (h3 : hangs F3 u = false) : hangs (iteT F1 F2 F3) u = false := by
  rw [hangs_false_iff] at *
  rw [given_iteT _ _ _ _ _ hu, given_iteT _ _ _ _ _ hu, h1, h2, h3]

/-- The two parts, joined, are what was asked for. -/
theorem IteSt.joined {d : Nat} {O O1 O2 : Nat → Prop} {w w1 w2 : World} {gb : Nat} {S S1 S2 S3 : GrS} {f g h l v b4 b5 lb b6 b7 : Nat} {ov : Value} (st : IteSt d O w gb S f g h l v b4 b5 lb b6 b7 ov) {r1 r2 r : Nat}
    (hw1 : S.Went S1 r1 (iteT (given (S.g.tab f) v true) (given (S.g.tab g) v true) (given (S.g.tab h) v true)) (2 ^ d - 1))
    (hw2 : S1.Went S2 r2 (iteT (given (S1.g.tab f) v false) (given (S1.g.tab g) v false) (given (S1.g.tab h) v false)) (2 ^ d - 1))
    (hj : JoinPost S2 v r1 r2 r S3) : S.Went S3 r (iteT (S.g.tab f) (S.g.tab g) (S.g.tab h)) (2 ^ (d + 1) - 1) := by
  have hx := hw1.made.ext
  rw [hx.tab st.of, hx.tab st.og, hx.tab st.oh] at hw2
  have hl := st.hl
  have q := fun b => fun u hu hi => hangs_ite_all (st.k.lt6 u hu) (hangs_given_le st.k (b := b) st.of st.hv (by rw [hl]; exact st.lf) u hu hi) (hangs_given_le st.k (b := b) st.og st.hv (by rw [hl]; exact st.lg) u hu hi) (hangs_given_le st.k (b := b) st.oh st.hv (by rw [hl]; exact st.lh) u hu hi)
  have := hw1.join hw2 hj st.hv (q true) (q false)
  rw [← given_iteT _ _ _ _ _ (st.k.lt6 _ st.hv), ← given_iteT _ _ _ _ _ (st.k.lt6 _ st.hv), halves _ _ (st.k.lt6 _ st.hv)] at this
  refine this.mono_d ?_
  have hp : 0 < 2 ^ d := Nat.two_pow_pos d
  rw [Nat.pow_succ]
  omega

theorem ite_len0 {a d : Nat} (h : a + 2 ^ (d + 1) ≤ 100000) : a + 2 ^ d ≤ 100000 := by
  rw [Nat.pow_succ] at h; omega

theorem ite_len1 {S S1 : GrS} {d r : Nat} {F : Tab} (h : S.nl.length + 2 ^ (d + 1) ≤ 100000) (hw : S.Went S1 r F (2 ^ d - 1)) : S1.nl.length + 2 ^ d ≤ 100000 := by
  have := hw.len
  have hp : 0 < 2 ^ d := Nat.two_pow_pos d
  rw [Nat.pow_succ] at h; omega

theorem ite_len2 {S S1 S2 : GrS} {d r r2 : Nat} {F F2 : Tab} (h : S.nl.length + 2 ^ (d + 1) ≤ 100000) (hw : S.Went S1 r F (2 ^ d - 1)) (hw2 : S1.Went S2 r2 F2 (2 ^ d - 1)) : S2.nl.length + 1 ≤ 100000 := by
  have := hw.len
  have := hw2.len
  have hp : 0 < 2 ^ d := Nat.two_pow_pos d
  rw [Nat.pow_succ] at h; omega

/-- Behind the join: the graph, and what was asked for. -/
theorem IteSt.fin {d : Nat} {O O1 O2 O3 : Nat → Prop} {w w1 w2 w3 : World} {gb : Nat} {S S1 S2 S3 : GrS} {f g h l v b4 b5 lb b6 b7 : Nat} {ov : Value} (st : IteSt d O w gb S f g h l v b4 b5 lb b6 b7 ov) {r1 r2 r : Nat}
    (ho1 : Only O w w1) (hg1 : Grows w O O1) (ho2 : Only O1 w1 w2) (hg2 : Grows w1 O1 O2) (ho3 : Only O2 w2 w3) (hg3 : Grows w2 O2 O3) (hG3 : GrIs O3 w3 gb S3)
    (hw1 : S.Went S1 r1 (iteT (given (S.g.tab f) v true) (given (S.g.tab g) v true) (given (S.g.tab h) v true)) (2 ^ d - 1))
    (hw2 : S1.Went S2 r2 (iteT (given (S1.g.tab f) v false) (given (S1.g.tab g) v false) (given (S1.g.tab h) v false)) (2 ^ d - 1))
    (hj : JoinPost S2 v r1 r2 r S3) : S.Went S3 r (iteT (S.g.tab f) (S.g.tab g) (S.g.tab h)) (2 ^ (d + 1) - 1) ∧ Only O w w3 ∧ Grows w O O3 ∧ IteSt d O3 w3 gb S3 f g h l v b4 b5 lb b6 b7 ov := by
  have hwf := st.joined (O1 := O1) (O2 := O2) (w1 := w1) (w2 := w2) hw1 hw2 hj
  have o2 := ho1.trans ho2 hg1
  have g2 := hg1.trans hg2 ho1.size
  have o3 := o2.trans ho3 g2
  have g3 := g2.trans hg3 o2.size
  exact ⟨hwf, o3, g3, st.next o3 g3 hG3 hwf⟩

end Go.Proofs.Ytebfmcafmojlaaa

/-
  graph: Ite, level by level.
-/
namespace Go.Proofs.Ytebfmcafmojlaaa
open Go.RowKit Go.Maps
set_option linter.unusedSimpArgs false
set_option linter.unusedVariables false

set_option maxHeartbeats 1000000 in
set_option maxRecDepth 10000 in
theorem graphIte_new (d : Nat) (IH : IteIs d) {O : Nat → Prop} {w : World} {gb : Nat} {S : GrS} {f g h : Nat} {ov nv fv : Value} {mb rb : Nat} {M R : List (Value × Value)} (hA : GrAt O w gb S ov nv fv mb rb M R) (k : S.g.Ok) (hf : S.g.ok f) (hg : S.g.ok g) (hh : S.g.ok h) (z0 : f ≠ 0) (z1 : g ≠ h) (z2 : f ≠ 1) (hno : ∀ u, (key3 f g h, u) ∉ R)
    (kf : S.g.order.length ≤ S.g.lev f + (d + 1)) (kg : S.g.order.length ≤ S.g.lev g + (d + 1)) (kh : S.g.order.length ≤ S.g.lev h + (d + 1)) (hnl : S.nl.length + 2 ^ (d + 1) ≤ 100000) :
    Calls Try.prog 46 #[.pointer (some ⟨gb, 0, none⟩), .int .i64 f, .int .i64 g, .int .i64 h] w (WentPost O w gb S (iteT (S.g.tab f) (S.g.tab g) (S.g.tab h)) (2 ^ (d + 1) - 1)) := by
  have hkey := trip_key_ok f g h (by have := hA.small hf; unfold refMax; omega) (by have := hA.small hg; unfold refMax; omega) (by have := hA.small hh; unfold refMax; omega)
  have hb0 := iteW_below w gb f g h
  obtain ⟨q4, q5, q6, q7⟩ := iteW_cells w gb f g h
  have hK := iteK_at w gb f g h
  obtain ⟨W1, hW1⟩ : ∃ W1, W1 = iteK w gb f g h := ⟨_, rfl⟩
  rw [← hW1] at hK
  unfold iteK at hW1
  obtain ⟨W0, hW0⟩ : ∃ W0, W0 = iteW w gb f g h := ⟨_, rfl⟩
  rw [← hW0] at hb0 q4 q5 q6 q7 hW1
  have c4 : W0.cell? ⟨w.heap.size, 0, none⟩ = some (.pointer (some ⟨gb, 0, none⟩)) := by rw [cell_of_heap q4]; rfl
  have c5 : W0.cell? ⟨w.heap.size + 1, 0, none⟩ = some (.int .i64 (f : Int)) := by rw [cell_of_heap q5]; rfl
  have c6 : W0.cell? ⟨w.heap.size + 2, 0, none⟩ = some (.int .i64 (g : Int)) := by rw [cell_of_heap q6]; rfl
  have c7 : W0.cell? ⟨w.heap.size + 3, 0, none⟩ = some (.int .i64 (h : Int)) := by rw [cell_of_heap q7]; rfl
  have s0 : W0.heap.size = w.heap.size + 4 := by rw [hW0]; exact iteW_size w gb f g h
  obtain ⟨e0, e1, e2⟩ := ite_conds z0 z1 z2
  unfold iteW at hW0
  obtain ⟨hbk, x4, x5, x6, x7, y0, y1, y2, s1⟩ := hK
  have hA1 := hA.below hbk
  obtain ⟨d0, d1, d2, d3, d4⟩ := hA1.c
  have hrun : (Instr.lookup 88 (.map (some rb)) (key3 f g h) true).run Try.prog W1.drew = .ok (.tuple #[.int .i64 0, .bool false]) W1.drew := by
    rcases (hA1.res.same (w' := W1.drew) rfl).look trip_keyed Try.underlying88 (zero_ref _) true hkey with ⟨u, hu, _⟩ | ⟨_, hrun⟩
    · exact absurd hu (hno _)
    · rw [hrun]; rfl
  unfold key3 at hrun
  obtain ⟨nf, hlf⟩ : ∃ n, ∀ wq, Below W1.heap.size W1 wq → Calls Try.prog 62 #[.pointer (some ⟨gb, 0, none⟩), .int .i64 f] wq fun e w' => e = .returned (.int .i64 (S.g.lev f : Nat)) ∧ w' = wq.drewN n := graphLevel_n hA1 k f hf
  obtain ⟨ng, hlg⟩ : ∃ n, ∀ wq, Below W1.heap.size W1 wq → Calls Try.prog 62 #[.pointer (some ⟨gb, 0, none⟩), .int .i64 g] wq fun e w' => e = .returned (.int .i64 (S.g.lev g : Nat)) ∧ w' = wq.drewN n := graphLevel_n hA1 k g hg
  obtain ⟨nh, hlh⟩ : ∃ n, ∀ wq, Below W1.heap.size W1 wq → Calls Try.prog 62 #[.pointer (some ⟨gb, 0, none⟩), .int .i64 h] wq fun e w' => e = .returned (.int .i64 (S.g.lev h : Nat)) ∧ w' = wq.drewN n := graphLevel_n hA1 k h hh
  have l4 : w.heap.size < W1.heap.size := by omega
  have l5 : w.heap.size + 1 < W1.heap.size := by omega
  have l6 : w.heap.size + 2 < W1.heap.size := by omega
  have l7 : w.heap.size + 3 < W1.heap.size := by omega
  obtain ⟨l, hl⟩ : ∃ l, l = min (S.g.lev f) (min (S.g.lev g) (S.g.lev h)) := ⟨_, rfl⟩
  have hlt : l < S.g.order.length := by
    obtain ⟨nd, hnd⟩ := Gr.ok_node hf (by omega)
    have := k.idx_lt hnd
    rw [← Gr.lev_node hnd] at this
    omega
  obtain ⟨v, hv⟩ : ∃ v, v = S.g.order[l] := ⟨_, rfl⟩
  have hvm : v ∈ S.g.order := by rw [hv]; exact List.getElem_mem hlt
  have hvi : S.g.idx v = l := by rw [hv]; exact List.Nodup.idxOf_getElem k.nodup l hlt
  have hst : ∀ wc lb, W1.heap.size ≤ lb → wc.heap[lb]? = some (.cells #[.int .i64 (l : Int)] 3 (0, 0)) → Below W1.heap.size W1 wc → IteSt d O wc gb S f g h l v w.heap.size (w.heap.size + 1) lb (w.heap.size + 2) (w.heap.size + 3) ov := by
    intro wc lb h1 h2 h3
    have hO : ∀ b, w.heap.size ≤ b → ¬ O b := fun b hb ho => by have := hA.lt b ho; omega
    have hl' := (Array.getElem?_eq_some_iff.1 h2).1
    have hs3 := h3.size
    refine ⟨⟨_, _, _, _, _, _, _, hA1.below h3⟩, k, hf, hg, hh, hvm, hvi, by omega, by omega, by omega, by omega, ⟨hO _ (by omega), hO _ (by omega), hO _ (by omega), hO _ (by omega), hO _ (by omega), by omega, by omega, by omega, by omega, by omega, ?_, ?_, ?_, ?_, ?_⟩, hA.eov⟩
    · exact (h3.cell (p := ⟨w.heap.size, 0, none⟩) (by show w.heap.size < _; omega)).trans x4
    · exact (h3.cell (p := ⟨w.heap.size + 1, 0, none⟩) (by show w.heap.size + 1 < _; omega)).trans x5
    · rw [cell_of_heap h2]; rfl
    · exact (h3.cell (p := ⟨w.heap.size + 2, 0, none⟩) (by show w.heap.size + 2 < _; omega)).trans x6
    · exact (h3.cell (p := ⟨w.heap.size + 3, 0, none⟩) (by show w.heap.size + 3 < _; omega)).trans x7
  have HST : Hid _ := hst
  have HB : Hid (Below w.heap.size w W1) := hbk
  have Hl : Hid (l = min (S.g.lev f) (min (S.g.lev g) (S.g.lev h))) := hl
  have Hnl : Hid (S.nl.length + 2 ^ (d + 1) ≤ 100000) := hnl
  have Hl6 : Hid (l < S.g.order.length) := hlt
  have Hk2 : Hid (W1.cell? ⟨w.heap.size + 4, 0, none⟩ = some (.int .i64 (f : Int)) ∧ W1.cell? ⟨w.heap.size + 4, 1, none⟩ = some (.int .i64 (g : Int)) ∧ W1.cell? ⟨w.heap.size + 4, 2, none⟩ = some (.int .i64 (h : Int))) := ⟨y0, y1, y2⟩
  have HA : Hid (GrAt O w gb S ov nv fv mb rb M R) := hA
  have HIH : Hid (IteIs d) := IH
  clear hA k hf hg hh hno hkey hb0 q4 q5 q6 q7 hA1 d0 d1 d2 d3 z0 z1 z2 hbk hst hl hnl hlt kf kg kh hvm hvi hv IH
  go_enter Try.func46, Try.ntmps46
  go_upto_region 1 with fail
  rw [← hW0]
  clear hW0
  go_upto_region 6 with fail
  rw [← hW1]
  clear hW1
  go_region
  go_upto_region 9 with fail
  clear c4 c5 c6 c7 e0 e1 e2 hrun d4
  have hmin := min3_eq (S.g.lev f) (S.g.lev g) (S.g.lev h)
  rw [← Hl.out] at hmin
  go_cut [12] from 15 (fun b12 wx => ∃ lb, b12 = .pointer (some ⟨lb, 0, none⟩) ∧ W1.heap.size ≤ lb ∧ wx.heap[lb]? = some (.cells #[.int .i64 (l : Int)] 3 (0, 0)) ∧ Below W1.heap.size W1 wx)
  case first =>
    have had : ∀ (w : World) (n : Nat) (o : Obj), (w.drewN n).alloc o = (w.alloc o).drewN n := fun _ _ _ => rfl
    have hsd : ∀ (w : World) (n : Nat) (a : Addr) (v : Value), (w.drewN n).setCell a v = (w.setCell a v).drewN n := fun _ _ _ _ => rfl
    go_region_held (fun w' => w'.cell? ⟨w.heap.size, 0, none⟩ = some (.pointer (some ⟨gb, 0, none⟩)) ∧ w'.cell? ⟨w.heap.size + 1, 0, none⟩ = some (.int .i64 (f : Int)) ∧ w'.cell? ⟨w.heap.size + 2, 0, none⟩ = some (.int .i64 (g : Int)) ∧ w'.cell? ⟨w.heap.size + 3, 0, none⟩ = some (.int .i64 (h : Int))) (go_keep) (first
        | (go_at_call 62; refine (hlf _ ?_).mono ?_; (first | exact ⟨rfl, rfl, rfl, Nat.le_refl _, fun _ _ => rfl⟩ | exact ((Below.refl _ W1).alloc (Nat.le_refl _) _).trans ⟨rfl, rfl, rfl, Nat.le_refl _, fun _ _ => rfl⟩); rintro e w2 ⟨rfl, rfl⟩; clear hlf)
        | (go_at_call 62; refine (hlg _ ?_).mono ?_; (first | exact ⟨rfl, rfl, rfl, Nat.le_refl _, fun _ _ => rfl⟩ | exact ((Below.refl _ W1).alloc (Nat.le_refl _) _).trans ⟨rfl, rfl, rfl, Nat.le_refl _, fun _ _ => rfl⟩); rintro e w2 ⟨rfl, rfl⟩; clear hlg)
        | (go_at_call 62; refine (hlh _ ?_).mono ?_; (first | exact ⟨rfl, rfl, rfl, Nat.le_refl _, fun _ _ => rfl⟩ | exact ((Below.refl _ W1).alloc (Nat.le_refl _) _).trans ⟨rfl, rfl, rfl, Nat.le_refl _, fun _ _ => rfl⟩); rintro e w2 ⟨rfl, rfl⟩; clear hlh))
    all_goals
      go_wp2_with fail
      go_meet
      exact ⟨W1.heap.size, rfl, Nat.le_refl _, heap_alloc_new W1 _, ((Below.refl _ W1).alloc (Nat.le_refl _) _).trans ⟨rfl, rfl, rfl, Nat.le_refl _, fun _ _ => rfl⟩⟩
  case rest =>
    obtain ⟨lb, rfl, h1, h2, h3⟩ := hcut
    have st := HST.out wc lb h1 h2 h3
    obtain ⟨ob, cap, eov, hlN, _, _⟩ := st.reads
    subst eov
    have std := st.drew
    obtain ⟨a4, a0, alb, aob⟩ := std.held
    have hc1 := std.body HIH.out (ite_len0 Hnl.out) true
    have hmf : ∀ (fn : Fn) (first cap : Array Value) (w : World), (Instr.makeFunc fn first cap).run Try.prog w = .ok (.func fn first cap) w := fun _ _ _ _ => rfl
    have hv6 : v < 100000 := by have := st.k.lt6 v st.hv; omega
    have HSZ : Hid (w.heap.size + 5 ≤ W1.heap.size) := s1
    have hlN' : (l : Int) < (S.order.length : Int) := by omega
    clear hlf hlg hlh hmin h1 h2 l4 l5 l6 l7 x4 x5 x6 x7 y0 y1 y2 s0 s1 hlN HST
    go_upto_region 11 with fail
    go_region_held (fun w' => w'.cell? ⟨w.heap.size, 0, none⟩ = some (.pointer (some ⟨gb, 0, none⟩)) ∧ w'.cell? ⟨gb, 0, none⟩ = some (.slice (some ⟨ob, 0, none⟩) S.order.length cap) ∧ w'.cell? ⟨lb, 0, none⟩ = some (.int .i64 (l : Int)) ∧ w'.cell? ⟨ob, l, none⟩ = some (.int .i64 (v : Int))) (go_keep) (first
      | (go_at_call 63; refine hc1.mono ?_; clear hc1; rintro e w2 ⟨r1, S1, rfl, ⟨ho1, O1, hG1, hgr1⟩, hw1⟩; have st1 := std.next ho1 hgr1 hG1 hw1; have hc2 := st1.body HIH.out (ite_len1 Hnl.out hw1) false; obtain ⟨k4, k0, klb, kob⟩ := st1.held)
      | (go_at_call 63; refine hc2.mono ?_; clear hc2; rintro e w3 ⟨r2, S2, rfl, ⟨ho2, O2, hG2, hgr2⟩, hw2⟩; have st2 := st1.next ho2 hgr2 hG2 hw2; have hjn := graphJoin_is hG2 v r1 r2 hv6 (hG2.bound (hw2.made.ext.ok hw1.made.ok)) (hG2.bound hw2.made.ok) (ite_len2 Hnl.out hw1 hw2); obtain ⟨m4, m0, mlb, mob⟩ := st2.held)
      | (go_at_call 61; refine hjn.mono ?_; clear hjn; rintro e w4 ⟨r, S3, rfl, ⟨ho3, O3, hG3, hgr3⟩, hj⟩; obtain ⟨hwf, hof, hgf, st3⟩ := std.fin ho1 hgr1 ho2 hgr2 ho3 hgr3 hG3 hw1 hw2 hj; obtain ⟨j4, j0, jlb, job⟩ := st3.held))
    obtain ⟨hk0, hk1, hk2⟩ := Hk2.out
    have hOn : ¬ O (w.heap.size + 4) := fun ho => by have := HA.out.lt _ ho; omega
    have hsz := HSZ.out
    have n0 : w4.cell? ⟨w.heap.size + 4, 0, none⟩ = some (.int .i64 (f : Int)) := (hof.cell (p := ⟨w.heap.size + 4, 0, none⟩) hOn (by have := h3.size; show w.heap.size + 4 < wc.heap.size; omega)).trans ((h3.cell (p := ⟨w.heap.size + 4, 0, none⟩) (by show w.heap.size + 4 < _; omega)).trans hk0)
    have n1 : w4.cell? ⟨w.heap.size + 4, 1, none⟩ = some (.int .i64 (g : Int)) := (hof.cell (p := ⟨w.heap.size + 4, 1, none⟩) hOn (by have := h3.size; show w.heap.size + 4 < wc.heap.size; omega)).trans ((h3.cell (p := ⟨w.heap.size + 4, 1, none⟩) (by show w.heap.size + 4 < _; omega)).trans hk1)
    have n2 : w4.cell? ⟨w.heap.size + 4, 2, none⟩ = some (.int .i64 (h : Int)) := (hof.cell (p := ⟨w.heap.size + 4, 2, none⟩) hOn (by have := h3.size; show w.heap.size + 4 < wc.heap.size; omega)).trans ((h3.cell (p := ⟨w.heap.size + 4, 2, none⟩) (by show w.heap.size + 4 < _; omega)).trans hk2)
    have hrem := graphRemember_is hG3 f g h r st3.of st3.og st3.oh hwf.made.ok (by rw [hwf.tab, hwf.made.ext.tab st.of, hwf.made.ext.tab st.og, hwf.made.ext.tab st.oh])
    have hfin : ∀ w5, GrStep O3 w4 gb w5 S3 → WentPost O w gb S (iteT (S.g.tab f) (S.g.tab g) (S.g.tab h)) (2 ^ (d + 1) - 1) (.returned (.int .i64 (r : Int))) w5 := fun w5 hs5 => ⟨r, S3, rfl, GrStep.pre (HB.out.trans (h3.mono HB.out.size)) (GrStep.pre (Below.refl _ _).drew (GrStep.trans hof hgf hs5)), hwf⟩
    have HF : Hid _ := hfin
    clear hfin hof hgf st3 hwf hj hG3 ho3 hgr3 hw2 hw1 hG2 hG1 ho1 ho2 hgr1 hgr2 st1 st2 std st h3 HSZ hsz hOn hk0 hk1 hk2 HA HB HIH Hnl Hl Hl6 Hk2 a4 a0 alb aob k4 k0 klb kob m4 m0 mlb mob j0 jlb job hmf hv6 hlN'
    go_wp2_with (go_at_call 65; refine hrem.mono ?_; rintro e w5 ⟨rfl, hs5⟩)
    go_ret
    exact HF.out w5 hs5

end Go.Proofs.Ytebfmcafmojlaaa

/-
  graph: Ite whole.
-/
namespace Go.Proofs.Ytebfmcafmojlaaa
open Go.RowKit Go.Maps
set_option linter.unusedSimpArgs false
set_option linter.unusedVariables false

theorem graphIte_all : ∀ d, IteIs d := by
  intro d
  induction d with
  | zero =>
    intro O w gb S f g h hG k hf hg hh kf kg kh hnl
    have hf2 : f / 2 = 0 := by
      rcases hf with e | ⟨n, e⟩
      · exact e
      · have := k.idx_lt e
        rw [Gr.lev_node e] at kf
        omega
    exact graphIte_short hG k hf hg hh (by omega)
  | succ d IH =>
    intro O w gb S f g h hG k hf hg hh kf kg kh hnl
    by_cases z0 : f = 0
    · exact graphIte_short hG k hf hg hh (.inl z0)
    by_cases z1 : g = h
    · exact graphIte_short hG k hf hg hh (.inr (.inl z1))
    by_cases z2 : f = 1
    · exact graphIte_short hG k hf hg hh (.inr (.inr z2))
    obtain ⟨ov, nv, fv, mb, rb, M, R, hA⟩ := hG
    by_cases hin : ∃ u, (key3 f g h, u) ∈ R
    · obtain ⟨u, hu⟩ := hin
      obtain ⟨f', g', h', r', ep, _⟩ := hA.rok _ hu
      simp only [Prod.mk.injEq] at ep
      obtain ⟨_, rfl⟩ := ep
      exact graphIte_kept hA k hf hg hh z0 z1 z2 hu
    · exact graphIte_new d IH hA k hf hg hh z0 z1 z2 (fun u hu => hin ⟨u, hu⟩) kf kg kh hnl

/-- Ite. -/
theorem graphIte_is {O : Nat → Prop} {w : World} {gb : Nat} {S : GrS} (hG : GrIs O w gb S) (k : S.g.Ok) (f g h : Nat) (hf : S.g.ok f) (hg : S.g.ok g) (hh : S.g.ok h) (hnl : S.nl.length + 64 ≤ 100000) :
    Calls Try.prog 46 #[.pointer (some ⟨gb, 0, none⟩), .int .i64 f, .int .i64 g, .int .i64 h] w (WentPost O w gb S (iteT (S.g.tab f) (S.g.tab g) (S.g.tab h)) 63) := by
  have hol := hG.ol
  exact graphIte_all 6 O w gb S f g h hG k hf hg hh (by omega) (by omega) (by omega) (by omega)

end Go.Proofs.Ytebfmcafmojlaaa

/-
  graph: restrict, Restrict.
-/
namespace Go.Proofs.Ytebfmcafmojlaaa
open Go.RowKit Go.Maps
set_option linter.unusedSimpArgs false
set_option linter.unusedVariables false

/-- restrict, where at most d levels are left ahead of the variable's. -/
def ResIs (d : Nat) : Prop := ∀ (O : Nat → Prop) (w : World) (gb : Nat) (S : GrS) (f l v : Nat) (b : Bool), GrIs O w gb S → S.g.Ok → S.g.ok f → v ∈ S.g.order → S.g.idx v = l → l ≤ S.g.lev f + d → S.nl.length + 2 ^ d ≤ 100000 →
  Calls Try.prog 66 #[.pointer (some ⟨gb, 0, none⟩), .int .i64 f, .int .i64 l, .bool b] w (WentPost O w gb S (given (S.g.tab f) v b) (2 ^ d - 1))

theorem WentPost.val {O : Nat → Prop} {w : World} {gb : Nat} {S : GrS} {F : Tab} {d : Nat} {e : Ending} {w' : World} (h : WentPost O w gb S F d e w') : ∃ r : Nat, e = .returned (.int .i64 (r : Int)) := by
  obtain ⟨r, S', e1, _⟩ := h
  exact ⟨r, e1⟩

set_option maxHeartbeats 400000 in
set_option maxRecDepth 10000 in
theorem graphRestrict_here {O : Nat → Prop} {w : World} {gb : Nat} {S : GrS} {f l v : Nat} {b : Bool} {d : Nat} (hG : GrIs O w gb S) (k : S.g.Ok) (hf : S.g.ok f) (hv : v ∈ S.g.order) (hl : S.g.idx v = l) (hle : l ≤ S.g.lev f) :
    Calls Try.prog 66 #[.pointer (some ⟨gb, 0, none⟩), .int .i64 f, .int .i64 l, .bool b] w (WentPost O w gb S (given (S.g.tab f) v b) d) := by
  have hlt : l < S.g.order.length := by rw [← hl]; exact List.idxOf_lt_length_of_mem hv
  have hlv := graphLevel_is hG k f hf
  have hbr : ∀ wq, Below w.heap.size w wq → Calls Try.prog 64 #[.pointer (some ⟨gb, 0, none⟩), .int .i64 f, .int .i64 l, .bool b] wq fun e w' => e = .returned (.int .i64 (S.g.br f l b : Nat)) ∧ Below wq.heap.size wq w' := fun wq hb => graphBranch_is (hG.below hb) k f l b hf hlt
  have hp : ∀ w', Below w.heap.size w w' → WentPost O w gb S (given (S.g.tab f) v b) d (.returned (.int .i64 ((S.g.br f l b : Nat) : Int))) w' := fun w' hb => ite_short hG k (k.br_ok hf) (k.br_tab hf hv hl hle) hb
  have HP : Hid _ := hp
  have hge : (l : Int) ≤ ((S.g.lev f : Nat) : Int) := by omega
  generalize S.g.lev f = top at hlv hge
  generalize S.g.br f l b = x at hbr HP
  clear hp hG k hf hv hl hle hlt
  go_enter Try.func66, Try.ntmps66
  go_wp2_with (first
    | (go_at_call 62; refine hlv.mono ?_; rintro e w1 ⟨rfl, hb1⟩)
    | (go_at_call 64; refine (hbr _ hb1).mono ?_; rintro e w2 ⟨rfl, hb2⟩))
  go_ret
  exact HP.out _ (hb1.trans (hb2.mono hb1.size))

end Go.Proofs.Ytebfmcafmojlaaa

/-
  graph: restrict whole, Restrict.
-/
namespace Go.Proofs.Ytebfmcafmojlaaa
open Go.RowKit Go.Maps
set_option linter.unusedSimpArgs false
set_option linter.unusedVariables false

theorem GrIs.orderAt {O : Nat → Prop} {w : World} {gb : Nat} {S : GrS} (hG : GrIs O w gb S) {u l : Nat} (hu : u ∈ S.g.order) (hl : S.g.idx u = l) :
    ∃ ob cap, (l : Int) < ((S.order.length : Nat) : Int) ∧ w.cell? ⟨gb, 0, none⟩ = some (.slice (some ⟨ob, 0, none⟩) S.order.length cap) ∧ w.cell? ⟨ob, l, none⟩ = some (.int .i64 (u : Int)) := by
  obtain ⟨ov, nv, fv, mb, rb, M, R, hA⟩ := hG
  have hm : S.order.idxOf u < S.order.length := List.idxOf_lt_length_of_mem hu
  have h2 : S.order.idxOf u = l := hl
  have hr := hA.order.1
  rw [List.length_map] at hr
  rcases hr.2 with ⟨rfl, h0⟩ | ⟨ob, cap, cur, e, _, hg, _⟩
  · omega
  · refine ⟨ob, cap, by omega, by rw [← e]; exact hA.c.1, ?_⟩
    have hget : S.order[l]? = some u := by
      rw [← h2]
      exact List.getElem?_eq_some_iff.2 ⟨hm, List.getElem_idxOf hm⟩
    have := hr.cells (g := ob) (by rw [e]; rfl) l (natv u) (by rw [List.getElem?_map, hget]; rfl)
    have hadd : (⟨ob, 0, none⟩ : Addr).add l = ⟨ob, 0 + l, none⟩ := by unfold Addr.add; split <;> simp_all
    rw [hadd, Nat.zero_add] at this
    exact this

theorem res_joined {d u v f : Nat} {b : Bool} {S S1 S2 S3 : GrS} {r1 r2 r : Nat} (k : S.g.Ok) (hf : S.g.ok f) (hv : v ∈ S.g.order) (hu : u ∈ S.g.order) (hul : S.g.idx u = S.g.lev f) (hlt : S.g.idx u < S.g.idx v)
    (hw1 : S.Went S1 r1 (given (given (S.g.tab f) u true) v b) (2 ^ d - 1)) (hw2 : S1.Went S2 r2 (given (given (S.g.tab f) u false) v b) (2 ^ d - 1)) (hj : JoinPost S2 u r1 r2 r S3) : S.Went S3 r (given (S.g.tab f) v b) (2 ^ (d + 1) - 1) := by
  have hu6 := k.lt6 u hu
  have hv6 := k.lt6 v hv
  have hne : u ≠ v := by intro e; subst e; omega
  have q : ∀ c, ∀ x ∈ S.g.order, S.g.idx x ≤ S.g.idx u → hangs (given (given (S.g.tab f) u c) v b) x = false := by
    intro c x hx hi
    have hx6 := k.lt6 x hx
    cases h2 : hangs (given (given (S.g.tab f) u c) v b) x
    · rfl
    · have h3 := hangs_given _ _ _ _ hv6 hx6 h2
      rw [hangs_given_le k hf hu (by omega) x hx hi] at h3
      cases h3
  have := hw1.join hw2 hj hu (q true) (q false)
  rw [given_comm _ _ _ _ _ hu6 hv6 (fun e => hne e.symm), given_comm _ _ _ _ _ hu6 hv6 (fun e => hne e.symm), halves _ _ hu6] at this
  refine this.mono_d ?_
  have hp : 0 < 2 ^ d := Nat.two_pow_pos d
  rw [Nat.pow_succ]
  omega

theorem Gr.Ext.br {G G' : Gr} (h : G.Ext G') (k : G.Ok) (k' : G'.Ok) {r l : Nat} {b : Bool} (hr : G.ok r) : G'.br r l b = G.br r l b := by
  rcases hr with e | ⟨n, e⟩
  · unfold Gr.br; rw [e, k.zero, k'.zero]
  · have e' := h.node e
    unfold Gr.br
    simp only [e, e', h.idx]

set_option maxHeartbeats 400000 in
set_option maxRecDepth 10000 in
theorem graphRestrict_down (d : Nat) (IH : ResIs d) {O : Nat → Prop} {w : World} {gb : Nat} {S : GrS} {f l v : Nat} {b : Bool} (hG : GrIs O w gb S) (k : S.g.Ok) (hf : S.g.ok f) (hv : v ∈ S.g.order) (hl : S.g.idx v = l) (hlt : S.g.lev f < l) (hd : l ≤ S.g.lev f + (d + 1)) (hnl : S.nl.length + 2 ^ (d + 1) ≤ 100000) :
    Calls Try.prog 66 #[.pointer (some ⟨gb, 0, none⟩), .int .i64 f, .int .i64 l, .bool b] w (WentPost O w gb S (given (S.g.tab f) v b) (2 ^ (d + 1) - 1)) := by
  have hln : l < S.g.order.length := by rw [← hl]; exact List.idxOf_lt_length_of_mem hv
  have hlv := graphLevel_is hG k f hf
  obtain ⟨top, htop⟩ : ∃ top, top = S.g.lev f := ⟨_, rfl⟩
  have htl : top < S.g.order.length := by omega
  obtain ⟨u, hu⟩ : ∃ u, u = S.g.order[top] := ⟨_, rfl⟩
  have hum : u ∈ S.g.order := by rw [hu]; exact List.getElem_mem htl
  have hui : S.g.idx u = top := by rw [hu]; exact List.Nodup.idxOf_getElem k.nodup top htl
  have hbt : ∀ wq, Below w.heap.size w wq → Calls Try.prog 64 #[.pointer (some ⟨gb, 0, none⟩), .int .i64 f, .int .i64 top, .bool true] wq fun e w' => e = .returned (.int .i64 (S.g.br f top true : Nat)) ∧ Below wq.heap.size wq w' := fun wq hb => graphBranch_is (hG.below hb) k f top true hf htl
  have hr1 : ∀ wq, Below w.heap.size w wq → Calls Try.prog 66 #[.pointer (some ⟨gb, 0, none⟩), .int .i64 (S.g.br f top true : Nat), .int .i64 l, .bool b] wq (WentPost O w gb S (given (given (S.g.tab f) u true) v b) (2 ^ d - 1)) := by
    intro wq hb
    have q := k.br_lev (b := true) hf (by omega : top ≤ S.g.lev f) htl
    have := IH O wq gb S (S.g.br f top true) l v b (hG.below hb) k (k.br_ok hf) hv hl (by omega) (ite_len0 hnl)
    rw [k.br_tab hf hum hui (by omega)] at this
    exact this.mono (fun e w' hp => hp.pre hb)
  have hnext : ∀ O1 w1 S1 r1, GrIs O1 w1 gb S1 → S.Went S1 r1 (given (given (S.g.tab f) u true) v b) (2 ^ d - 1) →
      (Calls Try.prog 64 #[.pointer (some ⟨gb, 0, none⟩), .int .i64 f, .int .i64 top, .bool false] w1 fun e w' => e = .returned (.int .i64 (S.g.br f top false : Nat)) ∧ Below w1.heap.size w1 w') ∧
      (∀ wq, Below w1.heap.size w1 wq → Calls Try.prog 66 #[.pointer (some ⟨gb, 0, none⟩), .int .i64 (S.g.br f top false : Nat), .int .i64 l, .bool b] wq (WentPost O1 w1 gb S1 (given (given (S.g.tab f) u false) v b) (2 ^ d - 1))) := by
    intro O1 w1 S1 r1 hG1 hw1
    have hx := hw1.made.ext
    have k1 := hw1.ok
    have hf1 := hx.ok hf
    refine ⟨?_, ?_⟩
    · have := graphBranch_is hG1 k1 f top false hf1 (by rw [hx.order]; exact htl)
      rw [hx.br k k1 hf] at this
      exact this
    · intro wq hb
      have q := k1.br_lev (b := false) hf1 (l := top) (by rw [hx.lev k k1 hf]; omega) (by rw [hx.order]; exact htl)
      have := IH O1 wq gb S1 (S1.g.br f top false) l v b (hG1.below hb) k1 (k1.br_ok hf1) (by rw [hx.order]; exact hv) (by rw [hx.idx]; exact hl) (by omega) (ite_len1 hnl hw1)
      rw [k1.br_tab hf1 (by rw [hx.order]; exact hum) (by rw [hx.idx]; exact hui) (by rw [hx.lev k k1 hf]; omega), hx.tab hf, hx.br k k1 hf] at this
      exact this.mono (fun e w' hp => hp.pre hb)
  have hlast : ∀ O1 w1 S1 r1 O2 w2 S2 r2, Only O w w1 → Grows w O O1 → S.Went S1 r1 (given (given (S.g.tab f) u true) v b) (2 ^ d - 1) → Only O1 w1 w2 → Grows w1 O1 O2 → GrIs O2 w2 gb S2 → S1.Went S2 r2 (given (given (S.g.tab f) u false) v b) (2 ^ d - 1) →
      (∃ ob N cap, (top : Int) < ((N : Nat) : Int) ∧ w2.cell? ⟨gb, 0, none⟩ = some (.slice (some ⟨ob, 0, none⟩) N cap) ∧ w2.cell? ⟨ob, top, none⟩ = some (.int .i64 (u : Int))) ∧
      Calls Try.prog 61 #[.pointer (some ⟨gb, 0, none⟩), .int .i64 u, .int .i64 r1, .int .i64 r2] w2 (WentPost O w gb S (given (S.g.tab f) v b) (2 ^ (d + 1) - 1)) := by
    intro O1 w1 S1 r1 O2 w2 S2 r2 ho1 hg1 hw1 ho2 hg2 hG2 hw2
    have hx := hw1.made.ext.trans hw2.made.ext
    obtain ⟨ob, cap, a1, a2, a3⟩ := hG2.orderAt (u := u) (l := top) (by rw [hx.order]; exact hum) (by rw [hx.idx]; exact hui)
    refine ⟨⟨ob, _, cap, a1, a2, a3⟩, ?_⟩
    have hu6 := k.lt6 u hum
    refine (graphJoin_is hG2 u r1 r2 (by omega) (hG2.bound (hw2.made.ext.ok hw1.made.ok)) (hG2.bound hw2.made.ok) (ite_len2 hnl hw1 hw2)).mono ?_
    rintro e w3 ⟨r, S3, rfl, hs3, hj⟩
    exact ⟨r, S3, rfl, GrStep.trans (ho1.trans ho2 hg1) (hg1.trans hg2 ho1.size) hs3, res_joined k hf hv hum (by omega) (by omega) hw1 hw2 hj⟩
  have hge : ¬ (l : Int) ≤ (top : Int) := by omega
  have hgeb : decide ((l : Int) ≤ (top : Int)) = false := by simp only [hge, decide_false]
  rw [← htop] at hlv
  generalize S.g.br f top true = xt at hbt hr1
  generalize S.g.br f top false = xe at hnext
  have HN : Hid _ := hnext
  have HL : Hid _ := hlast
  clear hnext hlast IH hG k hf hv hl hlt hd hnl hln htl hu hum hui htop
  go_enter Try.func66, Try.ntmps66
  go_wp2_with (first
    | (go_at_call 62; refine hlv.mono ?_; clear hlv; rintro e w1 ⟨rfl, hb1⟩)
    | (go_at_call 64; refine (hbt _ hb1).mono ?_; clear hbt; rintro e w2 ⟨rfl, hb2⟩; replace hb1 := hb1.trans (hb2.mono hb1.size); clear hb2)
    | (go_at_call 66; refine (hr1 _ hb1).mono ?_; clear hr1; rintro e w3 ⟨r1, S1, rfl, ⟨ho1, O1, hG1, hgr1⟩, hw1⟩; obtain ⟨hbe, hr2⟩ := HN.out O1 w3 S1 r1 hG1 hw1; clear HN)
    | (go_at_call 64; refine hbe.mono ?_; clear hbe; rintro e w4 ⟨rfl, hb4⟩)
    | (go_at_call 66; refine (hr2 _ hb4).mono ?_; clear hr2; rintro e w5 ⟨r2, S2, rfl, ⟨ho2, O2, hG2, hgr2⟩, hw2⟩; obtain ⟨⟨ob, N, cap, q1, q2, q3⟩, hjn⟩ := HL.out O1 w3 S1 r1 O2 w5 S2 r2 ho1 hgr1 hw1 ho2 hgr2 hG2 hw2; clear HL)
    | (go_at_call 61; refine hjn.mono ?_; clear hjn; rintro e w6 hp; obtain ⟨r, hr⟩ := hp.val; subst hr))
  go_ret
  exact hp

theorem graphRestrict_all : ∀ d, ResIs d := by
  intro d
  induction d with
  | zero =>
    intro O w gb S f l v b hG k hf hv hl hd hnl
    exact graphRestrict_here hG k hf hv hl (by omega)
  | succ d IH =>
    intro O w gb S f l v b hG k hf hv hl hd hnl
    by_cases hle : l ≤ S.g.lev f
    · exact graphRestrict_here hG k hf hv hl hle
    · exact graphRestrict_down d IH hG k hf hv hl (by omega) hd hnl

set_option maxHeartbeats 400000 in
theorem graphRestrict_is {O : Nat → Prop} {w : World} {gb : Nat} {S : GrS} (hG : GrIs O w gb S) (k : S.g.Ok) (f v : Nat) (b : Bool) (hf : S.g.ok f) (hv : v ∈ S.g.order) (hnl : S.nl.length + 64 ≤ 100000) :
    Calls Try.prog 48 #[.pointer (some ⟨gb, 0, none⟩), .int .i64 f, .int .i64 v, .bool b] w (WentPost O w gb S (given (S.g.tab f) v b) 63) := by
  have hol := hG.ol
  have hres := graphRestrict_all 6 O w gb S f (S.g.idx v) v b hG k hf hv rfl (by have : S.g.idx v < S.g.order.length := List.idxOf_lt_length_of_mem hv; omega) (by omega)
  obtain ⟨ov, nv, fv, mb, rb, M, R, hA⟩ := hG
  obtain ⟨c0, c1, c2, c3, c4⟩ := hA.c
  obtain ⟨ao, cap, eo, hro⟩ := order_reads hA
  subst eo
  have hix := slicesIndex_is (.slice ao S.order.length cap) S.order v w hro (by have := hA.ol; omega)
  have e1 : idxI S.order v = ((S.g.idx v : Nat) : Int) := idxI_mem hv
  rw [e1] at hix
  generalize S.g.idx v = l at hix hres
  clear hA e1 hro k hf hv hnl hol
  go_enter Try.func48, Try.ntmps48
  go_wp2_with (first
    | (go_at_call 67; refine hix.mono ?_; rintro e w1 ⟨rfl, hq⟩; replace hq := hq.symm; subst hq)
    | (go_at_call 66; refine hres.mono ?_; clear hres; rintro e w6 hp; obtain ⟨r, hr⟩ := hp.val; subst hr))
  go_ret
  exact hp

end Go.Proofs.Ytebfmcafmojlaaa

/-
  graph: Eval.
-/
namespace Go.Proofs.Ytebfmcafmojlaaa
open Go.RowKit Go.Maps
set_option linter.unusedSimpArgs false
set_option linter.unusedVariables false

theorem bit_of_testBit (a v : Nat) : a / 2 ^ v % 2 = if a.testBit v then 1 else 0 := by
  rw [Nat.testBit_eq_decide_div_mod_eq]
  by_cases h : a / 2 ^ v % 2 = 1
  · simp [h]
  · have : a / 2 ^ v % 2 = 0 := by omega
    simp [this]

theorem eval_bits (a v : Nat) (ha : a < 64) : bits .and .i64 ((a : Int) / 2 ^ v) 1 = if a.testBit v then 1 else 0 := by
  have h1 : ((a : Int) / 2 ^ v) = ((a / 2 ^ v : Nat) : Int) := by simp
  rw [h1, ref_low _ (by have : a / 2 ^ v ≤ a := Nat.div_le_self _ _; unfold refMax; omega), bit_of_testBit]
  split <;> rfl

/-- A branch tells the same, where the variable has the assignment's value. -/
theorem Gr.Ok.br_eval {G : Gr} (k : G.Ok) {r : Nat} {n : Nd} (hr : G.ok r) (hn : G.node (r / 2) = some n) {a : Nat} (ha : a < 64) : (G.tab (G.br r (G.lev r) (a.testBit n.v))).getLsbD a = (G.tab r).getLsbD a := by
  rw [k.br_tab hr (k.var hn) (Gr.lev_node hn).symm (Nat.le_refl _), given_bit _ _ _ _ (k.v6 hn) ha, setb_same]

set_option maxHeartbeats 1000000 in
set_option maxRecDepth 10000 in
theorem graphEval_is {O : Nat → Prop} {w : World} {gb : Nat} {S : GrS} (hG : GrIs O w gb S) (k : S.g.Ok) (f a : Nat) (hf : S.g.ok f) (ha : a < 64) :
    Calls Try.prog 49 #[.pointer (some ⟨gb, 0, none⟩), .int .i64 f, .int .i64 a] w fun e w' => e = .returned (.bool ((S.g.tab f).getLsbD a)) ∧ Below w.heap.size w w' := by
  have HG : Hid (GrIs O w gb S) := hG
  have HK : Hid S.g.Ok := k
  have HF : Hid (S.g.ok f) := hf
  clear hG k hf
  go_enter Try.func49, Try.ntmps49
  go_wp2
  go_loopw [1] (fun x wr => ∃ r : Nat, x = .int .i64 r ∧ S.g.ok r ∧ (S.g.tab r).getLsbD a = (S.g.tab f).getLsbD a ∧ Below w.heap.size w wr) (fun x _ => S.g.order.length - S.g.lev (intOf x).toNat)
  case atStart => exact ⟨f, rfl, HF.out, rfl, Below.refl _ _⟩
  case round =>
    obtain ⟨r, rfl, hr, htab, hb⟩ := hrel
    have hcon := refConstant_is r
    have HT : Hid ((S.g.tab r).getLsbD a = (S.g.tab f).getLsbD a) := htab
    clear htab
    have HR : Hid (S.g.ok r) := hr
    clear hr
    by_cases hz : r / 2 = 0
    · have hd : decide (r / 2 = 0) = true := by simp [hz]
      rw [hd] at hcon
      have hr0 : ((r : Int) == 0) = (S.g.tab f).getLsbD a := by
        rw [← HT.out]
        have hk := HK.out
        rcases Nat.mod_two_eq_zero_or_one r with e | e
        · have : r = 0 := by omega
          subst this
          rw [tab_true hk, onesT_bit a ha]; rfl
        · have : r = 1 := by omega
          subst this
          rw [tab_false hk]; simp
      have HZ : Hid _ := hr0
      clear hz hd hr0
      go_wp2_with (go_at_call 68; refine (hcon _).mono ?_; rintro e w1 ⟨rfl, hq⟩; replace hq := hq.symm; subst hq)
      go_ret
      exact ⟨retB HZ.out, hb⟩
    · have hd : decide (r / 2 = 0) = false := by simp [hz]
      rw [hd] at hcon
      obtain ⟨n, hn⟩ := Gr.ok_node HR.out hz
      have hGr := HG.out.below hb
      have hlv : ∀ wq, Below w.heap.size w wq → Calls Try.prog 62 #[.pointer (some ⟨gb, 0, none⟩), .int .i64 r] wq fun e w' => e = .returned (.int .i64 (S.g.lev r : Nat)) ∧ Below wq.heap.size wq w' := fun wq hbq => graphLevel_is (HG.out.below hbq) HK.out r HR.out
      have hlev : S.g.lev r < S.g.order.length := by rw [Gr.lev_node hn]; exact HK.out.idx_lt hn
      have hbr : ∀ wq, Below w.heap.size w wq → Calls Try.prog 64 #[.pointer (some ⟨gb, 0, none⟩), .int .i64 r, .int .i64 (S.g.lev r : Nat), .bool (a.testBit n.v)] wq fun e w' => e = .returned (.int .i64 (S.g.br r (S.g.lev r) (a.testBit n.v) : Nat)) ∧ Below wq.heap.size wq w' := fun wq hbq => graphBranch_is (HG.out.below hbq) HK.out r (S.g.lev r) _ HR.out hlev
      have hmeas := HK.out.br_lev (b := a.testBit n.v) HR.out (Nat.le_refl _) hlev
      have heval := HK.out.br_eval HR.out hn ha
      have hok := HK.out.br_ok (l := S.g.lev r) (b := a.testBit n.v) HR.out
      have HM : Hid _ := hmeas
      have HE : Hid _ := heval
      have HO : Hid _ := hok
      have HLV : Hid (S.g.lev r < S.g.order.length) := hlev
      obtain ⟨ov, nv, fv, mb, rb, M, R, hA⟩ := hGr
      obtain ⟨c0, c1, c2, c3, c4⟩ := hA.c
      obtain ⟨nb, ncap, en, hnb, hob, hnode⟩ := hA.nodeAt
      subst en
      obtain ⟨hi, d0, d1, d2⟩ := hnode _ _ hn
      have hnum := refNumber_is r
      obtain ⟨q, hq⟩ : ∃ q, q = r / 2 := ⟨_, rfl⟩
      rw [← hq] at hi d0 hnum
      have hvb := eval_bits a n.v ha
      have hv6 := HK.out.v6 hn
      have he1 : ((if a.testBit n.v = true then (1 : Int) else 0) == 1) = a.testBit n.v := by cases a.testBit n.v <;> rfl
      generalize S.g.br r (S.g.lev r) (a.testBit n.v) = r' at hbr HM HE HO
      generalize hbt : a.testBit n.v = tb at *
      clear hbt hmeas heval hok hlev hA hnode d1 d2 hn c0 c2 c3 c4 hz hd hq hob
      have hbel := hb
      go_wp2_with (go_at_call 68; refine (hcon _).mono ?_; rintro e w1 ⟨rfl, hq⟩; replace hq := hq.symm; subst hq)
      go_region_held (fun w' => w'.cell? ⟨gb, 1, none⟩ = some (.slice (some ⟨nb, 0, none⟩) S.nl.length ncap) ∧ w'.cell? ⟨nb, q * 3, none⟩ = some (.int .i64 (n.v : Nat))) (go_keep) (first | (go_at_call 69; refine (hnum _).mono ?_; rintro e' w1 ⟨rfl, hq⟩; replace hq := hq.symm; subst hq))
      replace hbel := hbel.drew
      clear hcon hnum hvb
      cases tb
      all_goals
        simp only [Bool.false_eq_true, if_false, if_true] at he1 ⊢
        go_wp2_with (first
          | (go_at_call 62; refine (hlv _ hbel).mono ?_; rintro e w1 ⟨rfl, hb1⟩; replace hbel := hbel.trans (hb1.mono hbel.size); clear hb1)
          | (go_at_call 64; refine (hbr _ hbel).mono ?_; rintro e w2 ⟨rfl, hb1⟩; replace hbel := hbel.trans (hb1.mono hbel.size); clear hb1))
        go_roundw
        case rel => exact ⟨r', rfl, HO.out, HE.out.trans HT.out, hbel⟩
        case measure =>
          have := HM.out
          have := HLV.out
          simp [intOf]
          omega

end Go.Proofs.Ytebfmcafmojlaaa

