/-
  graph: Ite, level by level: what is carried from one call to the next.
-/
import Derived.Deep.Draws
import Derived.Test.YtebfmcafmojlaaaGreatDoorT17
namespace Go.Proofs.YtebfmcafmojlaaaGreatDoor
open Go.RowKit Go.Maps
set_option linter.unusedSimpArgs false
set_option linter.unusedVariables false

theorem graphLevel_n {O : Nat → Prop} {w : World} {gb : Nat} {S : GrS} {ov nv fv : Value} {mb rb : Nat} {M R : List (Value × Value)} (hA : GrAt O w gb S ov nv fv mb rb M R) (k : S.g.Ok) (r : Nat) (hr : S.g.ok r) :
    ∃ n, ∀ wq, Below w.heap.size w wq → Calls Tryz.prog 98 #[.pointer (some ⟨gb, 0, none⟩), .int .i64 r] wq fun e w' => e = .returned (.int .i64 (S.g.lev r : Nat)) ∧ w' = wq.drewN n := by
  refine ⟨if r / 2 = 0 then 0 else 1, fun wq hb => (graphLevel_w ⟨_, _, _, _, _, _, _, hA.below hb⟩ k r hr).mono ?_⟩
  rintro e w' ⟨he, hw⟩
  refine ⟨he, ?_⟩
  rw [hw]
  split <;> rfl

theorem min3_eq (a b c : Nat) : (if (c : Int) < (if b < a then (b : Int) else (a : Int)) then (c : Int) else (if b < a then (b : Int) else (a : Int))) = ((min a (min b c) : Nat) : Int) := by
  split <;> split at * <;> omega

/-- Ite in the midst of it: the graph, the boxes, the level. -/
structure IteSt (d : Nat) (O : Nat → Prop) (w : World) (gb : Nat) (S : GrS) (f g h l v b4 b5 lb b6 b7 : Nat) (ov : Value) : Prop where
  G : GrIs O w gb S
  k : S.g.Ok
  of : S.g.ok f
  og : S.g.ok g
  oh : S.g.ok h
  hv : v ∈ S.g.order
  hl : S.g.idx v = l
  lf : l ≤ S.g.lev f
  lg : l ≤ S.g.lev g
  lh : l ≤ S.g.lev h
  hd : S.g.order.length ≤ l + (d + 1)
  B : IteBox O w b4 b5 lb b6 b7 gb f l g h
  hov : S.ov = ov

theorem IteBox.step {O O1 : Nat → Prop} {w w1 : World} {b4 b5 b12 b6 b7 gb f l g h : Nat} (B : IteBox O w b4 b5 b12 b6 b7 gb f l g h) (ho : Only O w w1) (hg : Grows w O O1) : IteBox O1 w1 b4 b5 b12 b6 b7 gb f l g h := by
  have q : ∀ b, ¬ O b → b < w.heap.size → ¬ O1 b := fun b h1 h2 h3 => (hg b h3).elim h1 (fun e => by omega)
  exact ⟨q _ B.n4 B.l4, q _ B.n5 B.l5, q _ B.n12 B.l12, q _ B.n6 B.l6, q _ B.n7 B.l7, Nat.lt_of_lt_of_le B.l4 ho.size, Nat.lt_of_lt_of_le B.l5 ho.size, Nat.lt_of_lt_of_le B.l12 ho.size, Nat.lt_of_lt_of_le B.l6 ho.size, Nat.lt_of_lt_of_le B.l7 ho.size,
    (ho.cell (p := ⟨b4, 0, none⟩) B.n4 B.l4).trans B.c4, (ho.cell (p := ⟨b5, 0, none⟩) B.n5 B.l5).trans B.c5, (ho.cell (p := ⟨b12, 0, none⟩) B.n12 B.l12).trans B.c12, (ho.cell (p := ⟨b6, 0, none⟩) B.n6 B.l6).trans B.c6, (ho.cell (p := ⟨b7, 0, none⟩) B.n7 B.l7).trans B.c7⟩

theorem IteSt.next {d : Nat} {O O1 : Nat → Prop} {w w1 : World} {gb : Nat} {S S1 : GrS} {f g h l v b4 b5 lb b6 b7 : Nat} {ov : Value} (st : IteSt d O w gb S f g h l v b4 b5 lb b6 b7 ov) (ho : Only O w w1) (hg : Grows w O O1) (hG : GrIs O1 w1 gb S1) {r : Nat} {F : Tab} {n : Nat} (hw : S.Went S1 r F n) : IteSt d O1 w1 gb S1 f g h l v b4 b5 lb b6 b7 ov := by
  have hx := hw.made.ext
  have k1 := hw.ok
  refine ⟨hG, k1, hx.ok st.of, hx.ok st.og, hx.ok st.oh, by rw [hx.order]; exact st.hv, by rw [hx.idx]; exact st.hl, ?_, ?_, ?_, by rw [hx.order]; exact st.hd, st.B.step ho hg, hw.ov.trans st.hov⟩
  · rw [hx.lev st.k k1 st.of]; exact st.lf
  · rw [hx.lev st.k k1 st.og]; exact st.lg
  · rw [hx.lev st.k k1 st.oh]; exact st.lh

theorem IteSt.drew {d : Nat} {O : Nat → Prop} {w : World} {gb : Nat} {S : GrS} {f g h l v b4 b5 lb b6 b7 : Nat} {ov : Value} (st : IteSt d O w gb S f g h l v b4 b5 lb b6 b7 ov) : IteSt d O w.drew gb S f g h l v b4 b5 lb b6 b7 ov :=
  { st with G := st.G.undrew, B := st.B.step (only_of_below (Below.refl _ _).drew O) (fun b hb => .inl hb) }

theorem IteSt.body {d : Nat} (IH : IteIs d) {O : Nat → Prop} {w : World} {gb : Nat} {S : GrS} {f g h l v b4 b5 lb b6 b7 : Nat} {ov : Value} (st : IteSt d O w gb S f g h l v b4 b5 lb b6 b7 ov) (hnl : S.nl.length + 2 ^ d ≤ 100000) (b : Bool) :
    Calls Tryz.prog 99 #[.bool b, .pointer (some ⟨b4, 0, none⟩), .pointer (some ⟨b5, 0, none⟩), .pointer (some ⟨lb, 0, none⟩), .pointer (some ⟨b6, 0, none⟩), .pointer (some ⟨b7, 0, none⟩)] w (WentPost O w gb S (iteT (given (S.g.tab f) v b) (given (S.g.tab g) v b) (given (S.g.tab h) v b)) (2 ^ d - 1)) :=
  graphIteBody_is d IH st.G st.k f g h l st.of st.og st.oh b v st.hv st.hl st.lf st.lg st.lh st.hd hnl b4 b5 lb b6 b7 st.B

/-- What the region reads of the graph and of the boxes. -/
theorem IteSt.reads {d : Nat} {O : Nat → Prop} {w : World} {gb : Nat} {S : GrS} {f g h l v b4 b5 lb b6 b7 : Nat} {ov : Value} (st : IteSt d O w gb S f g h l v b4 b5 lb b6 b7 ov) :
    ∃ ob cap, ov = .slice (some ⟨ob, 0, none⟩) S.order.length cap ∧ l < S.order.length ∧ w.cell? ⟨gb, 0, none⟩ = some ov ∧ w.cell? ⟨ob, l, none⟩ = some (.int .i64 (v : Int)) := by
  obtain ⟨ov', nv, fv, mb, rb, M, R, hA⟩ := st.G
  have e1 : ov' = ov := hA.eov.symm.trans st.hov
  subst e1
  have hlt : l < S.order.length := by
    have := List.idxOf_lt_length_of_mem st.hv
    have h2 := st.hl
    unfold Gr.idx at h2
    rw [h2] at this
    exact this
  have hr := hA.order.1
  rw [List.length_map] at hr
  rcases hr.2 with ⟨rfl, h0⟩ | ⟨ob, cap, cur, e, _, hg, _⟩
  · omega
  · refine ⟨ob, cap, e, hlt, hA.c.1, ?_⟩
    have hget : S.order[l]? = some v := by
      have hm : S.order.idxOf v < S.order.length := List.idxOf_lt_length_of_mem st.hv
      have h2 : S.order.idxOf v = l := st.hl
      rw [← h2]
      exact List.getElem?_eq_some_iff.2 ⟨hm, List.getElem_idxOf hm⟩
    have := hr.cells (g := ob) (by rw [e]; rfl) l (natv v) (by rw [List.getElem?_map, hget]; rfl)
    have hadd : (⟨ob, 0, none⟩ : Addr).add l = ⟨ob, 0 + l, none⟩ := by unfold Addr.add; split <;> simp_all
    rw [hadd, Nat.zero_add] at this
    exact this

theorem IteSt.held {d : Nat} {O : Nat → Prop} {w : World} {gb : Nat} {S : GrS} {f g h l v b4 b5 lb b6 b7 ob N cap : Nat} (st : IteSt d O w gb S f g h l v b4 b5 lb b6 b7 (.slice (some ⟨ob, 0, none⟩) N cap)) :
    w.cell? ⟨b4, 0, none⟩ = some (.pointer (some ⟨gb, 0, none⟩)) ∧ w.cell? ⟨gb, 0, none⟩ = some (.slice (some ⟨ob, 0, none⟩) N cap) ∧ w.cell? ⟨lb, 0, none⟩ = some (.int .i64 (l : Int)) ∧ w.cell? ⟨ob, l, none⟩ = some (.int .i64 (v : Int)) := by
  obtain ⟨ob', cap', e, _, h1, h2⟩ := st.reads
  simp only [Value.slice.injEq, Option.some.injEq, Addr.mk.injEq, and_true] at e
  obtain ⟨rfl, _, _⟩ := e
  exact ⟨st.B.c4, h1, st.B.c12, h2⟩

theorem hangs_given_le {G : Gr} (k : G.Ok) {r v : Nat} {b : Bool} (hr : G.ok r) (hv : v ∈ G.order) (hl : G.idx v ≤ G.lev r) : ∀ u ∈ G.order, G.idx u ≤ G.idx v → hangs (given (G.tab r) v b) u = false := by
  intro u hu hi
  by_cases e : u = v
  · subst e; exact hangs_given_self _ _ _ (k.lt6 _ hu)
  · have hne : G.idx u ≠ G.idx v := fun e' => e (idxOf_inj hu e')
    have h1 : hangs (G.tab r) u = false := k.ahead hr (k.lt6 _ hu) (.inl (by omega))
    cases h2 : hangs (given (G.tab r) v b) u
    · rfl
    · rw [hangs_given _ _ _ _ (k.lt6 _ hv) (k.lt6 _ hu) h2] at h1; cases h1

theorem hangs_ite_all {F1 F2 F3 : Tab} {u : Nat} (hu : u < 6) (h1 : hangs F1 u = false) (h2 : hangs F2 u = false) (h3 : hangs F3 u = false) : hangs (iteT F1 F2 F3) u = false := by
  rw [hangs_false_iff] at *
  rw [given_iteT _ _ _ _ _ hu, given_iteT _ _ _ _ _ hu, h1, h2, h3]

/-- The two parts, joined, are what was asked for. -/
theorem IteSt.joined {d : Nat} {O O1 O2 : Nat → Prop} {w w1 w2 : World} {gb : Nat} {S S1 S2 S3 : GrS} {f g h l v b4 b5 lb b6 b7 : Nat} {ov : Value} (st : IteSt d O w gb S f g h l v b4 b5 lb b6 b7 ov) {r1 r2 r : Nat}
    (hw1 : S.Went S1 r1 (iteT (given (S.g.tab f) v true) (given (S.g.tab g) v true) (given (S.g.tab h) v true)) (2 ^ d - 1))
    (hw2 : S1.Went S2 r2 (iteT (given (S1.g.tab f) v false) (given (S1.g.tab g) v false) (given (S1.g.tab h) v false)) (2 ^ d - 1))
    (hj : JoinPost S2 v r1 r2 r S3) : S.Went S3 r (iteT (S.g.tab f) (S.g.tab g) (S.g.tab h)) (2 ^ (d + 1) - 1) := by
  have hx := hw1.made.ext
  rw [hx.tab st.of, hx.tab st.og, hx.tab st.oh] at hw2
  have hl := st.hl
  have q := fun b => fun u hu hi => hangs_ite_all (st.k.lt6 u hu) (hangs_given_le st.k (b := b) st.of st.hv (by rw [hl]; exact st.lf) u hu hi) (hangs_given_le st.k (b := b) st.og st.hv (by rw [hl]; exact st.lg) u hu hi) (hangs_given_le st.k (b := b) st.oh st.hv (by rw [hl]; exact st.lh) u hu hi)
  have := hw1.join hw2 hj st.hv (q true) (q false)
  rw [← given_iteT _ _ _ _ _ (st.k.lt6 _ st.hv), ← given_iteT _ _ _ _ _ (st.k.lt6 _ st.hv), halves _ _ (st.k.lt6 _ st.hv)] at this
  refine this.mono_d ?_
  have hp : 0 < 2 ^ d := Nat.two_pow_pos d
  rw [Nat.pow_succ]
  omega

theorem ite_len0 {a d : Nat} (h : a + 2 ^ (d + 1) ≤ 100000) : a + 2 ^ d ≤ 100000 := by
  rw [Nat.pow_succ] at h; omega

theorem ite_len1 {S S1 : GrS} {d r : Nat} {F : Tab} (h : S.nl.length + 2 ^ (d + 1) ≤ 100000) (hw : S.Went S1 r F (2 ^ d - 1)) : S1.nl.length + 2 ^ d ≤ 100000 := by
  have := hw.len
  have hp : 0 < 2 ^ d := Nat.two_pow_pos d
  rw [Nat.pow_succ] at h; omega

theorem ite_len2 {S S1 S2 : GrS} {d r r2 : Nat} {F F2 : Tab} (h : S.nl.length + 2 ^ (d + 1) ≤ 100000) (hw : S.Went S1 r F (2 ^ d - 1)) (hw2 : S1.Went S2 r2 F2 (2 ^ d - 1)) : S2.nl.length + 1 ≤ 100000 := by
  have := hw.len
  have := hw2.len
  have hp : 0 < 2 ^ d := Nat.two_pow_pos d
  rw [Nat.pow_succ] at h; omega

/-- Behind the join: the graph, and what was asked for. -/
theorem IteSt.fin {d : Nat} {O O1 O2 O3 : Nat → Prop} {w w1 w2 w3 : World} {gb : Nat} {S S1 S2 S3 : GrS} {f g h l v b4 b5 lb b6 b7 : Nat} {ov : Value} (st : IteSt d O w gb S f g h l v b4 b5 lb b6 b7 ov) {r1 r2 r : Nat}
    (ho1 : Only O w w1) (hg1 : Grows w O O1) (ho2 : Only O1 w1 w2) (hg2 : Grows w1 O1 O2) (ho3 : Only O2 w2 w3) (hg3 : Grows w2 O2 O3) (hG3 : GrIs O3 w3 gb S3)
    (hw1 : S.Went S1 r1 (iteT (given (S.g.tab f) v true) (given (S.g.tab g) v true) (given (S.g.tab h) v true)) (2 ^ d - 1))
    (hw2 : S1.Went S2 r2 (iteT (given (S1.g.tab f) v false) (given (S1.g.tab g) v false) (given (S1.g.tab h) v false)) (2 ^ d - 1))
    (hj : JoinPost S2 v r1 r2 r S3) : S.Went S3 r (iteT (S.g.tab f) (S.g.tab g) (S.g.tab h)) (2 ^ (d + 1) - 1) ∧ Only O w w3 ∧ Grows w O O3 ∧ IteSt d O3 w3 gb S3 f g h l v b4 b5 lb b6 b7 ov := by
  have hwf := st.joined (O1 := O1) (O2 := O2) (w1 := w1) (w2 := w2) hw1 hw2 hj
  have o2 := ho1.trans ho2 hg1
  have g2 := hg1.trans hg2 ho1.size
  have o3 := o2.trans ho3 g2
  have g3 := g2.trans hg3 o2.size
  exact ⟨hwf, o3, g3, st.next o3 g3 hG3 hwf⟩

end Go.Proofs.YtebfmcafmojlaaaGreatDoor

/-
  graph: restrict, Restrict.
-/
namespace Go.Proofs.YtebfmcafmojlaaaGreatDoor
open Go.RowKit Go.Maps
set_option linter.unusedSimpArgs false
set_option linter.unusedVariables false

/-- restrict, where at most d levels are left ahead of the variable's. -/
def ResIs (d : Nat) : Prop := ∀ (O : Nat → Prop) (w : World) (gb : Nat) (S : GrS) (f l v : Nat) (b : Bool), GrIs O w gb S → S.g.Ok → S.g.ok f → v ∈ S.g.order → S.g.idx v = l → l ≤ S.g.lev f + d → S.nl.length + 2 ^ d ≤ 100000 →
  Calls Tryz.prog 165 #[.pointer (some ⟨gb, 0, none⟩), .int .i64 f, .int .i64 l, .bool b] w (WentPost O w gb S (given (S.g.tab f) v b) (2 ^ d - 1))

theorem WentPost.val {O : Nat → Prop} {w : World} {gb : Nat} {S : GrS} {F : Tab} {d : Nat} {e : Ending} {w' : World} (h : WentPost O w gb S F d e w') : ∃ r : Nat, e = .returned (.int .i64 (r : Int)) := by
  obtain ⟨r, S', e1, _⟩ := h
  exact ⟨r, e1⟩

set_option maxHeartbeats 400000 in
set_option maxRecDepth 10000 in
theorem graphRestrict_here {O : Nat → Prop} {w : World} {gb : Nat} {S : GrS} {f l v : Nat} {b : Bool} {d : Nat} (hG : GrIs O w gb S) (k : S.g.Ok) (hf : S.g.ok f) (hv : v ∈ S.g.order) (hl : S.g.idx v = l) (hle : l ≤ S.g.lev f) :
    Calls Tryz.prog 165 #[.pointer (some ⟨gb, 0, none⟩), .int .i64 f, .int .i64 l, .bool b] w (WentPost O w gb S (given (S.g.tab f) v b) d) := by
  have hlt : l < S.g.order.length := by rw [← hl]; exact List.idxOf_lt_length_of_mem hv
  have hlv := graphLevel_is hG k f hf
  have hbr : ∀ wq, Below w.heap.size w wq → Calls Tryz.prog 100 #[.pointer (some ⟨gb, 0, none⟩), .int .i64 f, .int .i64 l, .bool b] wq fun e w' => e = .returned (.int .i64 (S.g.br f l b : Nat)) ∧ Below wq.heap.size wq w' := fun wq hb => graphBranch_is (hG.below hb) k f l b hf hlt
  have hp : ∀ w', Below w.heap.size w w' → WentPost O w gb S (given (S.g.tab f) v b) d (.returned (.int .i64 ((S.g.br f l b : Nat) : Int))) w' := fun w' hb => ite_short hG k (k.br_ok hf) (k.br_tab hf hv hl hle) hb
  have HP : Hid _ := hp
  have hge : (l : Int) ≤ ((S.g.lev f : Nat) : Int) := by omega
  generalize S.g.lev f = top at hlv hge
  generalize S.g.br f l b = x at hbr HP
  clear hp hG k hf hv hl hle hlt
  go_enter Tryz.func165, Tryz.ntmps165
  go_wp2_with (first
    | (go_at_call 98; refine hlv.mono ?_; rintro e w1 ⟨rfl, hb1⟩)
    | (go_at_call 100; refine (hbr _ hb1).mono ?_; rintro e w2 ⟨rfl, hb2⟩))
  go_ret
  exact HP.out _ (hb1.trans (hb2.mono hb1.size))

end Go.Proofs.YtebfmcafmojlaaaGreatDoor

/-
  graph: restrict whole, Restrict.
-/
namespace Go.Proofs.YtebfmcafmojlaaaGreatDoor
open Go.RowKit Go.Maps
set_option linter.unusedSimpArgs false
set_option linter.unusedVariables false

theorem GrIs.orderAt {O : Nat → Prop} {w : World} {gb : Nat} {S : GrS} (hG : GrIs O w gb S) {u l : Nat} (hu : u ∈ S.g.order) (hl : S.g.idx u = l) :
    ∃ ob cap, (l : Int) < ((S.order.length : Nat) : Int) ∧ w.cell? ⟨gb, 0, none⟩ = some (.slice (some ⟨ob, 0, none⟩) S.order.length cap) ∧ w.cell? ⟨ob, l, none⟩ = some (.int .i64 (u : Int)) := by
  obtain ⟨ov, nv, fv, mb, rb, M, R, hA⟩ := hG
  have hm : S.order.idxOf u < S.order.length := List.idxOf_lt_length_of_mem hu
  have h2 : S.order.idxOf u = l := hl
  have hr := hA.order.1
  rw [List.length_map] at hr
  rcases hr.2 with ⟨rfl, h0⟩ | ⟨ob, cap, cur, e, _, hg, _⟩
  · omega
  · refine ⟨ob, cap, by omega, by rw [← e]; exact hA.c.1, ?_⟩
    have hget : S.order[l]? = some u := by
      rw [← h2]
      exact List.getElem?_eq_some_iff.2 ⟨hm, List.getElem_idxOf hm⟩
    have := hr.cells (g := ob) (by rw [e]; rfl) l (natv u) (by rw [List.getElem?_map, hget]; rfl)
    have hadd : (⟨ob, 0, none⟩ : Addr).add l = ⟨ob, 0 + l, none⟩ := by unfold Addr.add; split <;> simp_all
    rw [hadd, Nat.zero_add] at this
    exact this

theorem res_joined {d u v f : Nat} {b : Bool} {S S1 S2 S3 : GrS} {r1 r2 r : Nat} (k : S.g.Ok) (hf : S.g.ok f) (hv : v ∈ S.g.order) (hu : u ∈ S.g.order) (hul : S.g.idx u = S.g.lev f) (hlt : S.g.idx u < S.g.idx v)
    (hw1 : S.Went S1 r1 (given (given (S.g.tab f) u true) v b) (2 ^ d - 1)) (hw2 : S1.Went S2 r2 (given (given (S.g.tab f) u false) v b) (2 ^ d - 1)) (hj : JoinPost S2 u r1 r2 r S3) : S.Went S3 r (given (S.g.tab f) v b) (2 ^ (d + 1) - 1) := by
  have hu6 := k.lt6 u hu
  have hv6 := k.lt6 v hv
  have hne : u ≠ v := by intro e; subst e; omega
  have q : ∀ c, ∀ x ∈ S.g.order, S.g.idx x ≤ S.g.idx u → hangs (given (given (S.g.tab f) u c) v b) x = false := by
    intro c x hx hi
    have hx6 := k.lt6 x hx
    cases h2 : hangs (given (given (S.g.tab f) u c) v b) x
    · rfl
    · have h3 := hangs_given _ _ _ _ hv6 hx6 h2
      rw [hangs_given_le k hf hu (by omega) x hx hi] at h3
      cases h3
  have := hw1.join hw2 hj hu (q true) (q false)
  rw [given_comm _ _ _ _ _ hu6 hv6 (fun e => hne e.symm), given_comm _ _ _ _ _ hu6 hv6 (fun e => hne e.symm), halves _ _ hu6] at this
  refine this.mono_d ?_
  have hp : 0 < 2 ^ d := Nat.two_pow_pos d
  rw [Nat.pow_succ]
  omega

theorem Gr.Ext.br {G G' : Gr} (h : G.Ext G') (k : G.Ok) (k' : G'.Ok) {r l : Nat} {b : Bool} (hr : G.ok r) : G'.br r l b = G.br r l b := by
  rcases hr with e | ⟨n, e⟩
  · unfold Gr.br; rw [e, k.zero, k'.zero]
  · have e' := h.node e
    unfold Gr.br
    simp only [e, e', h.idx]

set_option maxHeartbeats 400000 in
set_option maxRecDepth 10000 in
theorem graphRestrict_down (d : Nat) (IH : ResIs d) {O : Nat → Prop} {w : World} {gb : Nat} {S : GrS} {f l v : Nat} {b : Bool} (hG : GrIs O w gb S) (k : S.g.Ok) (hf : S.g.ok f) (hv : v ∈ S.g.order) (hl : S.g.idx v = l) (hlt : S.g.lev f < l) (hd : l ≤ S.g.lev f + (d + 1)) (hnl : S.nl.length + 2 ^ (d + 1) ≤ 100000) :
    Calls Tryz.prog 165 #[.pointer (some ⟨gb, 0, none⟩), .int .i64 f, .int .i64 l, .bool b] w (WentPost O w gb S (given (S.g.tab f) v b) (2 ^ (d + 1) - 1)) := by
  have hln : l < S.g.order.length := by rw [← hl]; exact List.idxOf_lt_length_of_mem hv
  have hlv := graphLevel_is hG k f hf
  obtain ⟨top, htop⟩ : ∃ top, top = S.g.lev f := ⟨_, rfl⟩
  have htl : top < S.g.order.length := by omega
  obtain ⟨u, hu⟩ : ∃ u, u = S.g.order[top] := ⟨_, rfl⟩
  have hum : u ∈ S.g.order := by rw [hu]; exact List.getElem_mem htl
  have hui : S.g.idx u = top := by rw [hu]; exact List.Nodup.idxOf_getElem k.nodup top htl
  have hbt : ∀ wq, Below w.heap.size w wq → Calls Tryz.prog 100 #[.pointer (some ⟨gb, 0, none⟩), .int .i64 f, .int .i64 top, .bool true] wq fun e w' => e = .returned (.int .i64 (S.g.br f top true : Nat)) ∧ Below wq.heap.size wq w' := fun wq hb => graphBranch_is (hG.below hb) k f top true hf htl
  have hr1 : ∀ wq, Below w.heap.size w wq → Calls Tryz.prog 165 #[.pointer (some ⟨gb, 0, none⟩), .int .i64 (S.g.br f top true : Nat), .int .i64 l, .bool b] wq (WentPost O w gb S (given (given (S.g.tab f) u true) v b) (2 ^ d - 1)) := by
    intro wq hb
    have q := k.br_lev (b := true) hf (by omega : top ≤ S.g.lev f) htl
    have := IH O wq gb S (S.g.br f top true) l v b (hG.below hb) k (k.br_ok hf) hv hl (by omega) (ite_len0 hnl)
    rw [k.br_tab hf hum hui (by omega)] at this
    exact this.mono (fun e w' hp => hp.pre hb)
  have hnext : ∀ O1 w1 S1 r1, GrIs O1 w1 gb S1 → S.Went S1 r1 (given (given (S.g.tab f) u true) v b) (2 ^ d - 1) →
      (Calls Tryz.prog 100 #[.pointer (some ⟨gb, 0, none⟩), .int .i64 f, .int .i64 top, .bool false] w1 fun e w' => e = .returned (.int .i64 (S.g.br f top false : Nat)) ∧ Below w1.heap.size w1 w') ∧
      (∀ wq, Below w1.heap.size w1 wq → Calls Tryz.prog 165 #[.pointer (some ⟨gb, 0, none⟩), .int .i64 (S.g.br f top false : Nat), .int .i64 l, .bool b] wq (WentPost O1 w1 gb S1 (given (given (S.g.tab f) u false) v b) (2 ^ d - 1))) := by
    intro O1 w1 S1 r1 hG1 hw1
    have hx := hw1.made.ext
    have k1 := hw1.ok
    have hf1 := hx.ok hf
    refine ⟨?_, ?_⟩
    · have := graphBranch_is hG1 k1 f top false hf1 (by rw [hx.order]; exact htl)
      rw [hx.br k k1 hf] at this
      exact this
    · intro wq hb
      have q := k1.br_lev (b := false) hf1 (l := top) (by rw [hx.lev k k1 hf]; omega) (by rw [hx.order]; exact htl)
      have := IH O1 wq gb S1 (S1.g.br f top false) l v b (hG1.below hb) k1 (k1.br_ok hf1) (by rw [hx.order]; exact hv) (by rw [hx.idx]; exact hl) (by omega) (ite_len1 hnl hw1)
      rw [k1.br_tab hf1 (by rw [hx.order]; exact hum) (by rw [hx.idx]; exact hui) (by rw [hx.lev k k1 hf]; omega), hx.tab hf, hx.br k k1 hf] at this
      exact this.mono (fun e w' hp => hp.pre hb)
  have hlast : ∀ O1 w1 S1 r1 O2 w2 S2 r2, Only O w w1 → Grows w O O1 → S.Went S1 r1 (given (given (S.g.tab f) u true) v b) (2 ^ d - 1) → Only O1 w1 w2 → Grows w1 O1 O2 → GrIs O2 w2 gb S2 → S1.Went S2 r2 (given (given (S.g.tab f) u false) v b) (2 ^ d - 1) →
      (∃ ob N cap, (top : Int) < ((N : Nat) : Int) ∧ w2.cell? ⟨gb, 0, none⟩ = some (.slice (some ⟨ob, 0, none⟩) N cap) ∧ w2.cell? ⟨ob, top, none⟩ = some (.int .i64 (u : Int))) ∧
      Calls Tryz.prog 97 #[.pointer (some ⟨gb, 0, none⟩), .int .i64 u, .int .i64 r1, .int .i64 r2] w2 (WentPost O w gb S (given (S.g.tab f) v b) (2 ^ (d + 1) - 1)) := by
    intro O1 w1 S1 r1 O2 w2 S2 r2 ho1 hg1 hw1 ho2 hg2 hG2 hw2
    have hx := hw1.made.ext.trans hw2.made.ext
    obtain ⟨ob, cap, a1, a2, a3⟩ := hG2.orderAt (u := u) (l := top) (by rw [hx.order]; exact hum) (by rw [hx.idx]; exact hui)
    refine ⟨⟨ob, _, cap, a1, a2, a3⟩, ?_⟩
    have hu6 := k.lt6 u hum
    refine (graphJoin_is hG2 u r1 r2 (by omega) (hG2.bound (hw2.made.ext.ok hw1.made.ok)) (hG2.bound hw2.made.ok) (ite_len2 hnl hw1 hw2)).mono ?_
    rintro e w3 ⟨r, S3, rfl, hs3, hj⟩
    exact ⟨r, S3, rfl, GrStep.trans (ho1.trans ho2 hg1) (hg1.trans hg2 ho1.size) hs3, res_joined k hf hv hum (by omega) (by omega) hw1 hw2 hj⟩
  have hge : ¬ (l : Int) ≤ (top : Int) := by omega
  have hgeb : decide ((l : Int) ≤ (top : Int)) = false := by simp only [hge, decide_false]
  rw [← htop] at hlv
  generalize S.g.br f top true = xt at hbt hr1
  generalize S.g.br f top false = xe at hnext
  have HN : Hid _ := hnext
  have HL : Hid _ := hlast
  clear hnext hlast IH hG k hf hv hl hlt hd hnl hln htl hu hum hui htop
  go_enter Tryz.func165, Tryz.ntmps165
  go_wp2_with (first
    | (go_at_call 98; refine hlv.mono ?_; clear hlv; rintro e w1 ⟨rfl, hb1⟩)
    | (go_at_call 100; refine (hbt _ hb1).mono ?_; clear hbt; rintro e w2 ⟨rfl, hb2⟩; replace hb1 := hb1.trans (hb2.mono hb1.size); clear hb2)
    | (go_at_call 165; refine (hr1 _ hb1).mono ?_; clear hr1; rintro e w3 ⟨r1, S1, rfl, ⟨ho1, O1, hG1, hgr1⟩, hw1⟩; obtain ⟨hbe, hr2⟩ := HN.out O1 w3 S1 r1 hG1 hw1; clear HN)
    | (go_at_call 100; refine hbe.mono ?_; clear hbe; rintro e w4 ⟨rfl, hb4⟩)
    | (go_at_call 165; refine (hr2 _ hb4).mono ?_; clear hr2; rintro e w5 ⟨r2, S2, rfl, ⟨ho2, O2, hG2, hgr2⟩, hw2⟩; obtain ⟨⟨ob, N, cap, q1, q2, q3⟩, hjn⟩ := HL.out O1 w3 S1 r1 O2 w5 S2 r2 ho1 hgr1 hw1 ho2 hgr2 hG2 hw2; clear HL)
    | (go_at_call 97; refine hjn.mono ?_; clear hjn; rintro e w6 hp; obtain ⟨r, hr⟩ := hp.val; subst hr))
  go_ret
  exact hp

theorem graphRestrict_all : ∀ d, ResIs d := by
  intro d
  induction d with
  | zero =>
    intro O w gb S f l v b hG k hf hv hl hd hnl
    exact graphRestrict_here hG k hf hv hl (by omega)
  | succ d IH =>
    intro O w gb S f l v b hG k hf hv hl hd hnl
    by_cases hle : l ≤ S.g.lev f
    · exact graphRestrict_here hG k hf hv hl hle
    · exact graphRestrict_down d IH hG k hf hv hl (by omega) hd hnl

set_option maxHeartbeats 400000 in
theorem graphRestrict_is {O : Nat → Prop} {w : World} {gb : Nat} {S : GrS} (hG : GrIs O w gb S) (k : S.g.Ok) (f v : Nat) (b : Bool) (hf : S.g.ok f) (hv : v ∈ S.g.order) (hnl : S.nl.length + 64 ≤ 100000) :
    Calls Tryz.prog 142 #[.pointer (some ⟨gb, 0, none⟩), .int .i64 f, .int .i64 v, .bool b] w (WentPost O w gb S (given (S.g.tab f) v b) 63) := by
  have hol := hG.ol
  have hres := graphRestrict_all 6 O w gb S f (S.g.idx v) v b hG k hf hv rfl (by have : S.g.idx v < S.g.order.length := List.idxOf_lt_length_of_mem hv; omega) (by omega)
  obtain ⟨ov, nv, fv, mb, rb, M, R, hA⟩ := hG
  obtain ⟨c0, c1, c2, c3, c4⟩ := hA.c
  obtain ⟨ao, cap, eo, hro⟩ := order_reads hA
  subst eo
  have hix := slicesIndex_is (.slice ao S.order.length cap) S.order v w hro (by have := hA.ol; omega)
  have e1 : idxI S.order v = ((S.g.idx v : Nat) : Int) := idxI_mem hv
  rw [e1] at hix
  generalize S.g.idx v = l at hix hres
  clear hA e1 hro k hf hv hnl hol
  go_enter Tryz.func142, Tryz.ntmps142
  go_wp2_with (first
    | (go_at_call 81; refine hix.mono ?_; rintro e w1 ⟨rfl, hq⟩; replace hq := hq.symm; subst hq)
    | (go_at_call 165; refine hres.mono ?_; clear hres; rintro e w6 hp; obtain ⟨r, hr⟩ := hp.val; subst hr))
  go_ret
  exact hp

end Go.Proofs.YtebfmcafmojlaaaGreatDoor

/-
  graph: Eval.
-/
namespace Go.Proofs.YtebfmcafmojlaaaGreatDoor
open Go.RowKit Go.Maps
set_option linter.unusedSimpArgs false
set_option linter.unusedVariables false

theorem bit_of_testBit (a v : Nat) : a / 2 ^ v % 2 = if a.testBit v then 1 else 0 := by
  rw [Nat.testBit_eq_decide_div_mod_eq]
  by_cases h : a / 2 ^ v % 2 = 1
  · simp [h]
  · have : a / 2 ^ v % 2 = 0 := by omega
    simp [this]

theorem eval_bits (a v : Nat) (ha : a < 64) : bits .and .i64 ((a : Int) / 2 ^ v) 1 = if a.testBit v then 1 else 0 := by
  have h1 : ((a : Int) / 2 ^ v) = ((a / 2 ^ v : Nat) : Int) := by simp
  rw [h1, ref_low _ (by have : a / 2 ^ v ≤ a := Nat.div_le_self _ _; unfold refMax; omega), bit_of_testBit]
  split <;> rfl

/-- A branch tells the same, where the variable has the assignment's value. -/
theorem Gr.Ok.br_eval {G : Gr} (k : G.Ok) {r : Nat} {n : Nd} (hr : G.ok r) (hn : G.node (r / 2) = some n) {a : Nat} (ha : a < 64) : (G.tab (G.br r (G.lev r) (a.testBit n.v))).getLsbD a = (G.tab r).getLsbD a := by
  rw [k.br_tab hr (k.var hn) (Gr.lev_node hn).symm (Nat.le_refl _), given_bit _ _ _ _ (k.v6 hn) ha, setb_same]

set_option maxHeartbeats 1000000 in
set_option maxRecDepth 10000 in
theorem graphEval_is {O : Nat → Prop} {w : World} {gb : Nat} {S : GrS} (hG : GrIs O w gb S) (k : S.g.Ok) (f a : Nat) (hf : S.g.ok f) (ha : a < 64) :
    Calls Tryz.prog 147 #[.pointer (some ⟨gb, 0, none⟩), .int .i64 f, .int .i64 a] w fun e w' => e = .returned (.bool ((S.g.tab f).getLsbD a)) ∧ Below w.heap.size w w' := by
  have HG : Hid (GrIs O w gb S) := hG
  have HK : Hid S.g.Ok := k
  have HF : Hid (S.g.ok f) := hf
  clear hG k hf
  go_enter Tryz.func147, Tryz.ntmps147
  go_wp2
  go_loopw [1] (fun x wr => ∃ r : Nat, x = .int .i64 r ∧ S.g.ok r ∧ (S.g.tab r).getLsbD a = (S.g.tab f).getLsbD a ∧ Below w.heap.size w wr) (fun x _ => S.g.order.length - S.g.lev (intOf x).toNat)
  case atStart => exact ⟨f, rfl, HF.out, rfl, Below.refl _ _⟩
  case round =>
    obtain ⟨r, rfl, hr, htab, hb⟩ := hrel
    have hcon := refConstant_is r
    have HT : Hid ((S.g.tab r).getLsbD a = (S.g.tab f).getLsbD a) := htab
    clear htab
    have HR : Hid (S.g.ok r) := hr
    clear hr
    by_cases hz : r / 2 = 0
    · have hd : decide (r / 2 = 0) = true := by simp [hz]
      rw [hd] at hcon
      have hr0 : ((r : Int) == 0) = (S.g.tab f).getLsbD a := by
        rw [← HT.out]
        have hk := HK.out
        rcases Nat.mod_two_eq_zero_or_one r with e | e
        · have : r = 0 := by omega
          subst this
          rw [tab_true hk, onesT_bit a ha]; rfl
        · have : r = 1 := by omega
          subst this
          rw [tab_false hk]; simp
      have HZ : Hid _ := hr0
      clear hz hd hr0
      go_wp2_with (go_at_call 140; refine (hcon _).mono ?_; rintro e w1 ⟨rfl, hq⟩; replace hq := hq.symm; subst hq)
      go_ret
      exact ⟨retB HZ.out, hb⟩
    · have hd : decide (r / 2 = 0) = false := by simp [hz]
      rw [hd] at hcon
      obtain ⟨n, hn⟩ := Gr.ok_node HR.out hz
      have hGr := HG.out.below hb
      have hlv : ∀ wq, Below w.heap.size w wq → Calls Tryz.prog 98 #[.pointer (some ⟨gb, 0, none⟩), .int .i64 r] wq fun e w' => e = .returned (.int .i64 (S.g.lev r : Nat)) ∧ Below wq.heap.size wq w' := fun wq hbq => graphLevel_is (HG.out.below hbq) HK.out r HR.out
      have hlev : S.g.lev r < S.g.order.length := by rw [Gr.lev_node hn]; exact HK.out.idx_lt hn
      have hbr : ∀ wq, Below w.heap.size w wq → Calls Tryz.prog 100 #[.pointer (some ⟨gb, 0, none⟩), .int .i64 r, .int .i64 (S.g.lev r : Nat), .bool (a.testBit n.v)] wq fun e w' => e = .returned (.int .i64 (S.g.br r (S.g.lev r) (a.testBit n.v) : Nat)) ∧ Below wq.heap.size wq w' := fun wq hbq => graphBranch_is (HG.out.below hbq) HK.out r (S.g.lev r) _ HR.out hlev
      have hmeas := HK.out.br_lev (b := a.testBit n.v) HR.out (Nat.le_refl _) hlev
      have heval := HK.out.br_eval HR.out hn ha
      have hok := HK.out.br_ok (l := S.g.lev r) (b := a.testBit n.v) HR.out
      have HM : Hid _ := hmeas
      have HE : Hid _ := heval
      have HO : Hid _ := hok
      have HLV : Hid (S.g.lev r < S.g.order.length) := hlev
      obtain ⟨ov, nv, fv, mb, rb, M, R, hA⟩ := hGr
      obtain ⟨c0, c1, c2, c3, c4⟩ := hA.c
      obtain ⟨nb, ncap, en, hnb, hob, hnode⟩ := hA.nodeAt
      subst en
      obtain ⟨hi, d0, d1, d2⟩ := hnode _ _ hn
      have hnum := refNumber_is r
      obtain ⟨q, hq⟩ : ∃ q, q = r / 2 := ⟨_, rfl⟩
      rw [← hq] at hi d0 hnum
      have hvb := eval_bits a n.v ha
      have hv6 := HK.out.v6 hn
      have he1 : ((if a.testBit n.v = true then (1 : Int) else 0) == 1) = a.testBit n.v := by cases a.testBit n.v <;> rfl
      generalize S.g.br r (S.g.lev r) (a.testBit n.v) = r' at hbr HM HE HO
      generalize hbt : a.testBit n.v = tb at *
      clear hbt hmeas heval hok hlev hA hnode d1 d2 hn c0 c2 c3 c4 hz hd hq hob
      have hbel := hb
      go_wp2_with (go_at_call 140; refine (hcon _).mono ?_; rintro e w1 ⟨rfl, hq⟩; replace hq := hq.symm; subst hq)
      go_region_held (fun w' => w'.cell? ⟨gb, 1, none⟩ = some (.slice (some ⟨nb, 0, none⟩) S.nl.length ncap) ∧ w'.cell? ⟨nb, q * 3, none⟩ = some (.int .i64 (n.v : Nat))) (go_keep) (first | (go_at_call 149; refine (hnum _).mono ?_; rintro e' w1 ⟨rfl, hq⟩; replace hq := hq.symm; subst hq))
      replace hbel := hbel.drew
      clear hcon hnum hvb
      cases tb
      all_goals
        simp only [Bool.false_eq_true, if_false, if_true] at he1 ⊢
        go_wp2_with (first
          | (go_at_call 98; refine (hlv _ hbel).mono ?_; rintro e w1 ⟨rfl, hb1⟩; replace hbel := hbel.trans (hb1.mono hbel.size); clear hb1)
          | (go_at_call 100; refine (hbr _ hbel).mono ?_; rintro e w2 ⟨rfl, hb1⟩; replace hbel := hbel.trans (hb1.mono hbel.size); clear hb1))
        go_roundw
        case rel => exact ⟨r', rfl, HO.out, HE.out.trans HT.out, hbel⟩
        case measure =>
          have := HM.out
          have := HLV.out
          simp [intOf]
          omega

end Go.Proofs.YtebfmcafmojlaaaGreatDoor

/-
  graph: mark.
-/
namespace Go.Proofs.YtebfmcafmojlaaaGreatDoor
open Go.RowKit Go.Maps
set_option linter.unusedSimpArgs false
set_option linter.unusedVariables false

def isM (A : List Bool) (i : Nat) : Prop := A.getD i false = true

/-- Of the numbers A those that f reaches have been marked too. -/
structure Marked (G : Gr) (A A' : List Bool) (f : Nat) : Prop where
  len : A'.length = A.length
  mono : ∀ i, isM A i → isM A' i
  self : f / 2 = 0 ∨ isM A' (f / 2)
  kids : ∀ i, isM A' i → isM A i ∨ ∃ n, G.node i = some n ∧ (n.t / 2 = 0 ∨ isM A' (n.t / 2)) ∧ (n.e / 2 = 0 ∨ isM A' (n.e / 2))
  least : ∀ T : Nat → Prop, G.Closed T → (f / 2 = 0 ∨ T (f / 2)) → ∀ i, isM A' i → isM A i ∨ T i

theorem Marked.refl {G : Gr} {A : List Bool} {f : Nat} (h : f / 2 = 0 ∨ isM A (f / 2)) : Marked G A A f :=
  ⟨rfl, fun _ h => h, h, fun _ h => .inl h, fun _ _ _ _ h => .inl h⟩

theorem isM_set {A : List Bool} {q i : Nat} (hq : q < A.length) : isM (A.set q true) i ↔ i = q ∨ isM A i := by
  unfold isM
  rw [List.getD_eq_getElem?_getD, List.getD_eq_getElem?_getD, List.getElem?_set]
  by_cases e : q = i
  · subst e; simp [hq]
  · have : ¬ i = q := fun e' => e e'.symm
    simp [e, this]

theorem Marked.step {G : Gr} (k : G.Ok) {A A1 A2 : List Bool} {f : Nat} {n : Nd} (hn : G.node (f / 2) = some n) (hq : f / 2 < A.length) (h1 : Marked G (A.set (f / 2) true) A1 n.t) (h2 : Marked G A1 A2 n.e) : Marked G A A2 f := by
  have m0 : ∀ i, isM A i → isM (A.set (f / 2) true) i := fun i h => (isM_set hq).2 (.inr h)
  have ms : isM A2 (f / 2) := h2.mono _ (h1.mono _ ((isM_set hq).2 (.inl rfl)))
  refine ⟨by rw [h2.len, h1.len, List.length_set], fun i h => h2.mono i (h1.mono i (m0 i h)), .inr ms, ?_, ?_⟩
  · intro i hi
    rcases h2.kids i hi with h | ⟨m, hm, a, b⟩
    · rcases h1.kids i h with h | ⟨m, hm, a, b⟩
      · rcases (isM_set hq).1 h with e | h
        · subst e
          exact .inr ⟨n, hn, h1.self.imp id (h2.mono _), h2.self⟩
        · exact .inl h
      · exact .inr ⟨m, hm, a.imp id (h2.mono _), b.imp id (h2.mono _)⟩
    · exact .inr ⟨m, hm, a, b⟩
  · intro T hT hf i hi
    have hTf : T (f / 2) := hf.resolve_left (fun e => by rw [e, k.zero] at hn; cases hn)
    obtain ⟨ct, ce⟩ := hT _ hTf n hn
    rcases h2.least T hT ce i hi with h | h
    · rcases h1.least T hT ct i h with h | h
      · rcases (isM_set hq).1 h with e | h
        · subst e; exact .inr hTf
        · exact .inl h
      · exact .inr h
    · exact .inr h

/-- A row of marks, in a block of its own. -/
structure MarkAt (O : Nat → Prop) (w : World) (gb : Nat) (S : GrS) (rb cap : Nat) (A : List Bool) : Prop where
  G : GrIs O w gb S
  row : w.ownsRow 0 4 1 (.slice (some ⟨rb, 0, none⟩) A.length cap) A.length (A.map Value.bool)
  no : ¬ O rb
  len : A.length = S.nl.length

def MarkPost (O : Nat → Prop) (w : World) (gb : Nat) (S : GrS) (rb cap : Nat) (A : List Bool) (f : Nat) (e : Ending) (w' : World) : Prop := e = .returned (.tuple #[]) ∧ ∃ A', MarkAt O w' gb S rb cap A' ∧ Marked S.g A A' f ∧ Only (· = rb) w w'

def MarkIs (d : Nat) : Prop := ∀ (O : Nat → Prop) (w : World) (gb : Nat) (S : GrS) (f rb cap : Nat) (A : List Bool), MarkAt O w gb S rb cap A → S.g.Ok → S.g.ok f → S.g.order.length ≤ S.g.lev f + d →
  Calls Tryz.prog 159 #[.pointer (some ⟨gb, 0, none⟩), .int .i64 f, .slice (some ⟨rb, 0, none⟩) A.length cap] w (MarkPost O w gb S rb cap A f)

theorem MarkAt.below {O : Nat → Prop} {w w' : World} {gb : Nat} {S : GrS} {rb cap : Nat} {A : List Bool} (h : MarkAt O w gb S rb cap A) (hb : Below w.heap.size w w') : MarkAt O w' gb S rb cap A :=
  ⟨h.G.below hb, owns_below h.row hb (Nat.le_refl _), h.no, h.len⟩

theorem MarkAt.cell {O : Nat → Prop} {w : World} {gb : Nat} {S : GrS} {rb cap : Nat} {A : List Bool} (h : MarkAt O w gb S rb cap A) {i : Nat} (hi : i < A.length) : w.cell? ⟨rb, i, none⟩ = some (.bool (A.getD i false)) := by
  have := h.row.cells (g := rb) rfl i (.bool (A.getD i false)) (by rw [List.getElem?_map, List.getD_eq_getElem?_getD, List.getElem?_eq_getElem hi]; rfl)
  have hadd : (⟨rb, 0, none⟩ : Addr).add i = ⟨rb, 0 + i, none⟩ := by unfold Addr.add; split <;> simp_all
  rw [hadd, Nat.zero_add] at this
  exact this

theorem MarkAt.frozen {O : Nat → Prop} {w : World} {gb : Nat} {S : GrS} {rb cap : Nat} {A : List Bool} (h : MarkAt O w gb S rb cap A) (i : Nat) : w.frozen? ⟨rb, i, none⟩ = false := by
  obtain ⟨cur, hc⟩ := row_block h.row (b := rb) rfl
  exact frozen_of_heap hc

theorem MarkAt.set {O : Nat → Prop} {w : World} {gb : Nat} {S : GrS} {rb cap : Nat} {A : List Bool} (h : MarkAt O w gb S rb cap A) {i : Nat} (hi : i < A.length) : MarkAt O (w.setCell ⟨rb, i, none⟩ (.bool true)) gb S rb cap (A.set i true) ∧ Only (· = rb) w (w.setCell ⟨rb, i, none⟩ (.bool true)) := by
  refine ⟨⟨h.G.keep (by simp [World.setCell]) (fun k hk => Below.heap_setCell _ _ _ _ (fun e => h.no (by simp only at e; rw [← e]; exact hk))), ?_, h.no, by rw [List.length_set]; exact h.len⟩, (Only.refl (fun x => x = rb) w).setCell (p := ⟨rb, i, none⟩) (.inl rfl) _⟩
  rw [List.length_set]
  rcases h.row.2 with ⟨e, _⟩ | ⟨g, cap', cur, e, hb, hg, hn, hm, hs, ht⟩
  · cases e
  · simp only [Value.slice.injEq, Option.some.injEq, Addr.mk.injEq, and_true, true_and] at e
    obtain ⟨rfl, rfl⟩ := e
    refine ⟨by simp, .inr ⟨rb, cap, cur.setIfInBounds i (.bool true), rfl, Nat.zero_le _, heap_setCell_at hg, hn, hm, by simpa using hs, ?_⟩⟩
    rw [Array.toList_setIfInBounds, List.take_set, ht, List.map_set]

theorem MarkPost.pre {O : Nat → Prop} {w w1 w' : World} {gb : Nat} {S : GrS} {rb cap : Nat} {A : List Bool} {f : Nat} {e : Ending} (hb : Below w.heap.size w w1) (h : MarkPost O w1 gb S rb cap A f e w') : MarkPost O w gb S rb cap A f e w' := by
  obtain ⟨he, A', h1, h2, h3⟩ := h
  exact ⟨he, A', h1, h2, below_then_only hb h3⟩

set_option maxHeartbeats 400000 in
set_option maxRecDepth 10000 in
theorem graphMark_short {O : Nat → Prop} {w : World} {gb : Nat} {S : GrS} {f rb cap : Nat} {A : List Bool} (h : MarkAt O w gb S rb cap A) (k : S.g.Ok) (hf : S.g.ok f) (hs : f / 2 = 0 ∨ isM A (f / 2)) :
    Calls Tryz.prog 159 #[.pointer (some ⟨gb, 0, none⟩), .int .i64 f, .slice (some ⟨rb, 0, none⟩) A.length cap] w (MarkPost O w gb S rb cap A f) := by
  have hp : MarkPost O w gb S rb cap A f (.returned (.tuple #[])) w := ⟨rfl, A, h, Marked.refl hs, Only.refl _ _⟩
  generalize MarkPost O w gb S rb cap A f = Post at hp ⊢
  have hcon := refConstant_is f
  by_cases hz : f / 2 = 0
  · have hd : decide (f / 2 = 0) = true := by simp [hz]
    rw [hd] at hcon
    clear h k hf hs hz hd
    go_enter Tryz.func159, Tryz.ntmps159
    go_wp2_with (go_at_call 140; refine (hcon _).mono ?_; rintro e w1 ⟨rfl, hq⟩; replace hq := hq.symm; subst hq)
    first | exact hp | (go_end0; exact hp)
  · have hd : decide (f / 2 = 0) = false := by simp [hz]
    rw [hd] at hcon
    have hm := hs.resolve_left hz
    obtain ⟨n, hn⟩ := Gr.ok_node hf hz
    have hlt : f / 2 < A.length := by rw [h.len]; exact GrS.node_lt hn
    have hc := h.cell hlt
    unfold isM at hm
    rw [hm] at hc
    have hnum := refNumber_is f
    obtain ⟨q, hq⟩ : ∃ q, q = f / 2 := ⟨_, rfl⟩
    rw [← hq] at hlt hc hnum
    clear h k hf hs hz hd hn hm hq
    go_enter Tryz.func159, Tryz.ntmps159
    go_wp2_with (first
      | (go_at_call 140; refine (hcon _).mono ?_; rintro e w1 ⟨rfl, hq⟩; replace hq := hq.symm; subst hq)
      | (go_at_call 149; refine (hnum _).mono ?_; rintro e w1 ⟨rfl, hq⟩; replace hq := hq.symm; subst hq))
    first | exact hp | (go_end0; exact hp)

end Go.Proofs.YtebfmcafmojlaaaGreatDoor

/-
  graph: mark whole.
-/
namespace Go.Proofs.YtebfmcafmojlaaaGreatDoor
open Go.RowKit Go.Maps
set_option linter.unusedSimpArgs false
set_option linter.unusedVariables false

set_option maxHeartbeats 400000 in
set_option maxRecDepth 10000 in
theorem graphMark_down (d : Nat) (IH : MarkIs d) {O : Nat → Prop} {w : World} {gb : Nat} {S : GrS} {f rb cap : Nat} {A : List Bool} (h : MarkAt O w gb S rb cap A) (k : S.g.Ok) {n : Nd} (hn : S.g.node (f / 2) = some n) (hf : S.g.ok f) (hd : S.g.order.length ≤ S.g.lev f + (d + 1)) (hs : ¬ isM A (f / 2)) :
    Calls Tryz.prog 159 #[.pointer (some ⟨gb, 0, none⟩), .int .i64 f, .slice (some ⟨rb, 0, none⟩) A.length cap] w (MarkPost O w gb S rb cap A f) := by
  have hz : ¬ f / 2 = 0 := fun e => by rw [e, k.zero] at hn; cases hn
  have hcon := refConstant_is f
  have hd' : decide (f / 2 = 0) = false := by simp [hz]
  rw [hd'] at hcon
  have hlt : f / 2 < A.length := by rw [h.len]; exact GrS.node_lt hn
  have hc := h.cell hlt
  have hm : A.getD (f / 2) false = false := by
    unfold isM at hs
    cases e : A.getD (f / 2) false
    · rfl
    · exact absurd e hs
  rw [hm] at hc
  have hfr := h.frozen (f / 2)
  obtain ⟨hA1, ho1⟩ := h.set hlt
  obtain ⟨w1, hw1⟩ : ∃ w1, w1 = w.setCell ⟨rb, f / 2, none⟩ (.bool true) := ⟨_, rfl⟩
  rw [← hw1] at hA1 ho1
  have htlev := k.tlev hn
  have helev := k.elev hn
  rw [Gr.lev_node hn] at hd
  have hal : ∀ o : Obj, Below w1.heap.size w1 ((w1.alloc o).drew) := fun o => ((Below.refl _ w1).alloc (Nat.le_refl _) o).drew
  have hlen1 : (A.set (f / 2) true).length = A.length := List.length_set
  have hmt : ∀ wq, Below w1.heap.size w1 wq → Calls Tryz.prog 159 #[.pointer (some ⟨gb, 0, none⟩), .int .i64 n.t, .slice (some ⟨rb, 0, none⟩) A.length cap] wq (MarkPost O wq gb S rb cap (A.set (f / 2) true) n.t) := by
    intro wq hb
    have := IH O wq gb S n.t rb cap (A.set (f / 2) true) (hA1.below hb) k (k.tok hn) (by omega)
    rw [hlen1] at this
    exact this
  have hme : ∀ (w2 : World) (A1 : List Bool), MarkAt O w2 gb S rb cap A1 → A1.length = A.length → Calls Tryz.prog 159 #[.pointer (some ⟨gb, 0, none⟩), .int .i64 n.e, .slice (some ⟨rb, 0, none⟩) A.length cap] w2 (MarkPost O w2 gb S rb cap A1 n.e) := by
    intro w2 A1 h2 hl
    have := IH O w2 gb S n.e rb cap A1 h2 k (k.eok hn) (by omega)
    rw [hl] at this
    exact this
  have hfin : ∀ (wq w2 w3 : World) (A1 A2 : List Bool), Below w1.heap.size w1 wq → Marked S.g (A.set (f / 2) true) A1 n.t → Only (· = rb) wq w2 → Marked S.g A1 A2 n.e → Only (· = rb) w2 w3 → MarkAt O w3 gb S rb cap A2 → MarkPost O w gb S rb cap A f (.returned (.tuple #[])) w3 := by
    intro wq w2 w3 A1 A2 hb m1 o1 m2 o2 h3
    exact ⟨rfl, A2, h3, Marked.step k hn hlt m1 m2, ho1.trans (below_then_only hb (o1.trans o2 (Grows.refl _ _))) (Grows.refl _ _)⟩
  have hoff : ∀ (w2 : World) (p : Addr), Only (· = rb) w1 w2 → p.block ≠ rb → p.block < w1.heap.size → w2.cell? p = w1.cell? p := fun w2 p ho hne hl => ho.cell hne hl
  have hnum := refNumber_is f
  obtain ⟨ov, nv, fv, mb, rb', M, R, hG⟩ := hA1.G
  obtain ⟨c0, c1, c2, c3, c4⟩ := hG.c
  obtain ⟨nb, ncap, en, hnb, hob, hnode⟩ := hG.nodeAt
  subst en
  obtain ⟨hi, d0, d1, d2⟩ := hnode _ _ hn
  obtain ⟨q, hq⟩ : ∃ q, q = f / 2 := ⟨_, rfl⟩
  rw [← hq] at hlt hc hfr hw1 hi d0 d1 d2 hnum hmt hfin
  obtain ⟨v, t, e⟩ := n
  simp only at d0 d1 d2 hmt hme hfin
  obtain ⟨Wb, hWb⟩ : ∃ Wb, Wb = w1.alloc (.cells #[.int .i64 (v : Int), .int .i64 (t : Int), .int .i64 (e : Int)] 214) := ⟨_, rfl⟩
  have hbb : Below w1.heap.size w1 Wb := by rw [hWb]; exact (Below.refl _ w1).alloc (Nat.le_refl _) _
  have hbc : Wb.heap[w1.heap.size]? = some (.cells #[.int .i64 (v : Int), .int .i64 (t : Int), .int .i64 (e : Int)] 214 (0, 0)) := by rw [hWb]; exact heap_alloc_new w1 _
  have hrbl : rb < w1.heap.size := by
    obtain ⟨cur, hcc⟩ := row_block hA1.row (b := rb) rfl
    exact (Array.getElem?_eq_some_iff.1 hcc).1
  have x1 : Wb.cell? ⟨w1.heap.size, 1, none⟩ = some (.int .i64 (t : Int)) := by rw [cell_of_heap hbc]; rfl
  have x2 : ∀ w2 : World, Only (· = rb) Wb.drew w2 → w2.cell? ⟨w1.heap.size, 2, none⟩ = some (.int .i64 (e : Int)) := by
    intro w2 ho
    rw [ho.cell (p := ⟨w1.heap.size, 2, none⟩) (by show w1.heap.size ≠ rb; omega) (Array.getElem?_eq_some_iff.1 hbc).1]
    show Wb.cell? _ = _
    rw [cell_of_heap hbc]; rfl
  have hmt' := hmt Wb.drew hbb.drew
  have HF : Hid _ := hfin Wb.drew
  have HB : Hid (Below w1.heap.size w1 Wb.drew) := hbb.drew
  generalize MarkPost O w gb S rb cap A f = Post at HF ⊢
  clear hmt hfin h k hn hf hd hs hz hd' hm hA1 ho1 hG hnode c0 c2 c3 c4 hob hbb hbc hal hlen1 hoff htlev helev IH hq hrbl
  go_enter Tryz.func159, Tryz.ntmps159
  go_upto_region 2 with (first
    | (go_at_call 140; refine (hcon _).mono ?_; rintro e' w1 ⟨rfl, hq⟩; replace hq := hq.symm; subst hq)
    | (go_at_call 149; refine (hnum _).mono ?_; rintro e' w1 ⟨rfl, hq⟩; replace hq := hq.symm; subst hq))
  rw [← hw1]
  clear hw1 hc hfr hlt
  go_region_held (fun w' => w'.cell? ⟨gb, 1, none⟩ = some (.slice (some ⟨nb, 0, none⟩) S.nl.length ncap) ∧ w'.cell? ⟨nb, q * 3, none⟩ = some (.int .i64 (v : Nat)) ∧ w'.cell? ⟨nb, q * 3 + 1, none⟩ = some (.int .i64 (t : Nat)) ∧ w'.cell? ⟨nb, q * 3 + 2, none⟩ = some (.int .i64 (e : Nat))) (go_keep) (first | (go_at_call 149; refine (hnum _).mono ?_; rintro e' w1 ⟨rfl, hq⟩; replace hq := hq.symm; subst hq))
  all_goals
    rw [← hWb]
    clear hWb d0 d1 d2 c1 hnum
    go_wp2_with (first
      | (go_at_call 159; refine hmt'.mono ?_; clear hmt'; rintro e' w2 ⟨rfl, A1, hA1, m1, o1⟩; have y2 := x2 w2 o1; have hme' := hme w2 A1 hA1 (by rw [m1.len]; exact List.length_set))
      | (go_at_call 159; refine hme'.mono ?_; clear hme'; rintro e' w3 ⟨rfl, A2, hA2, m2, o2⟩))
    first | exact HF.out w2 w3 A1 A2 HB.out m1 o1 m2 o2 hA2 | (go_end0; exact HF.out w2 w3 A1 A2 HB.out m1 o1 m2 o2 hA2)

theorem graphMark_all : ∀ d, MarkIs d := by
  intro d
  induction d with
  | zero =>
    intro O w gb S f rb cap A h k hf hd
    refine graphMark_short h k hf (.inl ?_)
    rcases hf with e | ⟨n, e⟩
    · exact e
    · have := k.idx_lt e
      rw [Gr.lev_node e] at hd
      omega
  | succ d IH =>
    intro O w gb S f rb cap A h k hf hd
    by_cases hs : f / 2 = 0 ∨ isM A (f / 2)
    · exact graphMark_short h k hf hs
    · obtain ⟨n, hn⟩ := Gr.ok_node hf (fun e => hs (.inl e))
      exact graphMark_down d IH h k hn hf hd (fun e => hs (.inr e))

theorem graphMark_is {O : Nat → Prop} {w : World} {gb : Nat} {S : GrS} {f rb cap : Nat} {A : List Bool} (h : MarkAt O w gb S rb cap A) (k : S.g.Ok) (hf : S.g.ok f) :
    Calls Tryz.prog 159 #[.pointer (some ⟨gb, 0, none⟩), .int .i64 f, .slice (some ⟨rb, 0, none⟩) A.length cap] w (MarkPost O w gb S rb cap A f) :=
  graphMark_all 6 O w gb S f rb cap A h k hf (by have := h.G.ol; omega)

end Go.Proofs.YtebfmcafmojlaaaGreatDoor

