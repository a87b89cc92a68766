/-
  graph: remember.
-/
import Derived.Test.YtebfmcafmojlaaaGreatDoorT16
namespace Go.Proofs.YtebfmcafmojlaaaGreatDoor
open Go.RowKit Go.Maps
set_option linter.unusedSimpArgs false
set_option linter.unusedVariables false

theorem wpList_clear_is {P : Program} {w : World} {ops : Array Oper} {rest : List Oper} {o : Oper} {a : Act} {Q : Exit → Act → World → Prop} (hg : o.guard = none) (m : Operand) (t : TypeId) (hop : o.op = Op.call { callee := Callee.builtin Builtin.clear, args := #[m], argTypes := #[t] })
    {b : Nat} {w' : World} (hrun : (Builtin.clear_ #[t] o.type #[.map (some b)]).run P w = .ok (.tuple #[]) w') (hm : a.eval m = .map (some b)) (hK : wpList P ops Q rest (a.put o.dst (.tuple #[])) w') : wpList P ops Q (o :: rest) a w := by
  refine wpList_plain hg fun K' hK' => ?_
  unfold Oper.wp
  simp [execOp, hop, resolve, invoke, builtin, hm, hrun, Result.andThen]
  exact hK' _ _ hK

/-- Only the results have turned. -/
theorem GrAt.results {O : Nat → Prop} {w w' : World} {gb : Nat} {S : GrS} {ov nv fv : Value} {mb rb : Nat} {M R R' : List (Value × Value)} (h : GrAt O w gb S ov nv fv mb rb M R) (ht : MapTurn w w' rb) (hr : MapIs Tryz.prog 163 w' rb R')
    (rok : ∀ p, p ∈ R' → ∃ f g h r, p = (key3 f g h, natv r) ∧ S.g.ok f ∧ S.g.ok g ∧ S.g.ok h ∧ S.g.ok r ∧ S.g.tab r = iteT (S.g.tab f) (S.g.tab g) (S.g.tab h)) (hl : R'.length ≤ 4096) : GrAt O w' gb S ov nv fv mb rb M R' := by
  have hb : ∀ b, b < w.heap.size → b ≠ rb → w'.heap[b]? = w.heap[b]? := fun b hb hne => ht.1.block b hb (by simp; exact hne)
  have hmaps := h.maps_ne
  have hrow : ∀ {e size v n xs}, w.ownsRow 0 e size v n xs → ∀ k, v.ownBlock = some k → w'.heap[k]? = w.heap[k]? := by
    intro e size v n xs ho k hk
    obtain ⟨cur, hc⟩ := row_block ho hk
    exact hb k (Array.getElem?_eq_some_iff.1 hc).1 (hmaps k _ _ _ hc).2
  exact { h with
    lt := fun b hb => Nat.lt_of_lt_of_le (h.lt b hb) ht.1.size
    cells := (hb gb (h.lt gb h.self) (hmaps gb _ _ _ h.cells).2).trans h.cells
    order := h.order.same (hrow h.order.1)
    nodes := owns_same h.nodes (hrow h.nodes)
    free := h.free.same (hrow h.free.1)
    nums := h.nums.same (hb mb (h.lt mb h.om) h.mr)
    res := hr
    rok := rok
    rlen := hl }

theorem MapTurn.only {O : Nat → Prop} {w w' : World} {b : Nat} (h : MapTurn w w' b) (hb : O b) : Only O w w' := (Only.refl O w).grown h.1 (fun k hk => by simp at hk; subst hk; exact .inl hb)

set_option maxHeartbeats 400000 in
set_option maxRecDepth 10000 in
theorem graphRemember_is {O : Nat → Prop} {w : World} {gb : Nat} {S : GrS} (hG : GrIs O w gb S) (f g h r : Nat) (hf : S.g.ok f) (hg : S.g.ok g) (hh : S.g.ok h) (hr : S.g.ok r) (ht : S.g.tab r = iteT (S.g.tab f) (S.g.tab g) (S.g.tab h)) :
    Calls Tryz.prog 101 #[.pointer (some ⟨gb, 0, none⟩), .agg #[.int .i64 (f : Int), .int .i64 (g : Int), .int .i64 (h : Int)], .int .i64 r] w fun e' w' => e' = .returned (.tuple #[]) ∧ GrStep O w gb w' S := by
  have hkey := trip_key_ok f g h (by have := hG.bound hf; unfold refMax; omega) (by have := hG.bound hg; unfold refMax; omega) (by have := hG.bound hh; unfold refMax; omega)
  obtain ⟨ov, nv, fv, mb, rb, M, R, hA⟩ := hG
  obtain ⟨W0, hW0⟩ : ∃ W0, W0 = w.alloc (.cells #[.int .i64 (f : Int), .int .i64 (g : Int), .int .i64 (h : Int)] 163) := ⟨_, rfl⟩
  have hbx : Below w.heap.size w W0 := by rw [hW0]; exact (Below.refl w.heap.size w).alloc (Nat.le_refl _) _
  have hbxc : W0.heap[w.heap.size]? = some (.cells #[.int .i64 (f : Int), .int .i64 (g : Int), .int .i64 (h : Int)] 163 (0, 0)) := by rw [hW0]; exact heap_alloc_new w _
  have hA0 := hA.below hbx
  have hrl := hA.rlen
  have hgb := hA.lt gb hA.self
  have hws : w.heap.size < W0.heap.size := (Array.getElem?_eq_some_iff.1 hbxc).1
  have hmaps := hA0.maps_ne
  by_cases hfull : 4096 ≤ R.length
  · obtain ⟨w1, hrun1, r1, t1⟩ := hA0.res.clear Tryz.underlying154 0
    have hA1 : GrAt O w1 gb S ov nv fv mb rb M [] := hA0.results t1 r1 (by simp) (by simp)
    have hb1 : w1.heap[w.heap.size]? = some (.cells #[.int .i64 (f : Int), .int .i64 (g : Int), .int .i64 (h : Int)] 163 (0, 0)) := (t1.1.block _ hws (by simp; exact (hmaps _ _ _ _ hbxc).2)).trans hbxc
    obtain ⟨w2, R2, hrun2, r2, t2, q1, q2, q3⟩ := (hA1.res.same (w' := w1.drew) rfl).store trip_keyed Tryz.underlying154 (val := .int .i64 (r : Int)) hkey
    have hfin : GrStep O w gb w2 S := by
      refine GrStep.pre hbx (GrStep.trans (t1.only hA.orr) (Grows.refl _ _) ⟨t2.undrew.only hA.orr, O, ⟨ov, nv, fv, mb, rb, M, R2, hA1.results t2.undrew r2 ?_ ?_⟩, Grows.refl _ _⟩)
      · intro p hp
        rcases (q1 p).1 hp with e | ⟨e, _⟩
        · exact ⟨f, g, h, r, e, hf, hg, hh, hr, ht⟩
        · simp at e
      · rw [q2 (by simp)]; simp
    have HF : Hid (GrStep O w gb w2 S) := hfin
    obtain ⟨c0, c1, c2, c3, c4⟩ := hA0.c
    obtain ⟨d0, d1, d2, d3, d4⟩ := hA1.c
    have p0 : w1.cell? ⟨w.heap.size, 0, none⟩ = some (.int .i64 (f : Int)) := by rw [cell_of_heap hb1]; rfl
    have p1 : w1.cell? ⟨w.heap.size, 1, none⟩ = some (.int .i64 (g : Int)) := by rw [cell_of_heap hb1]; rfl
    have p2 : w1.cell? ⟨w.heap.size, 2, none⟩ = some (.int .i64 (h : Int)) := by rw [cell_of_heap hb1]; rfl
    have hres := hA0.res
    have hge : (4096 : Int) ≤ (R.length : Int) := by omega
    unfold key3 at hrun2
    clear hfin hA hA0 hA1 hbx hbxc hrl hgb hws hmaps r1 t1 hb1 r2 t2 q1 q2 q3 hf hg hh hr ht hkey c0 c1 c2 c3 d0 d1 d2 d3 hfull
    go_enter Tryz.func101, Tryz.ntmps101
    go_upto_region 1 with fail
    rw [← hW0]
    clear hW0
    go_wp2_with (first
      | (at_len; refine wpList_len_is rfl _ 154 rfl 163 80 Tryz.underlying154 rb R rfl hres ?_)
      | (refine wpList_clear_is rfl _ 154 rfl hrun1 rfl ?_))
    go_region
    all_goals
      go_wp2
      go_end0
      exact ⟨rfl, HF.out⟩
  · obtain ⟨w2, R2, hrun2, r2, t2, q1, q2, q3⟩ := (hA0.res.same (w' := W0.drew) rfl).store trip_keyed Tryz.underlying154 (val := .int .i64 (r : Int)) hkey
    have hfin : GrStep O w gb w2 S := by
      refine GrStep.pre hbx ⟨t2.undrew.only hA.orr, O, ⟨ov, nv, fv, mb, rb, M, R2, hA0.results t2.undrew r2 ?_ ?_⟩, Grows.refl _ _⟩
      · intro p hp
        rcases (q1 p).1 hp with e | ⟨e, _⟩
        · exact ⟨f, g, h, r, e, hf, hg, hh, hr, ht⟩
        · exact hA0.rok p e
      · by_cases hin : ∃ u, (key3 f g h, u) ∈ R
        · rw [q3 hin]; omega
        · rw [q2 (fun u hu => hin ⟨u, hu⟩)]; omega
    have HF : Hid (GrStep O w gb w2 S) := hfin
    obtain ⟨c0, c1, c2, c3, c4⟩ := hA0.c
    have p0 : W0.cell? ⟨w.heap.size, 0, none⟩ = some (.int .i64 (f : Int)) := by rw [cell_of_heap hbxc]; rfl
    have p1 : W0.cell? ⟨w.heap.size, 1, none⟩ = some (.int .i64 (g : Int)) := by rw [cell_of_heap hbxc]; rfl
    have p2 : W0.cell? ⟨w.heap.size, 2, none⟩ = some (.int .i64 (h : Int)) := by rw [cell_of_heap hbxc]; rfl
    have hres := hA0.res
    have hge : ¬ (4096 : Int) ≤ (R.length : Int) := by omega
    have hgb2 : decide ((4096 : Int) ≤ (R.length : Int)) = false := by simp only [hge, decide_false]
    unfold key3 at hrun2
    clear hfin hA hA0 hbx hbxc hrl hgb hws hmaps r2 t2 q1 q2 q3 hf hg hh hr ht hkey c0 c1 c2 c3 hfull
    go_enter Tryz.func101, Tryz.ntmps101
    go_upto_region 1 with fail
    rw [← hW0]
    clear hW0
    go_wp2_with (at_len; refine wpList_len_is rfl _ 154 rfl 163 80 Tryz.underlying154 rb R rfl hres ?_)
    go_region
    all_goals
      go_wp2
      go_end0
      exact ⟨rfl, HF.out⟩

end Go.Proofs.YtebfmcafmojlaaaGreatDoor

/-
  graph: Ite: its closure.
-/
namespace Go.Proofs.YtebfmcafmojlaaaGreatDoor
open Go.RowKit Go.Maps
set_option linter.unusedSimpArgs false
set_option linter.unusedVariables false

def WentPost (O : Nat → Prop) (w : World) (gb : Nat) (S : GrS) (F : Tab) (d : Nat) (e : Ending) (w' : World) : Prop := ∃ r S', e = .returned (.int .i64 (r : Nat)) ∧ GrStep O w gb w' S' ∧ S.Went S' r F d

/-- Ite, where at most d levels are left. -/
def IteIs (d : Nat) : Prop := ∀ (O : Nat → Prop) (w : World) (gb : Nat) (S : GrS) (f g h : Nat), GrIs O w gb S → S.g.Ok → S.g.ok f → S.g.ok g → S.g.ok h → S.g.order.length ≤ S.g.lev f + d → S.g.order.length ≤ S.g.lev g + d → S.g.order.length ≤ S.g.lev h + d → S.nl.length + 2 ^ d ≤ 100000 →
  Calls Tryz.prog 58 #[.pointer (some ⟨gb, 0, none⟩), .int .i64 f, .int .i64 g, .int .i64 h] w (WentPost O w gb S (iteT (S.g.tab f) (S.g.tab g) (S.g.tab h)) (2 ^ d - 1))

theorem WentPost.pre {O : Nat → Prop} {w w1 : World} {gb : Nat} {S : GrS} {F : Tab} {d : Nat} {e : Ending} {w' : World} (hb : Below w.heap.size w w1) (h : WentPost O w1 gb S F d e w') : WentPost O w gb S F d e w' := by
  obtain ⟨r, S', e1, hs, hw⟩ := h
  exact ⟨r, S', e1, hs.pre hb, hw⟩

theorem WentPost.only {O : Nat → Prop} {w : World} {gb : Nat} {S : GrS} {F : Tab} {d : Nat} {e : Ending} {w' : World} (h : WentPost O w gb S F d e w') : Only O w w' := by
  obtain ⟨r, S', e1, hs, hw⟩ := h
  exact hs.1

theorem Only.cell {O : Nat → Prop} {w w' : World} (h : Only O w w') {p : Addr} (hn : ¬ O p.block) (hl : p.block < w.heap.size) : w'.cell? p = w.cell? p := by
  have := h.block p.block hl hn
  simp [World.cell?, this]

structure IteBox (O : Nat → Prop) (w : World) (b4 b5 b12 b6 b7 gb f l g h : Nat) : Prop where
  n4 : ¬ O b4
  n5 : ¬ O b5
  n12 : ¬ O b12
  n6 : ¬ O b6
  n7 : ¬ O b7
  l4 : b4 < w.heap.size
  l5 : b5 < w.heap.size
  l12 : b12 < w.heap.size
  l6 : b6 < w.heap.size
  l7 : b7 < w.heap.size
  c4 : w.cell? ⟨b4, 0, none⟩ = some (.pointer (some ⟨gb, 0, none⟩))
  c5 : w.cell? ⟨b5, 0, none⟩ = some (.int .i64 (f : Int))
  c12 : w.cell? ⟨b12, 0, none⟩ = some (.int .i64 (l : Int))
  c6 : w.cell? ⟨b6, 0, none⟩ = some (.int .i64 (g : Int))
  c7 : w.cell? ⟨b7, 0, none⟩ = some (.int .i64 (h : Int))

set_option maxHeartbeats 1000000 in
set_option maxRecDepth 10000 in
theorem graphIteBody_is (d : Nat) (IH : IteIs d) {O : Nat → Prop} {w : World} {gb : Nat} {S : GrS} (hG : GrIs O w gb S) (k : S.g.Ok) (f g h l : Nat) (hf : S.g.ok f) (hg : S.g.ok g) (hh : S.g.ok h) (b : Bool) (v : Nat) (hv : v ∈ S.g.order) (hl : S.g.idx v = l) (lf : l ≤ S.g.lev f) (lg : l ≤ S.g.lev g) (lh : l ≤ S.g.lev h) (hd : S.g.order.length ≤ l + (d + 1)) (hnl : S.nl.length + 2 ^ d ≤ 100000)
    (b4 b5 b12 b6 b7 : Nat) (B : IteBox O w b4 b5 b12 b6 b7 gb f l g h) :
    Calls Tryz.prog 99 #[.bool b, .pointer (some ⟨b4, 0, none⟩), .pointer (some ⟨b5, 0, none⟩), .pointer (some ⟨b12, 0, none⟩), .pointer (some ⟨b6, 0, none⟩), .pointer (some ⟨b7, 0, none⟩)] w (WentPost O w gb S (iteT (given (S.g.tab f) v b) (given (S.g.tab g) v b) (given (S.g.tab h) v b)) (2 ^ d - 1)) := by
  have hlt : l < S.g.order.length := by rw [← hl]; exact List.idxOf_lt_length_of_mem hv
  have hbf : ∀ wq, Below w.heap.size w wq → Calls Tryz.prog 100 #[.pointer (some ⟨gb, 0, none⟩), .int .i64 f, .int .i64 l, .bool b] wq fun e w' => e = .returned (.int .i64 (S.g.br f l b : Nat)) ∧ Below wq.heap.size wq w' := fun wq hb => graphBranch_is (hG.below hb) k f l b hf hlt
  have hbg : ∀ wq, Below w.heap.size w wq → Calls Tryz.prog 100 #[.pointer (some ⟨gb, 0, none⟩), .int .i64 g, .int .i64 l, .bool b] wq fun e w' => e = .returned (.int .i64 (S.g.br g l b : Nat)) ∧ Below wq.heap.size wq w' := fun wq hb => graphBranch_is (hG.below hb) k g l b hg hlt
  have hbh : ∀ wq, Below w.heap.size w wq → Calls Tryz.prog 100 #[.pointer (some ⟨gb, 0, none⟩), .int .i64 h, .int .i64 l, .bool b] wq fun e w' => e = .returned (.int .i64 (S.g.br h l b : Nat)) ∧ Below wq.heap.size wq w' := fun wq hb => graphBranch_is (hG.below hb) k h l b hh hlt
  have hite : ∀ wq, Below w.heap.size w wq → Calls Tryz.prog 58 #[.pointer (some ⟨gb, 0, none⟩), .int .i64 (S.g.br f l b : Nat), .int .i64 (S.g.br g l b : Nat), .int .i64 (S.g.br h l b : Nat)] wq (fun e w' => ∃ r : Nat, e = .returned (.int .i64 (r : Int)) ∧ WentPost O w gb S (iteT (given (S.g.tab f) v b) (given (S.g.tab g) v b) (given (S.g.tab h) v b)) (2 ^ d - 1) e w' ∧ Only O w w') := by
    intro wq hb
    have qf := k.br_lev (b := b) hf lf hlt
    have qg := k.br_lev (b := b) hg lg hlt
    have qh := k.br_lev (b := b) hh lh hlt
    have := IH O wq gb S (S.g.br f l b) (S.g.br g l b) (S.g.br h l b) (hG.below hb) k (k.br_ok hf) (k.br_ok hg) (k.br_ok hh) (by omega) (by omega) (by omega) hnl
    rw [k.br_tab hf hv hl lf, k.br_tab hg hv hl lg, k.br_tab hh hv hl lh] at this
    refine this.mono (fun e w' hp => ?_)
    obtain ⟨r, S', e1, e2⟩ := hp
    exact ⟨r, e1, WentPost.pre hb ⟨r, S', e1, e2⟩, (WentPost.pre hb ⟨r, S', e1, e2⟩).only⟩
  generalize S.g.br f l b = f' at hbf hite
  generalize S.g.br g l b = g' at hbg hite
  generalize S.g.br h l b = h' at hbh hite
  obtain ⟨n4, n5, n12, n6, n7, l4, l5, l12, l6, l7, c4, c5, c12, c6, c7⟩ := B
  have hbel := (Below.refl w.heap.size w).drew
  generalize (WentPost O w gb S (iteT (given (S.g.tab f) v b) (given (S.g.tab g) v b) (given (S.g.tab h) v b)) (2 ^ d - 1)) = Post at hite ⊢
  clear IH hG k hf hg hh hv hl lf lg lh hd hnl hlt
  go_enter Tryz.func99, Tryz.ntmps99
  go_wp2_with fail
  go_region_held (fun w' => w'.cell? ⟨b4, 0, none⟩ = some (.pointer (some ⟨gb, 0, none⟩)) ∧ w'.cell? ⟨b5, 0, none⟩ = some (.int .i64 (f : Int)) ∧ w'.cell? ⟨b12, 0, none⟩ = some (.int .i64 (l : Int)) ∧ w'.cell? ⟨b6, 0, none⟩ = some (.int .i64 (g : Int)) ∧ w'.cell? ⟨b7, 0, none⟩ = some (.int .i64 (h : Int))) (go_keep) (first
    | (go_at_call 100; refine (hbf _ hbel).mono ?_; clear hbf; rintro e wf ⟨rfl, hb1⟩; replace hbel := hbel.trans (hb1.mono hbel.size); clear hb1; have x4f := (hbel.cell (p := ⟨b4, 0, none⟩) l4).trans c4; have x5f := (hbel.cell (p := ⟨b5, 0, none⟩) l5).trans c5; have x12f := (hbel.cell (p := ⟨b12, 0, none⟩) l12).trans c12; have x6f := (hbel.cell (p := ⟨b6, 0, none⟩) l6).trans c6; have x7f := (hbel.cell (p := ⟨b7, 0, none⟩) l7).trans c7)
    | (go_at_call 100; refine (hbg _ hbel).mono ?_; clear hbg; rintro e wg ⟨rfl, hb1⟩; replace hbel := hbel.trans (hb1.mono hbel.size); clear hb1; have x4g := (hbel.cell (p := ⟨b4, 0, none⟩) l4).trans c4; have x5g := (hbel.cell (p := ⟨b5, 0, none⟩) l5).trans c5; have x12g := (hbel.cell (p := ⟨b12, 0, none⟩) l12).trans c12; have x6g := (hbel.cell (p := ⟨b6, 0, none⟩) l6).trans c6; have x7g := (hbel.cell (p := ⟨b7, 0, none⟩) l7).trans c7)
    | (go_at_call 100; refine (hbh _ hbel).mono ?_; clear hbh; rintro e wh ⟨rfl, hb1⟩; replace hbel := hbel.trans (hb1.mono hbel.size); clear hb1; have x4h := (hbel.cell (p := ⟨b4, 0, none⟩) l4).trans c4; have x5h := (hbel.cell (p := ⟨b5, 0, none⟩) l5).trans c5; have x12h := (hbel.cell (p := ⟨b12, 0, none⟩) l12).trans c12; have x6h := (hbel.cell (p := ⟨b6, 0, none⟩) l6).trans c6; have x7h := (hbel.cell (p := ⟨b7, 0, none⟩) l7).trans c7)
    | (go_at_call 58; refine (hite _ hbel).mono ?_; clear hite; rintro e w4 ⟨r, rfl, hp, ho⟩; have x4 := (ho.cell (p := ⟨b4, 0, none⟩) n4 l4).trans c4; have x5 := (ho.cell (p := ⟨b5, 0, none⟩) n5 l5).trans c5; have x12 := (ho.cell (p := ⟨b12, 0, none⟩) n12 l12).trans c12; have x6 := (ho.cell (p := ⟨b6, 0, none⟩) n6 l6).trans c6; have x7 := (ho.cell (p := ⟨b7, 0, none⟩) n7 l7).trans c7))
  all_goals
    go_wp2
    exact hp

end Go.Proofs.YtebfmcafmojlaaaGreatDoor

/-
  graph: Ite, the short ways.
-/
namespace Go.Proofs.YtebfmcafmojlaaaGreatDoor
open Go.RowKit Go.Maps
set_option linter.unusedSimpArgs false
set_option linter.unusedVariables false

theorem tab_true {G : Gr} (k : G.Ok) : G.tab 0 = onesT := by unfold Gr.tab; simp [k.sem0]
theorem tab_false {G : Gr} (k : G.Ok) : G.tab 1 = 0#64 := by
  unfold Gr.tab
  simp [k.sem0]
  unfold onesT
  decide

/-- The four boxes of Ite's arguments. -/
def iteW (w : World) (gb f g h : Nat) : World := (((w.alloc (.cells #[.pointer (some ⟨gb, 0, none⟩)] 74)).alloc (.cells #[.int .i64 (f : Int)] 80)).alloc (.cells #[.int .i64 (g : Int)] 80)).alloc (.cells #[.int .i64 (h : Int)] 80)

theorem iteW_below (w : World) (gb f g h : Nat) : Below w.heap.size w (iteW w gb f g h) := by
  unfold iteW
  exact ((((Below.refl _ w).alloc (Nat.le_refl _) _).alloc (by simp) _).alloc (by simp <;> omega) _).alloc (by simp <;> omega) _

theorem iteW_size (w : World) (gb f g h : Nat) : (iteW w gb f g h).heap.size = w.heap.size + 4 := by
  unfold iteW; simp

theorem heap_alloc_old (w : World) (o : Obj) {b : Nat} (h : b < w.heap.size) : (w.alloc o).heap[b]? = w.heap[b]? := ((Below.refl w.heap.size w).alloc (Nat.le_refl _) o).block b h

theorem iteW_cells (w : World) (gb f g h : Nat) :
    (iteW w gb f g h).heap[w.heap.size]? = some (.cells #[.pointer (some ⟨gb, 0, none⟩)] 74 (0, 0)) ∧ (iteW w gb f g h).heap[w.heap.size + 1]? = some (.cells #[.int .i64 (f : Int)] 80 (0, 0)) ∧
    (iteW w gb f g h).heap[w.heap.size + 2]? = some (.cells #[.int .i64 (g : Int)] 80 (0, 0)) ∧ (iteW w gb f g h).heap[w.heap.size + 3]? = some (.cells #[.int .i64 (h : Int)] 80 (0, 0)) := by
  unfold iteW
  refine ⟨?_, ?_, ?_, ?_⟩
  · rw [heap_alloc_old _ _ (by simp <;> omega), heap_alloc_old _ _ (by simp <;> omega), heap_alloc_old _ _ (by simp)]
    exact heap_alloc_new w _
  · rw [heap_alloc_old _ _ (by simp <;> omega), heap_alloc_old _ _ (by simp)]
    have := heap_alloc_new (w.alloc (.cells #[.pointer (some ⟨gb, 0, none⟩)] 74)) (.cells #[.int .i64 (f : Int)] 80)
    simpa using this
  · rw [heap_alloc_old _ _ (by simp)]
    have := heap_alloc_new ((w.alloc (.cells #[.pointer (some ⟨gb, 0, none⟩)] 74)).alloc (.cells #[.int .i64 (f : Int)] 80)) (.cells #[.int .i64 (g : Int)] 80)
    simpa using this
  · have := heap_alloc_new (((w.alloc (.cells #[.pointer (some ⟨gb, 0, none⟩)] 74)).alloc (.cells #[.int .i64 (f : Int)] 80)).alloc (.cells #[.int .i64 (g : Int)] 80)) (.cells #[.int .i64 (h : Int)] 80)
    simpa using this

theorem ite_short {O : Nat → Prop} {w w' : World} {gb : Nat} {S : GrS} {r d : Nat} {F : Tab} (hG : GrIs O w gb S) (k : S.g.Ok) (hr : S.g.ok r) (ht : S.g.tab r = F) (hb : Below w.heap.size w w') : WentPost O w gb S F d (.returned (.int .i64 (r : Int))) w' :=
  ⟨r, S, rfl, hG.step hb, by rw [← ht]; exact GrS.Went.refl k hr d⟩

set_option maxHeartbeats 400000 in
set_option maxRecDepth 10000 in
theorem graphIte_short {O : Nat → Prop} {w : World} {gb : Nat} {S : GrS} {f g h d : Nat} (hG : GrIs O w gb S) (k : S.g.Ok) (hf : S.g.ok f) (hg : S.g.ok g) (hh : S.g.ok h) (hs : f = 0 ∨ g = h ∨ f = 1) :
    Calls Tryz.prog 58 #[.pointer (some ⟨gb, 0, none⟩), .int .i64 f, .int .i64 g, .int .i64 h] w (WentPost O w gb S (iteT (S.g.tab f) (S.g.tab g) (S.g.tab h)) d) := by
  have hb0 := iteW_below w gb f g h
  obtain ⟨q4, q5, q6, q7⟩ := iteW_cells w gb f g h
  obtain ⟨W0, hW0⟩ : ∃ W0, W0 = iteW w gb f g h := ⟨_, rfl⟩
  rw [← hW0] at hb0 q4 q5 q6 q7
  have c4 : W0.cell? ⟨w.heap.size, 0, none⟩ = some (.pointer (some ⟨gb, 0, none⟩)) := by rw [cell_of_heap q4]; rfl
  have c5 : W0.cell? ⟨w.heap.size + 1, 0, none⟩ = some (.int .i64 (f : Int)) := by rw [cell_of_heap q5]; rfl
  have c6 : W0.cell? ⟨w.heap.size + 2, 0, none⟩ = some (.int .i64 (g : Int)) := by rw [cell_of_heap q6]; rfl
  have c7 : W0.cell? ⟨w.heap.size + 3, 0, none⟩ = some (.int .i64 (h : Int)) := by rw [cell_of_heap q7]; rfl
  have e0 : ((f : Int) == 0) = decide (f = 0) := by
    by_cases e : f = 0
    · subst e; rfl
    · rw [Bool.eq_iff_iff]; simp
  have e1 : ((f : Int) == 1) = decide (f = 1) := by
    by_cases e : f = 1
    · subst e; rfl
    · rw [Bool.eq_iff_iff]; simp; omega
  have e2 := eq_nat g h
  unfold iteW at hW0
  by_cases z0 : f = 0
  · have hp : WentPost O w gb S (iteT (S.g.tab f) (S.g.tab g) (S.g.tab h)) d (.returned (.int .i64 (g : Int))) W0 := ite_short hG k hg (by rw [z0, tab_true k, iteT_ones]) hb0
    generalize WentPost O w gb S (iteT (S.g.tab f) (S.g.tab g) (S.g.tab h)) d = Post at hp ⊢
    rw [decide_eq_true z0] at e0
    clear hG k hf hg hh hs hb0 q4 q5 q6 q7 e1 e2 z0
    go_enter Tryz.func58, Tryz.ntmps58
    go_upto_region 1 with fail
    rw [← hW0]
    clear hW0
    go_wp2
    exact hp
  · rw [decide_eq_false z0] at e0
    by_cases z1 : g = h
    · have hp : WentPost O w gb S (iteT (S.g.tab f) (S.g.tab g) (S.g.tab h)) d (.returned (.int .i64 (g : Int))) W0 := ite_short hG k hg (by rw [z1, iteT_same]) hb0
      generalize WentPost O w gb S (iteT (S.g.tab f) (S.g.tab g) (S.g.tab h)) d = Post at hp ⊢
      have z1' : (g == h) = true := by simp [z1]
      rw [z1'] at e2
      clear hG k hf hg hh hs hb0 q4 q5 q6 q7 e1 z0 z1 z1'
      go_enter Tryz.func58, Tryz.ntmps58
      go_upto_region 1 with fail
      rw [← hW0]
      clear hW0
      go_wp2
      exact hp
    · have z2 : f = 1 := by rcases hs with e | e | e; exact absurd e z0; exact absurd e z1; exact e
      have hp : WentPost O w gb S (iteT (S.g.tab f) (S.g.tab g) (S.g.tab h)) d (.returned (.int .i64 (h : Int))) W0 := ite_short hG k hh (by rw [z2, tab_false k, iteT_zero]) hb0
      generalize WentPost O w gb S (iteT (S.g.tab f) (S.g.tab g) (S.g.tab h)) d = Post at hp ⊢
      have z1' : (g == h) = false := by simp [z1]
      rw [z1'] at e2
      rw [decide_eq_true z2] at e1
      clear hG k hf hg hh hs hb0 q4 q5 q6 q7 z0 z1 z1' z2
      go_enter Tryz.func58, Tryz.ntmps58
      go_upto_region 1 with fail
      rw [← hW0]
      clear hW0
      go_wp2
      exact hp

end Go.Proofs.YtebfmcafmojlaaaGreatDoor

/-
  graph: Ite, a result that was kept.
-/
namespace Go.Proofs.YtebfmcafmojlaaaGreatDoor
open Go.RowKit Go.Maps
set_option linter.unusedSimpArgs false
set_option linter.unusedVariables false

/-- The boxes of Ite's arguments, and its key. -/
structure IteAt (w : World) (gb f g h : Nat) (W1 : World) : Prop where
  below : Below w.heap.size w W1
  c4 : W1.cell? ⟨w.heap.size, 0, none⟩ = some (.pointer (some ⟨gb, 0, none⟩))
  c5 : W1.cell? ⟨w.heap.size + 1, 0, none⟩ = some (.int .i64 (f : Int))
  c6 : W1.cell? ⟨w.heap.size + 2, 0, none⟩ = some (.int .i64 (g : Int))
  c7 : W1.cell? ⟨w.heap.size + 3, 0, none⟩ = some (.int .i64 (h : Int))
  k0 : W1.cell? ⟨w.heap.size + 4, 0, none⟩ = some (.int .i64 (f : Int))
  k1 : W1.cell? ⟨w.heap.size + 4, 1, none⟩ = some (.int .i64 (g : Int))
  k2 : W1.cell? ⟨w.heap.size + 4, 2, none⟩ = some (.int .i64 (h : Int))
  size : w.heap.size + 5 ≤ W1.heap.size

def iteK (w : World) (gb f g h : Nat) : World := (iteW w gb f g h).alloc (.cells #[.int .i64 (f : Int), .int .i64 (g : Int), .int .i64 (h : Int)] 163)

theorem iteK_at (w : World) (gb f g h : Nat) : IteAt w gb f g h (iteK w gb f g h) := by
  have hb0 := iteW_below w gb f g h
  have hsz := iteW_size w gb f g h
  obtain ⟨q4, q5, q6, q7⟩ := iteW_cells w gb f g h
  unfold iteK
  generalize iteW w gb f g h = W0 at *
  have hn := heap_alloc_new W0 (.cells #[.int .i64 (f : Int), .int .i64 (g : Int), .int .i64 (h : Int)] 163)
  rw [hsz] at hn
  refine ⟨hb0.alloc hb0.size _, ?_, ?_, ?_, ?_, ?_, ?_, ?_, by simp; omega⟩
  · rw [cell_of_heap ((heap_alloc_old W0 _ (by omega)).trans q4)]; rfl
  · rw [cell_of_heap ((heap_alloc_old W0 _ (by omega)).trans q5)]; rfl
  · rw [cell_of_heap ((heap_alloc_old W0 _ (by omega)).trans q6)]; rfl
  · rw [cell_of_heap ((heap_alloc_old W0 _ (by omega)).trans q7)]; rfl
  · rw [cell_of_heap hn]; rfl
  · rw [cell_of_heap hn]; rfl
  · rw [cell_of_heap hn]; rfl

theorem ite_conds {f g h : Nat} (z0 : f ≠ 0) (z1 : g ≠ h) (z2 : f ≠ 1) : ((f : Int) == 0) = false ∧ ((f : Int) == 1) = false ∧ ((g : Int) == (h : Int)) = false := by
  refine ⟨?_, ?_, ?_⟩ <;> (rw [beq_eq_false_iff_ne]; omega)

set_option maxHeartbeats 400000 in
set_option maxRecDepth 10000 in
theorem graphIte_kept {O : Nat → Prop} {w : World} {gb : Nat} {S : GrS} {f g h d r : Nat} {ov nv fv : Value} {mb rb : Nat} {M R : List (Value × Value)} (hA : GrAt O w gb S ov nv fv mb rb M R) (k : S.g.Ok) (hf : S.g.ok f) (hg : S.g.ok g) (hh : S.g.ok h) (z0 : f ≠ 0) (z1 : g ≠ h) (z2 : f ≠ 1) (hin : (key3 f g h, natv r) ∈ R) :
    Calls Tryz.prog 58 #[.pointer (some ⟨gb, 0, none⟩), .int .i64 f, .int .i64 g, .int .i64 h] w (WentPost O w gb S (iteT (S.g.tab f) (S.g.tab g) (S.g.tab h)) d) := by
  have hkey := trip_key_ok f g h (by have := hA.small hf; unfold refMax; omega) (by have := hA.small hg; unfold refMax; omega) (by have := hA.small hh; unfold refMax; omega)
  have hb0 := iteW_below w gb f g h
  obtain ⟨q4, q5, q6, q7⟩ := iteW_cells w gb f g h
  have hK := iteK_at w gb f g h
  obtain ⟨W1, hW1⟩ : ∃ W1, W1 = iteK w gb f g h := ⟨_, rfl⟩
  rw [← hW1] at hK
  unfold iteK at hW1
  obtain ⟨W0, hW0⟩ : ∃ W0, W0 = iteW w gb f g h := ⟨_, rfl⟩
  rw [← hW0] at hb0 q4 q5 q6 q7 hW1
  have c4 : W0.cell? ⟨w.heap.size, 0, none⟩ = some (.pointer (some ⟨gb, 0, none⟩)) := by rw [cell_of_heap q4]; rfl
  have c5 : W0.cell? ⟨w.heap.size + 1, 0, none⟩ = some (.int .i64 (f : Int)) := by rw [cell_of_heap q5]; rfl
  have c6 : W0.cell? ⟨w.heap.size + 2, 0, none⟩ = some (.int .i64 (g : Int)) := by rw [cell_of_heap q6]; rfl
  have c7 : W0.cell? ⟨w.heap.size + 3, 0, none⟩ = some (.int .i64 (h : Int)) := by rw [cell_of_heap q7]; rfl
  have s0 : W0.heap.size = w.heap.size + 4 := by rw [hW0]; exact iteW_size w gb f g h
  obtain ⟨e0, e1, e2⟩ := ite_conds z0 z1 z2
  unfold iteW at hW0
  obtain ⟨hbk, x4, x5, x6, x7, y0, y1, y2, _⟩ := hK
  have hA1 := hA.below hbk
  obtain ⟨d0, d1, d2, d3, d4⟩ := hA1.c
  obtain ⟨f', g', h', r', ep, of, og, oh, orr, otab⟩ := hA.rok _ hin
  simp only [Prod.mk.injEq] at ep
  obtain ⟨ek, er⟩ := ep
  obtain ⟨rfl, rfl, rfl⟩ := key3_inj ek
  have := natv_inj er
  subst this
  have hp : WentPost O w gb S (iteT (S.g.tab f) (S.g.tab g) (S.g.tab h)) d (.returned (.int .i64 (r : Int))) W1.drew := ite_short ⟨_, _, _, _, _, _, _, hA⟩ k orr otab hbk.drew
  generalize WentPost O w gb S (iteT (S.g.tab f) (S.g.tab g) (S.g.tab h)) d = Post at hp ⊢
  have hrun : (Instr.lookup 154 (.map (some rb)) (key3 f g h) true).run Tryz.prog W1.drew = .ok (.tuple #[.int .i64 (r : Int), .bool true]) W1.drew := by
    rcases (hA1.res.same (w' := W1.drew) rfl).look trip_keyed Tryz.underlying154 (zero_ref _) true hkey with ⟨u, hu, hrun⟩ | ⟨hno, _⟩
    · rw [hrun]
      have : u = natv r := hA1.res.uniq hu hin
      rw [this]; rfl
    · exact absurd hin (hno _)
  unfold key3 at hrun
  clear hA k hf hg hh hin hkey hb0 q4 q5 q6 q7 hA1 d0 d1 d2 d3 of og oh orr otab z0 z1 z2 ek er hbk
  go_enter Tryz.func58, Tryz.ntmps58
  go_upto_region 1 with fail
  rw [← hW0]
  clear hW0
  go_upto_region 6 with fail
  rw [← hW1]
  clear hW1
  go_region
  all_goals
    go_wp2
    exact hp

end Go.Proofs.YtebfmcafmojlaaaGreatDoor

