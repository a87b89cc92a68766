/-
  copselaw.World: asks: Nodes.
-/
import Derived.Laws.CopyOwn
import Derived.Test.YtebfmcafmojlaaaGreatDoorT30
namespace Go.Proofs.YtebfmcafmojlaaaGreatDoor
open Go.RowKit
set_option linter.unusedSimpArgs false
set_option linter.unusedVariables false

theorem sevHs_len (l : List (Nat × Tab)) (F : List Int) (n : Nat) : (sevHs l F n).length = n := by simp [sevHs]
theorem sevTs_len (l : List (Nat × Tab)) (F : List Int) (n : Nat) : (sevTs l F n).length = n := by simp [sevTs]

theorem several_box {I : (Nat → Prop) → World → Nat → CopS → Prop} {cF cT : Nat} (sp : CopseSpec I cF cT) {w : World} {tb x r N : Nat} {C : CopS} {S : RefS} {l : List (Nat × Tab)} {av : Value} {OT OX OR : Nat → Prop} (h : TwSt I w tb x r C S l av OT OX OR) (ok : TwOk cF cT N C S l) (hN : N ≤ 3000000)
    (o : OpS) (fao : Option Addr) (fcap : Nat) (hF : FReads w.heap.size w (.slice fao o.f.length fcap) (o.f.map zv)) (hFl : o.f.length ≤ 2000000) (hz : ∀ z ∈ o.f, i64ok z) (wq : World) (hb : Below w.heap.size w wq) :
    Calls Tryz.prog 119 #[.pointer (some ⟨tb, 0, none⟩), .agg #[.int .i64 o.kind, .int .i64 o.on, .int .i64 o.a, .bool o.v, .slice fao o.f.length fcap, .string o.s]] wq fun e w' => ∃ hv tv, e = .returned (.tuple #[hv, tv, .bool (sevOk l o.f o.f.length)]) ∧ w'.ownsRow wq.heap.size 3 1 hv o.f.length ((sevHs l o.f o.f.length).map zv) ∧ w'.ownsRow wq.heap.size 111 1 tv o.f.length ((sevTs l o.f o.f.length).map tabv) ∧ Below wq.heap.size wq w' := by
  have hl2 := ok.l2
  have hlN := ok.lN
  exact lawSeveral (h.t.below hb) (by omega) (by omega) o _ ((hF.below hb (Nat.le_refl _)).mono hb.size) hFl hz

theorem Tryz.infoInt1 : (Tryz.prog.info? 3).map (·.size) = some 1 := by kernel_rfl

/-- What Nodes answers to the handles of a step, whether they are all live or not. -/
theorem nodes_any {I : (Nat → Prop) → World → Nat → CopS → Prop} {cF cT : Nat} (sp : CopseSpec I cF cT) {N x : Nat} {C : CopS} {S : RefS} {l : List (Nat × Tab)} {OX : Nat → Prop} (ok : TwOk cF cT N C S l) (F : List Int) (hFl : F.length ≤ 2000000) :
    ∃ kz ez : Int, (∀ (wq : World) (fv : Value), I OX wq x C → Reads wq.heap.size wq fv ((sevHs l F F.length).map zv) → Calls Tryz.prog 29 #[.pointer (some ⟨x, 0, none⟩), fv] wq fun e w' => e = .returned (.tuple #[.int .i64 kz, .int .i64 ez]) ∧ CopStep I OX wq x w' C) ∧
      ((sevOk l F F.length = true ∧ kz = ((allT S.order (sevTs l F F.length)).length : Nat) ∧ ez = 0) ∨ (sevOk l F F.length = false ∧ kz = 0 ∧ ez = 4)) := by
  cases hok : sevOk l F F.length
  · refine ⟨0, 4, ?_, .inr ⟨rfl, rfl, rfl⟩⟩
    intro wq fv hc hr
    refine sp.nodes_no hc (sevHs l F F.length) fv _ hr (Nat.le_refl _) (by rw [sevHs_len]; exact hFl) ?_ ?_ ?_
    · intro z hz
      obtain ⟨i, hi, rfl⟩ := List.mem_map.1 hz
      exact sev_ok ok F i (by have := List.mem_range.1 hi; omega)
    · unfold sevOk at hok
      rw [List.all_eq_false] at hok
      obtain ⟨i, hi, hb⟩ := hok
      exact ⟨sevH l F i, List.mem_map.2 ⟨i, hi, rfl⟩, sev_lt F i (by simpa using hb)⟩
    · intro z hz
      obtain ⟨i, hi, rfl⟩ := List.mem_map.1 hz
      exact sev_or ok F i
  · refine ⟨_, 0, ?_, .inl ⟨rfl, rfl, rfl⟩⟩
    intro wq fv hc hr
    have hall : ∀ i, i < F.length → sevB l F i = true := by
      unfold sevOk at hok
      rw [List.all_eq_true] at hok
      exact fun i hi => hok i (List.mem_range.2 hi)
    have h1 : (sevHs l F F.length).map zv = ((List.range F.length).map (fun i => (sevH l F i).toNat)).map intv := by
      unfold sevHs
      rw [List.map_map, List.map_map]
      apply List.map_congr_left
      intro i hi
      obtain ⟨hd, e, _, _⟩ := sev_true ok F i (hall i (List.mem_range.1 hi))
      simp [zv, intv, e]
    have h2 : ((List.range F.length).map (fun i => (sevH l F i).toNat)).map C.T = (sevTs l F F.length).map some := by
      unfold sevTs
      rw [List.map_map, List.map_map]
      apply List.map_congr_left
      intro i hi
      obtain ⟨hd, e, hT, _⟩ := sev_true ok F i (hall i (List.mem_range.1 hi))
      simp [e, hT]
    rw [h1] at hr
    rw [← ok.order]
    exact sp.nodes hc _ _ fv _ hr (Nat.le_refl _) (by simpa using hFl) h2

theorem natc2 (n : Nat) : (n : Int) + 2 = ((n + 2 : Nat) : Int) := by omega
theorem make_b2 {i0 : TypeInfo} {n : Nat} (h : i0.bytes = 8) (hn : n ≤ 2000000) : i0.bytes * (n + 2) ≤ 281474976710656 := by rw [h]; omega
theorem make_b3 {n : Nat} (hn : n ≤ 2000000) : n + 2 ≤ maxLen := le_maxLen (by omega)
theorem own_heap {w : World} {base g n : Nat} {e : TypeId} {xs : List Value} (h : w.ownsRow base e 1 (.slice (some ⟨g, 0, none⟩) n n) n xs) : w.heap[g]? = some (.cells xs.toArray e (0, 0)) := by
  rcases h.2 with ⟨h', _⟩ | ⟨g', cap, cur, h', _, hg, hnc, _, hcs, htake⟩
  · simp at h'
  · simp only [Value.slice.injEq, Option.some.injEq, Addr.mk.injEq, and_true, true_and] at h'
    obtain ⟨rfl, rfl⟩ := h'
    rw [hg]
    congr 2
    apply Array.ext'
    rw [← htake, List.take_of_length_le (by simp [hcs])]
theorem grown_none {w w' : World} (hg : w.grownBy w' none) : Below w.heap.size w w' := (Below.refl _ _).grown hg (Nat.le_refl _) (fun k hk => by cases hk)
theorem copy_len {Hs : List Int} {n : Nat} (h : Hs.length = n) : (Hs.map zv).length = Nat.min n (n + 2) := by rw [List.length_map, h]; exact (Nat.min_eq_left (by omega)).symm
theorem copy_fit {Hs : List Int} {n : Nat} (h : Hs.length = n) : 0 + (Hs.map zv).length ≤ (madeCells (Value.int .i64 0).cells ((n + 2) * 1)).toList.length := by rw [List.length_map, h, Array.length_toList, size_madeCells]; omega
theorem made_len (n : Nat) : (madeCells (Value.int .i64 0).cells ((n + 2) * 1)).toList.length = n + 2 := by rw [Array.length_toList, size_madeCells]; omega
theorem map_len {Hs : List Int} {n : Nat} (h : Hs.length = n) : (Hs.map zv).length = n := by rw [List.length_map, h]
theorem zs_oneCell (Hs : List Int) : ∀ v ∈ Hs.map zv, v.oneCell' = true := by
  intro v hv
  obtain ⟨f, _, rfl⟩ := List.mem_map.1 hv
  rfl
theorem copy_pos {w1 w2 : World} {base : Nat} {hao : Option Addr} {hcap n : Nat} {xs : List Value} {e : TypeId} (hvo : w1.ownsRow base e 1 (.slice hao n hcap) n xs) (hg2 : w1.grownBy w2 none) : 0 < xs.length → (some ⟨w1.heap.size, 0, none⟩ : Option Addr) = some ⟨w1.heap.size, 0, none⟩ ∧ ∃ ad, hao = some ad ∧ ∀ j v, xs[j]? = some v → w2.cell? (ad.add j) = some v := by
  intro h0
  refine ⟨rfl, ?_⟩
  rcases hvo.2 with ⟨h', hn⟩ | ⟨g', cap, cur, h', _, hg, _⟩
  · have := hvo.1; omega
  · simp only [Value.slice.injEq] at h'
    obtain ⟨rfl, _, rfl⟩ := h'
    refine ⟨_, rfl, fun j v hj => ?_⟩
    exact hg2.cell (hvo.cells (g := g') rfl j v hj) (by simp)

theorem own_made {w3 : World} {g n : Nat} {cur cs : List Value} {t : TypeId} (h : Hid (w3.heap[g]? = some (.cells (splice cur 0 cs).toArray t (0, 0)))) (hc : cur.length = n + 2) (hs : cs.length = n) : ∃ y z, w3.heap[g]? = some (.cells (cs ++ [y, z]).toArray t (0, 0)) ∧ w3.cell? ⟨g, n, none⟩ = some y ∧ w3.cell? ⟨g, n + 1, none⟩ = some z := by
  have h := h.out
  have hd : (cur.drop n).length = 2 := by rw [List.length_drop]; omega
  obtain ⟨y, z, e⟩ : ∃ y z, cur.drop n = [y, z] := by
    match hh : cur.drop n, hd with
    | [y, z], _ => exact ⟨y, z, rfl⟩
  have e2 : splice cur 0 cs = cs ++ [y, z] := by
    unfold splice
    rw [List.take_zero, List.nil_append, Nat.zero_add, hs, e]
  rw [e2] at h
  refine ⟨y, z, h, ?_, ?_⟩
  · rw [cell_of_heap h]
    simp [← hs]
  · rw [cell_of_heap h]
    simp [← hs]

theorem own_reads {W4 : World} {g n : Nat} {Hs : List Int} {y z : Value} {t : TypeId} (hH : Hs.length = n) (h : W4.heap[g]? = some (.cells (Hs.map zv ++ [y, z]).toArray t (0, 0))) : Reads W4.drew.heap.size W4.drew (.slice (some ⟨g, 0, none⟩) n (n + 2)) (Hs.map zv) := by
  refine .inr ⟨g, 0, n + 2, by rw [List.length_map, hH], (Array.getElem?_eq_some_iff.1 h).1, ?_⟩
  intro i hi
  have h2 : W4.drew.heap[g]? = some (.cells (Hs.map zv ++ [y, z]).toArray t (0, 0)) := h
  rw [Nat.zero_add, cell_of_heap h2]
  rw [List.getElem?_toArray, List.getElem?_append_left hi, List.getD_eq_getElem?_getD, List.getElem?_eq_getElem hi]
  rfl
theorem own_lt {w : World} {g : Nat} {o : Obj} (h : w.heap[g]? = some o) : g < w.heap.size := (Array.getElem?_eq_some_iff.1 h).1
theorem row_lt {w1 W4 : World} {B : Nat} {base : Nat} {e : TypeId} {v : Value} {n : Nat} {xs : List Value} (h : w1.ownsRow base e 1 v n xs) (hb : Below B w1 W4) {k : Nat} (hk : v.ownBlock = some k) : k < W4.drew.heap.size := Nat.lt_of_lt_of_le (h.lt k hk).2 hb.size
theorem row_not {I : (Nat → Prop) → World → Nat → CopS → Prop} {cF cT : Nat} (sp : CopseSpec I cF cT) {w wn w1 : World} {x : Nat} {C : CopS} {OX : Nat → Prop} (hc : I OX w x C) (hb : Below w.heap.size w wn) {e : TypeId} {v : Value} {n : Nat} {xs : List Value} (h : w1.ownsRow wn.heap.size e 1 v n xs) {k : Nat} (hk : v.ownBlock = some k) : ¬ OX k := by
  intro e2
  have h1 := sp.lt hc k e2
  have h2 := (h.lt k hk).1
  have := hb.size
  omega
theorem own_at77 {w5 : World} {g n : Nat} {Hs : List Int} {y z : Value} {t : TypeId} (hH : Hs.length = n) (h : w5.heap[g]? = some (.cells (Hs.map zv ++ [y, z]).toArray t (0, 0))) : w5.cell? ⟨g, n, none⟩ = some y := by
  rw [cell_of_heap h]; subst hH; simp
theorem own_at78 {w5 : World} {g n : Nat} {Hs : List Int} {y z : Value} {t : TypeId} (hH : Hs.length = n) (h : w5.heap[g]? = some (.cells (Hs.map zv ++ [y, z]).toArray t (0, 0))) : w5.cell? ⟨g, n + 1, none⟩ = some z := by
  rw [cell_of_heap h]; subst hH; simp

theorem own_atk {w5 : World} {g n : Nat} {Hs : List Int} {y z : Value} {t : TypeId} (hH : Hs.length = n) (h : w5.heap[g]? = some (.cells (Hs.map zv ++ [y, z]).toArray t (0, 0))) (k : Nat) (hk : k < n) : w5.cell? ⟨g, k, none⟩ = some (.int .i64 (Hs.getD k 0)) := by
  subst hH
  rw [cell_of_heap h, List.getElem?_toArray, List.getElem?_append_left (by simpa using hk)]
  simp [zv, hk]
theorem row_atk {w5 : World} {base : Nat} {hao : Option Addr} {hcap n : Nat} {Hs : List Int} {e : TypeId} (h : w5.ownsRow base e 1 (.slice hao n hcap) n (Hs.map zv)) (hH : Hs.length = n) (k : Nat) (hk : k < n) : ∃ lb, hao = some ⟨lb, 0, none⟩ ∧ w5.cell? ⟨lb, k, none⟩ = some (.int .i64 (Hs.getD k 0)) := by
  rcases h.2 with ⟨h', hn⟩ | ⟨g', cap, cur, h', _, hg, _⟩
  · omega
  · simp only [Value.slice.injEq] at h'
    obtain ⟨rfl, _, rfl⟩ := h'
    refine ⟨g', rfl, ?_⟩
    subst hH
    rw [h.cellAt k (by omega)]
    simp [zv, hk]
theorem own_row {w5 : World} {g n : Nat} {Hs : List Int} {t : TypeId} {a b : Int} (hH : Hs.length = n) (h : w5.heap[g]? = some (.cells (Hs.map zv ++ [zv a, zv b]).toArray t (0, 0))) (hm : n + 2 ≤ maxLen) : w5.ownsRow 0 t 1 (.slice (some ⟨g, 0, none⟩) (n + 2) (n + 2)) (n + 2) ((Hs ++ [a, b]).map zv) := by
  subst hH
  refine ⟨by simp, .inr ⟨g, Hs.length + 2, _, rfl, Nat.zero_le _, h, Nat.le_refl _, hm, by simp, ?_⟩⟩
  rw [List.take_of_length_le (by simp)]
  simp
theorem own_ge {w w1 : World} (hb : Below w.heap.size w w1) : w.heap.size ≤ w1.heap.size := hb.size
theorem len2 {n : Nat} (h : n ≤ 1100000) : n + 2 ≤ 2000000 := by omega
/-- keepInts, behind Nodes. -/
theorem nodes_keep {I : (Nat → Prop) → World → Nat → CopS → Prop} {cF cT : Nat} {OL K : Nat → Prop} {w w1 w2 : World} {nd : Nat} {wb : Nat} {L : LawS} {av tv mv iv nv : Value} (h : LawAt OL w wb L av tv mv iv nv) (hK : Kept K w L) (hd : ∀ b, OL b → ¬ K b) {tb x r : Nat} {C : CopS} {S : RefS} {l : List (Nat × Tab)} {tav : Value} {OT OX OR : Nat → Prop} (hd2 : ∀ b, Un OT OX OR b → ¬ OL b ∧ ¬ K b) (hn : L.n ≤ 100000000) (htl : L.ints.length ≤ 100000000)
    (sp : CopseSpec I cF cT) (st : TwSt I w tb x r C S l tav OT OX OR) (hb : Below w.heap.size w w1) (ho : Only OX w1 w2) {g n : Nat} {xs : List Value} (hv : w2.ownsRow 0 3 1 (.slice (some ⟨g, 0, none⟩) n n) n xs) (hge : w.heap.size ≤ g) (hnl : n ≤ 2000000) :
    Calls Tryz.prog 120 #[.pointer (some ⟨wb, 0, none⟩), .slice (some ⟨g, 0, none⟩) n n] (w2.drewN nd) fun e w' => e = .returned (.tuple #[]) ∧ KeepLPost OL K (w2.drewN nd) wb L (.slice (some ⟨g, 0, none⟩) n n) w' 0 4 := by
  have hs1 := hb.size
  have hk : ∀ k, OL k ∨ K k → (w2.drewN nd).heap[k]? = w.heap[k]? := by
    intro k hk
    have hlt : k < w.heap.size := hk.elim (h.lt k) (hK.lt k)
    show w2.heap[k]? = _
    rw [ho.block k (by omega) (fun e => hk.elim (hd2 k (.inr (.inl e))).1 (hd2 k (.inr (.inl e))).2), hb.block k hlt]
  have hs : w.heap.size ≤ (w2.drewN nd).heap.size := Nat.le_trans hs1 ho.size
  refine lawKeepInts (h.keep hs (fun k e => hk k (.inl e))) (hK.keep hs (fun k e => hk k (.inr e))) hd hn htl (xs := xs) (owns_same hv (fun _ _ => rfl)) ?_ hnl
  intro k e
  simp [Value.ownBlock] at e
  subst e
  exact ⟨fun e2 => by have := h.lt _ e2; omega, fun e2 => by have := hK.lt _ e2; omega⟩
theorem own_new {w w1 W4 w5 : World} {OX OX2 : Nat → Prop} {o : Obj} {n m : Nat} (hbw1 : Below w.heap.size w w1) (hG5 : w5.heap[w1.heap.size]? = some o) (hg5 : Grows W4.drew OX OX2) (hng : ¬ OX w1.heap.size) {y : Obj} (hG4 : W4.heap[w1.heap.size]? = some y) : ∀ k, (Value.slice (some ⟨w1.heap.size, 0, none⟩) n m).ownBlock = some k → w.heap.size ≤ k ∧ k < w5.heap.size ∧ ¬ OX2 k := by
  intro k hk
  simp [Value.ownBlock] at hk
  subst hk
  refine ⟨hbw1.size, own_lt hG5, fun e => ?_⟩
  rcases hg5 _ e with e | e
  · exact hng e
  · have := own_lt hG4
    have h2 : W4.drew.heap.size = W4.heap.size := rfl
    omega

theorem row_law {OL : Nat → Prop} {w wn w1 : World} {wb : Nat} {L : LawS} {av tv mv iv nv : Value} (h : LawAt OL w wb L av tv mv iv nv) (hb : Below w.heap.size w wn) {e : TypeId} {v : Value} {n : Nat} {xs : List Value} (ho : w1.ownsRow wn.heap.size e 1 v n xs) {k : Nat} (hk : v.ownBlock = some k) : ¬ OL k := by
  intro e2
  have h1 := h.lt k e2
  have h2 := (ho.lt k hk).1
  have := hb.size
  omega
theorem tabs_kept {w1 W4 w5 w6 : World} {OX OL K : Nat → Prop} {base nd wb n m : Nat} {L : LawS} {e : TypeId} {v : Value} {c : Nat} {xs : List Value} (h : w1.ownsRow base e 1 v c xs) (hb : Below w1.heap.size w1 W4) (ho : Only OX W4.drew w5) (hx : ∀ {k}, v.ownBlock = some k → ¬ OX k) (hL : ∀ {k}, v.ownBlock = some k → ¬ OL k) {nt ni : Nat} (hk : KeepLPost OL K (w5.drewN nd) wb L (.slice (some ⟨w1.heap.size, 0, none⟩) n m) w6 nt ni) : w6.ownsRow base e 1 v c xs := by
  obtain ⟨OL', K', L', hl', _, _, _, _, hoL, _, _⟩ := hk
  refine owns_same h (fun k hk => ?_)
  have hlt := (h.lt k hk).2
  have h4 : W4.drew.heap[k]? = w1.heap[k]? := hb.block k hlt
  have hs4 : w1.heap.size ≤ W4.drew.heap.size := hb.size
  have h5 : (w5.drewN nd).heap[k]? = W4.drew.heap[k]? := ho.block k (by omega) (hx hk)
  have hs5 : W4.drew.heap.size ≤ (w5.drewN nd).heap.size := ho.size
  have h6 := hoL.block k (by omega) (fun e => e.elim (hL hk) (fun e => by simp [Value.ownBlock] at e; omega))
  exact h6.trans (h5.trans h4)

theorem own_stored {w3 : World} {g n : Nat} {cs : List Value} {t : TypeId} {y z : Value} (h : w3.heap[g]? = some (.cells (cs ++ [y, z]).toArray t (0, 0))) (hs : cs.length = n) (a b : Value) : ((w3.setCell ⟨g, n, none⟩ a).setCell ⟨g, n + 1, none⟩ b).heap[g]? = some (.cells (cs ++ [a, b]).toArray t (0, 0)) := by
  rw [heap_setCell_at (heap_setCell_at h)]
  congr 2
  subst hs
  apply Array.ext'
  simp

set_option maxHeartbeats 4000000 in
set_option maxRecDepth 20000 in
theorem asks_nodes {I : (Nat → Prop) → World → Nat → CopS → Prop} {cF cT : Nat} (sp : CopseSpec I cF cT) {w : World} {tb x r N : Nat} {C : CopS} {S : RefS} {l : List (Nat × Tab)} {av : Value} {OT OX OR : Nat → Prop} (st : TwSt I w tb x r C S l av OT OX OR) (ok : TwOk cF cT N C S l) (hN : N ≤ 3000000)
    (o : OpS) (fv : Value) (hF : FReads w.heap.size w fv (o.f.map zv)) (hFl : o.f.length ≤ 2000000) (hz : ∀ z ∈ o.f, i64ok z) (hs : o.s.size ≤ maxLen) (hk : o.kind = 8) {wb : Nat} {L : LawS} {OL K : Nat → Prop} (hl : LawIs OL K w wb L) (hd2 : ∀ b, Un OT OX OR b → ¬ OL b ∧ ¬ K b) (hLn : L.n ≤ 100000000) (hLt : L.ints.length ≤ 100000000) (hF1 : o.f.length ≤ 1100000) :
    Calls Tryz.prog 65 #[.pointer (some ⟨wb, 0, none⟩), .pointer (some ⟨tb, 0, none⟩), opv o fv] w fun e w' => e = .returned (.bool true) ∧ AskPostX I cF cT w tb (N + 1) (Un OT OX OR) wb L OL K S (l.map Prod.snd) w' := by
  obtain ⟨fao, fcap, rfl⟩ := reads_form hF
  have hat := fun z hz2 wq hb => at_box2 sp st ok hN o fao fcap hF hFl hz z hz2 wq hb
  obtain ⟨kd, on, oa, ov, F, os⟩ := o
  dsimp only at hk hat hFl hs hF hz hF1
  subst hk
  have htl := st.t.lt tb st.t.self
  have hX : w.cell? ⟨tb, 0, none⟩ = some (.pointer (some ⟨x, 0, none⟩)) := by rw [cell_of_heap st.t.cells]; rfl
  have hRp : w.cell? ⟨tb, 1, none⟩ = some (.pointer (some ⟨r, 0, none⟩)) := by rw [cell_of_heap st.t.cells]; rfl
  have hbw := (Below.refl w.heap.size w).alloc (Nat.le_refl _) (.cells #[.int .i64 8, .int .i64 on, .int .i64 oa, .bool ov, .slice fao F.length fcap, .string os] 66)
  have hbl := Below.refl (w.heap.size + 1) (w.alloc (.cells #[.int .i64 8, .int .i64 on, .int .i64 oa, .bool ov, .slice fao F.length fcap, .string os] 66))
  have hsz : w.heap.size + 1 ≤ (w.alloc (.cells #[.int .i64 8, .int .i64 on, .int .i64 oa, .bool ov, .slice fao F.length fcap, .string os] 66)).heap.size := by simp
  have hsev := fun wq hb => several_box sp st ok hN ⟨8, on, oa, ov, F, os⟩ fao fcap hF hFl hz wq hb
  dsimp only at hsev
  obtain ⟨kz, ez, hnodes, hkz⟩ := nodes_any sp (OX := OX) (x := x) ok F hFl
  have hTl : (sevTs l F F.length).length ≤ 5000000 := by rw [sevTs_len]; omega
  generalize hHs : sevHs l F F.length = Hs at hsev hnodes
  generalize hTs : sevTs l F F.length = Ts at hsev hkz hTl
  generalize hOk : sevOk l F F.length = okb at hsev hkz
  have hHl : Hs.length = F.length := by rw [← hHs]; exact sevHs_len _ _ _
  obtain ⟨⟨lav, ltv, lmv, liv, lnv, hLa⟩, hKa, hdK⟩ := id hl
  obtain ⟨i0, hi, hz0, hz1, hz2⟩ := info_parts Tryz.infoInt
  clear hF hz
  unfold opv
  dsimp only
  go_enter Tryz.func65, Tryz.ntmps65
  go_wp2_with (first
    | (go_at_call 110; refine (hat _ ?_ _ hbw).mono ?_; decide; rintro e wn ⟨rfl, hn⟩; replace hbw := hbw.trans (hn.mono hbw.size); replace hbl := hbl.trans (hn.mono hsz); replace hsz := Nat.le_trans hsz hn.size; clear hn; obtain ⟨b0, b1, b2, b3, b4, b5⟩ := box_cells hbl; have hXn := (hbw.cell (p := ⟨tb, 0, none⟩) htl).trans hX; have hRn := (hbw.cell (p := ⟨tb, 1, none⟩) htl).trans hRp)
    | (go_at_call 119; refine (hsev _ hbw).mono ?_; rintro e w1 ⟨hv, tv, rfl, hvo, hto, hb1⟩; obtain ⟨hao, hcap, rfl⟩ := owns_form hvo; replace hbw1 := hbw.trans (hb1.mono hbw.size))
    | (at_make; refine wpList_make_full _ rfl _ _ 25 rfl w1.heap.size 3 i0 (.int .i64 0) 1 Tryz.underlying25 hi hz0 hz1 _ _ _ _ (F.length + 2) rfl rfl ?_ ?_ ?_ ?_ ?_ ?_; exact natc2 F.length; exact natc2 F.length; exact make_b2 hz2 hFl; exact make_b3 hFl; exact Nat.le_refl _; intro w2 hmk hg2)
    | (refine wpList_copy_splice rfl (.tmp 129) (.tmp 130) 25 25 rfl 3 Tryz.underlying25 Tryz.infoInt1 _ _ _ _ _ _ rfl rfl w1.heap.size 0 (madeCells (Value.int .i64 0).cells ((F.length + 2) * 1)).toList 3 (own_heap hmk) (Hs.map zv) ?_ ?_ ?_ (zs_oneCell _) w1.heap.size w1 (grown_none hg2) (Nat.le_refl _) ?_; exact copy_len hHl; exact copy_pos hvo hg2; exact copy_fit hHl; intro w3 hh3 hb3; obtain ⟨y3, z3, hG, c3, c4⟩ := own_made hh3 (made_len F.length) (map_len hHl); have fz3 := frozen_of_heap (o := F.length) hG; have fz4 := frozen_of_heap (o := F.length + 1) hG; clear hh3))
  obtain ⟨W4, hW4⟩ : ∃ W4, W4 = (w3.setCell ⟨w1.heap.size, F.length, none⟩ (.int .i64 77)).setCell ⟨w1.heap.size, F.length + 1, none⟩ (.int .i64 78) := ⟨_, rfl⟩
  rw [← hW4]
  have hG4 : W4.heap[w1.heap.size]? = some (.cells (Hs.map zv ++ [zv 77, zv 78]).toArray 3 (0, 0)) := by rw [hW4]; exact own_stored hG (map_len hHl) _ _
  have hb4 : Below w1.heap.size w1 W4 := by rw [hW4]; exact (hb3.setCell (Nat.le_refl _) _).setCell (Nat.le_refl _) _
  clear hW4 hG c3 c4 fz3 fz4 hmk hg2 hb3
  have hbw4 : Below w.heap.size w W4 := hbw1.trans (hb4.mono hbw1.size)
  have hX4 := (hbw4.cell (p := ⟨tb, 0, none⟩) htl).trans hX
  have hRd : Reads W4.drew.heap.size W4.drew (.slice (some ⟨w1.heap.size, 0, none⟩) F.length (F.length + 2)) (Hs.map zv) := own_reads hHl hG4
  have hng : ¬ OX w1.heap.size := fun e => by have := sp.lt st.c _ e; have := hbw1.size; omega
  go_region_held (fun w' => w'.cell? ⟨tb, 0, none⟩ = some (.pointer (some ⟨x, 0, none⟩))) (go_keep) (first | (go_at_call 29; refine (hnodes _ _ (st.below sp hbw4.drew).c hRd).mono ?_; rintro e w5 ⟨rfl, hsc⟩; obtain ⟨OX2, st5, ho5, hg5⟩ := (st.below sp hbw4.drew).stepC sp hsc; have hx5 : w5.cell? ⟨tb, 0, none⟩ = some (.pointer (some ⟨x, 0, none⟩)) := (by rw [cell_of_heap st5.t.cells]; rfl)))
  have hG5 : w5.heap[w1.heap.size]? = some (.cells (Hs.map zv ++ [zv 77, zv 78]).toArray 3 (0, 0)) := (ho5.block w1.heap.size (own_lt hG4) hng).trans hG4
  have hvo5 := owns_same (owns_below hvo hb4 (Nat.le_refl _)) (w' := w5) (fun k e => ho5.block k (row_lt hvo hb4 e) (row_not sp st.c hbw hvo e))
  have c5 : w5.cell? ⟨w1.heap.size, F.length, none⟩ = some (.int .i64 77) := own_at77 hHl hG5
  have c6 : w5.cell? ⟨w1.heap.size, F.length + 1, none⟩ = some (.int .i64 78) := own_at78 hHl hG5
  go_wp2
  go_loopw [25, 26] (fun wh i wr => ∃ k : Nat, k ≤ F.length ∧ i = .int .i64 k ∧ wh = .bool true ∧ ∃ nd, wr = w5.drewN nd) (fun _ i _ => F.length - (intOf i).toNat)
  case atStart => exact ⟨0, Nat.zero_le _, rfl, rfl, 0, rfl⟩
  case round =>
    obtain ⟨k, hkF, rfl, rfl, nd, rfl⟩ := hrel
    by_cases hkl : k < F.length
    · have hown := own_atk hHl hG5 k hkl
      obtain ⟨lb, hao2, hlk⟩ := row_atk hvo5 hHl k hkl
      subst hao2
      obtain ⟨zk, hzk⟩ : ∃ zk, zk = Hs.getD k 0 := ⟨_, rfl⟩
      rw [← hzk] at hown hlk
      clear hzk hat hsev hnodes
      go_wp2
      go_quiet (fail)
      go_wp2
      go_roundw
      case rel => exact ⟨k + 1, by omega, by go_num, rfl, _, rfl⟩
      case measure => simp [intOf]; omega
    · have hbD := below_drewN (Below.refl w5.heap.size w5) nd
      have hkeep := nodes_keep (nd := nd) hLa hKa hdK hd2 hLn hLt sp st hbw4.drew ho5 (own_row hHl hG5 (make_b3 hFl)) (own_ge hbw1) (len2 hF1)
      clear hat hsev hnodes c5 c6
      rcases hkz with ⟨rfl, rfl, rfl⟩ | ⟨rfl, rfl, rfl⟩
      · go_wp2_with (first
          | (go_at_call 120; refine hkeep.mono ?_; rintro e w6 ⟨rfl, hkp⟩; obtain ⟨hask, st6⟩ := sup_post sp st ok hl hd2 hbw4.drew ho5 st5.c hg5 (own_new hbw1 hG5 hg5 hng hG4) hbD (by decide) (by decide) hkp; have hr6 : w6.cell? ⟨tb, 1, none⟩ = some (.pointer (some ⟨r, 0, none⟩)) := (by rw [cell_of_heap st6.t.cells]; rfl); have hto6 := tabs_kept hto hb4 ho5 (row_not sp st.c hbw hto) (row_law hLa hbw hto) (nd := nd) hkp; obtain ⟨rnv, rov, rlv, hRA⟩ := id st6.s; have hc26 : w6.cell? ⟨r, 2, none⟩ = some rov := (by rw [cell_of_heap hRA.cells]; rfl))
          | (go_at_call 108; refine (refAll_any S.order ok.o6 ok.ol _ _ Ts _ hRA.order.reads (reads_of_owns hto6) hTl).mono ?_; rintro e w7 ⟨v7, rfl, hv7, hb7⟩; obtain ⟨ao7, cap7, rfl⟩ := owns_form hv7))
        go_ret
        exact ⟨rfl, hask.below sp hb7⟩
      · go_wp2_with (first
          | (go_at_call 120; refine hkeep.mono ?_; rintro e w6 ⟨rfl, hkp⟩; obtain ⟨hask, st6⟩ := sup_post sp st ok hl hd2 hbw4.drew ho5 st5.c hg5 (own_new hbw1 hG5 hg5 hng hG4) hbD (by decide) (by decide) hkp; have hr6 : w6.cell? ⟨tb, 1, none⟩ = some (.pointer (some ⟨r, 0, none⟩)) := (by rw [cell_of_heap st6.t.cells]; rfl))
          | (go_at_call 103; refine (lawNum _ _).mono ?_; rintro e w9 ⟨rfl, hq⟩; replace hq := hq.symm; subst hq))
        go_ret
        exact ⟨rfl, hask⟩

end Go.Proofs.YtebfmcafmojlaaaGreatDoor

/-
  copselaw.World: orders: Const.
-/
namespace Go.Proofs.YtebfmcafmojlaaaGreatDoor
open Go.RowKit
set_option linter.unusedSimpArgs false
set_option linter.unusedVariables false

theorem tw_still {I : (Nat → Prop) → World → Nat → CopS → Prop} {cF cT : Nat} (sp : CopseSpec I cF cT) {w w1 : World} {tb x r N : Nat} {C : CopS} {S : RefS} {l : List (Nat × Tab)} {av : Value} {OT OX OR : Nat → Prop} (h : TwSt I w tb x r C S l av OT OX OR) (ok : TwOk cF cT N C S l) (hb : Below w.heap.size w w1) : TwPost I cF cT w tb (N + 1) (Un OT OX OR) w1 :=
  ⟨only_of_below hb _, Un OT OX OR, TwIs.mono ⟨x, r, C, S, l, av, OT, OX, OR, h.below sp hb, ok, fun b => Iff.rfl⟩ (Nat.le_succ N), Grows.refl _ _⟩

set_option maxHeartbeats 4000000 in
set_option maxRecDepth 20000 in
theorem orders_const {I : (Nat → Prop) → World → Nat → CopS → Prop} {cF cT : Nat} (sp : CopseSpec I cF cT) {w : World} {tb x r N : Nat} {C : CopS} {S : RefS} {l : List (Nat × Tab)} {av : Value} {OT OX OR : Nat → Prop} (st : TwSt I w tb x r C S l av OT OX OR) (ok : TwOk cF cT N C S l) (hN : N ≤ 3000000)
    (o : OpS) (fv : Value) (hF : FReads w.heap.size w fv (o.f.map zv)) (hFl : o.f.length ≤ 2000000) (hz : ∀ z ∈ o.f, i64ok z) (hs : o.s.size ≤ maxLen) (hk : o.kind = 9) (wb : Nat) :
    Calls Tryz.prog 66 #[.pointer (some ⟨wb, 0, none⟩), .pointer (some ⟨tb, 0, none⟩), opv o fv] w fun e w' => e = .returned (.bool true) ∧ TwPost I cF cT w tb (N + 1) (Un OT OX OR) w' := by
  obtain ⟨fao, fcap, rfl⟩ := reads_form hF
  have hat := fun z hz2 wq hb => at_box2 sp st ok hN o fao fcap hF hFl hz z hz2 wq hb
  obtain ⟨kd, on, oa, ov, F, os⟩ := o
  dsimp only at hk hat hFl hs 
  subst hk
  have htl := st.t.lt tb st.t.self
  have hX : w.cell? ⟨tb, 0, none⟩ = some (.pointer (some ⟨x, 0, none⟩)) := by rw [cell_of_heap st.t.cells]; rfl
  have hRp : w.cell? ⟨tb, 1, none⟩ = some (.pointer (some ⟨r, 0, none⟩)) := by rw [cell_of_heap st.t.cells]; rfl
  have hbw := (Below.refl w.heap.size w).alloc (Nat.le_refl _) (.cells #[.int .i64 9, .int .i64 on, .int .i64 oa, .bool ov, .slice fao F.length fcap, .string os] 66)
  have hbl := Below.refl (w.heap.size + 1) (w.alloc (.cells #[.int .i64 9, .int .i64 on, .int .i64 oa, .bool ov, .slice fao F.length fcap, .string os] 66))
  have hsz : w.heap.size + 1 ≤ (w.alloc (.cells #[.int .i64 9, .int .i64 on, .int .i64 oa, .bool ov, .slice fao F.length fcap, .string os] 66)).heap.size := by simp
  obtain ⟨g, cap, rfl, hOg, hcx⟩ := st.t.read (by have := ok.l2; omega)
  have hgl := st.t.lt g hOg
  have hav : w.cell? ⟨tb, 2, none⟩ = some (.slice (some ⟨g, 0, none⟩) l.length cap) := by rw [cell_of_heap st.t.cells]; rfl
  have q0 := (hcx 0 (by have := ok.l2; omega)).1
  have q1 := (hcx 1 (by have := ok.l2; omega)).1
  rw [ok.l0] at q0
  rw [ok.l1] at q1
  have hll := ok.l2
  have hconst := fun wq (hc : I OX wq x C) => sp.const hc ov
  generalize hzE : (if ov = true then cT else cF) = zc at hconst
  have HZ : Hid _ := hzE
  clear hzE
  simp only [Nat.zero_mul, Nat.one_mul, intv] at q0 q1
  clear hcx hat
  clear hF hz
  unfold opv
  dsimp only
  go_enter Tryz.func66, Tryz.ntmps66
  go_wp2_with fail
  go_region_held (fun w' => w'.cell? ⟨tb, 0, none⟩ = some (.pointer (some ⟨x, 0, none⟩)) ∧ w'.cell? ⟨w.heap.size, 3, none⟩ = some (.bool ov)) (go_keep) (first | (go_at_call 23; refine (hconst _ (st.below sp hbw.drew).c).mono ?_; rintro e w2 ⟨rfl, hb2⟩; have hbw2 := hbw.drew.trans (hb2.mono hbw.size); have hx2 := (hbw2.cell (p := ⟨tb, 0, none⟩) htl).trans hX; obtain ⟨d0, d1, d2, d3, d4, d5⟩ := box_cells (hbl.drew.trans (hb2.mono hsz)); have hav2 := (hbw2.cell (p := ⟨tb, 2, none⟩) htl).trans hav; have r0 := (hbw2.cell (p := ⟨g, 0, none⟩) hgl).trans q0; have r1 := (hbw2.cell (p := ⟨g, 2, none⟩) hgl).trans q1))
  cases ov
  · have e := HZ.out
    rw [if_neg (by decide)] at e
    subst e
    go_wp2_with fail
    go_ret
    exact ⟨rfl, tw_still sp st ok hbw2⟩
  · have e := HZ.out
    rw [if_pos rfl] at e
    subst e
    go_wp2_with fail
    go_ret
    exact ⟨rfl, tw_still sp st ok hbw2⟩

end Go.Proofs.YtebfmcafmojlaaaGreatDoor

/-
  copselaw: works, asks, orders: every case together.
-/
namespace Go.Proofs.YtebfmcafmojlaaaGreatDoor
open Go.RowKit
set_option linter.unusedSimpArgs false
set_option linter.unusedVariables false

/-- A step that can be read: its list, its text, its numbers. -/
structure OpOk (w : World) (o : OpS) (fv : Value) : Prop where
  f : FReads w.heap.size w fv (o.f.map zv)
  fl : o.f.length ≤ 1100000
  z : ∀ z ∈ o.f, i64ok z
  s : o.s.size ≤ maxLen
  a : i64ok o.a
  on : i64ok o.on
  k : i64ok o.kind

theorem un_eq {O OT OX OR : Nat → Prop} (h : ∀ b, O b ↔ (OT b ∨ OX b ∨ OR b)) : O = Un OT OX OR := funext fun b => propext (h b)

theorem lawWorks {I : (Nat → Prop) → World → Nat → CopS → Prop} {cF cT : Nat} (sp : CopseSpec I cF cT) {O : Nat → Prop} {w : World} {tb N : Nat} (h : TwIs I cF cT O w tb N) (hN : N ≤ 3000000) {o : OpS} {fv : Value} (ho : OpOk w o fv) (hk : o.kind = 3 ∨ o.kind = 4 ∨ o.kind = 5) :
    Calls Tryz.prog 64 #[.pointer (some ⟨tb, 0, none⟩), opv o fv] w fun e w' => e = .returned (.bool true) ∧ TwPost I cF cT w tb (N + 1) O w' := by
  obtain ⟨x, r, C, S, l, av, OT, OX, OR, st, ok, hO⟩ := h
  rw [un_eq hO]
  have hfl : o.f.length ≤ 2000000 := Nat.le_trans ho.fl (by decide)
  rcases hk with hk | hk | hk
  · cases hp : sevB l o.f 0
    · exact works_not_bad sp st ok hN o fv ho.f hfl ho.z hk hp
    · by_cases hf : fullC C S.live (~~~ (sevT l o.f 0))
      · exact works_not_full sp st ok hN o fv ho.f hfl ho.z ho.s hk hp hf
      · exact (works_not_room sp st ok hN o fv ho.f hfl ho.z ho.s hk hp hf).mono (fun e w' h => ⟨h.1, h.2.post⟩)
  · cases hp : sevB l o.f 0
    · exact works_ite_bad0 sp st ok hN o fv ho.f hfl ho.z ho.s hk hp
    · cases hp1 : sevB l o.f 1
      · exact works_ite_bad1 sp st ok hN o fv ho.f hfl ho.z ho.s hk hp hp1
      · cases hp2 : sevB l o.f 2
        · exact works_ite_bad2 sp st ok hN o fv ho.f hfl ho.z ho.s hk hp hp1 hp2
        · by_cases hf : fullC C S.live (iteT (sevT l o.f 0) (sevT l o.f 1) (sevT l o.f 2))
          · exact works_ite_full sp st ok hN o fv ho.f hfl ho.z ho.s hk ⟨hp, hp1, hp2⟩ hf
          · exact (works_ite_room sp st ok hN o fv ho.f hfl ho.z ho.s hk ⟨hp, hp1, hp2⟩ hf).mono (fun e w' h => ⟨h.1, h.2.post⟩)
  · cases hp : sevB l o.f 0
    · exact works_res_bad sp st ok hN o fv ho.f hfl ho.z ho.s hk hp
    · cases hv : S.names.findIdx? (fun y => y.toList == o.s.toList) with
      | none => exact works_res_name sp st ok hN o fv ho.f hfl ho.z ho.s hk hp hv
      | some v =>
        by_cases hf : fullC C S.live (given (sevT l o.f 0) v o.v)
        · exact works_res_full sp st ok hN o fv ho.f hfl ho.z ho.s hk hp v hv hf
        · exact works_res_room sp st ok hN o fv ho.f hfl ho.z ho.s hk hp v hv hf

theorem lawAsks {I : (Nat → Prop) → World → Nat → CopS → Prop} {cF cT : Nat} (sp : CopseSpec I cF cT) {O : Nat → Prop} {w : World} {tb N : Nat} (h : TwIs I cF cT O w tb N) (hN : N ≤ 3000000) {o : OpS} {fv : Value} (ho : OpOk w o fv) (hk : o.kind = 6 ∨ o.kind = 7 ∨ o.kind = 8)
    {wb : Nat} {L : LawS} {OL K : Nat → Prop} (hl : LawIs OL K w wb L) (hd : ∀ b, O b → ¬ OL b ∧ ¬ K b) (hLn : L.n ≤ 100000000) (hLt : L.texts.length ≤ 100000000) (hLi : L.ints.length ≤ 100000000) :
    Calls Tryz.prog 65 #[.pointer (some ⟨wb, 0, none⟩), .pointer (some ⟨tb, 0, none⟩), opv o fv] w fun e w' => e = .returned (.bool true) ∧ AskPost I cF cT w tb (N + 1) O wb L OL K w' := by
  obtain ⟨x, r, C, S, l, av, OT, OX, OR, st, ok, hO⟩ := h
  have hU := un_eq hO
  subst hU
  have hfl : o.f.length ≤ 2000000 := Nat.le_trans ho.fl (by decide)
  have hof : ∀ e w', (e = Ending.returned (.bool true) ∧ TwPost I cF cT w tb (N + 1) (Un OT OX OR) w') → (e = Ending.returned (.bool true) ∧ AskPost I cF cT w tb (N + 1) (Un OT OX OR) wb L OL K w') := fun e w' h => ⟨h.1, ask_of_tw h.2 hl hd⟩
  rcases hk with hk | hk | hk
  · cases hp : sevB l o.f 0
    · exact (asks_eval_bad sp st ok hN o fv ho.f hfl ho.z ho.s hk wb ho.a hp).mono hof
    · exact (asks_eval sp st ok hN o fv ho.f hfl ho.z ho.s hk wb ho.a hp).mono hof
  · cases hp : sevB l o.f 0
    · exact (asks_sup_bad sp st ok hN o fv ho.f hfl ho.z ho.s hk wb hp).mono hof
    · exact asks_sup sp st ok hN o fv ho.f hfl ho.z ho.s hk hp hl hd hLn hLt
  · exact (asks_nodes sp st ok hN o fv ho.f hfl ho.z ho.s hk hl hd hLn hLi ho.fl).mono (fun e w' h => ⟨h.1, h.2.post⟩)

theorem lawConst {I : (Nat → Prop) → World → Nat → CopS → Prop} {cF cT : Nat} (sp : CopseSpec I cF cT) {O : Nat → Prop} {w : World} {tb N : Nat} (h : TwIs I cF cT O w tb N) (hN : N ≤ 3000000) {o : OpS} {fv : Value} (ho : OpOk w o fv) (hk : o.kind = 9) (wb : Nat) :
    Calls Tryz.prog 66 #[.pointer (some ⟨wb, 0, none⟩), .pointer (some ⟨tb, 0, none⟩), opv o fv] w fun e w' => e = .returned (.bool true) ∧ TwPost I cF cT w tb (N + 1) O w' := by
  obtain ⟨x, r, C, S, l, av, OT, OX, OR, st, ok, hO⟩ := h
  rw [un_eq hO]
  exact orders_const sp st ok hN o fv ho.f (Nat.le_trans ho.fl (by decide)) ho.z ho.s hk wb

end Go.Proofs.YtebfmcafmojlaaaGreatDoor

/-
  copselaw.World: begin.
-/
namespace Go.Proofs.YtebfmcafmojlaaaGreatDoor
open Go.RowKit
set_option linter.unusedSimpArgs false
set_option linter.unusedVariables false

theorem refNew_is (cap : Int) (w : World) (h1 : 1 ≤ cap) (h2 : cap ≤ 300) :
    Calls Tryz.prog 102 #[.int .i64 cap] w fun e w' => ∃ r O, e = .returned (.tuple #[.pointer (some ⟨r, 0, none⟩), .int .i64 0]) ∧ RefIs O w' r ⟨cap, [], [], []⟩ ∧ (∀ b, O b → w.heap.size ≤ b) ∧ Below w.heap.size w w' := by
  refine (refNew_yes cap w h1 h2).mono ?_
  rintro e w' ⟨rfl, rfl⟩
  exact ⟨_, _, rfl, refIs_new cap w, fun b hb => by rw [hb]; exact Nat.le_refl _, (Below.refl _ _).alloc (Nat.le_refl _) _⟩

theorem twOk_new {I : (Nat → Prop) → World → Nat → CopS → Prop} {cF cT : Nat} (sp : CopseSpec I cF cT) (cap : Int) : TwOk cF cT 0 ⟨cap, [], [], T0 cF cT⟩ ⟨cap, [], [], []⟩ [(cF, 0), (cT, onesT)] := by
  have hne := sp.ne
  refine ⟨rfl, rfl, rfl, by simp, by simp, rfl, by simp, by simp, by simp, by simp, rfl, rfl, ?_, ?_, ?_⟩
  · intro h f
    show T0 cF cT h = some f ↔ _
    unfold T0
    by_cases e : h = cF
    · subst e
      simp only [if_true, Option.some.injEq, List.mem_cons, Prod.mk.injEq, true_and, List.not_mem_nil, or_false]
      constructor
      · intro e; exact .inl e.symm
      · rintro (e | ⟨e, _⟩)
        · exact e.symm
        · exact absurd e hne
    · by_cases e2 : h = cT
      · subst e2
        simp only [if_neg e, if_true, Option.some.injEq, List.mem_cons, Prod.mk.injEq, true_and, List.not_mem_nil, or_false]
        constructor
        · intro e; exact .inr e.symm
        · rintro (⟨e, _⟩ | e)
          · exact absurd e (fun e => hne e.symm)
          · exact e.symm
      · simp [e, e2]
  · intro p hp
    simp at hp
    rcases hp with rfl | rfl
    · exact sp.cFm
    · exact sp.cTm
  · intro f
    show (∃ h, T0 cF cT h = some f) ↔ (f ∈ [] ∨ f = 0 ∨ f = onesT)
    unfold T0
    constructor
    · rintro ⟨h, e⟩
      split at e
      · simp at e; exact .inr (.inl e.symm)
      · split at e
        · simp at e; exact .inr (.inr e.symm)
        · cases e
    · rintro (e | e | e)
      · cases e
      · exact ⟨cF, by rw [if_pos rfl, e]⟩
      · exact ⟨cT, by rw [if_neg (fun e => hne e.symm), if_pos rfl, e]⟩

/-- Behind 'begin': a twin more, or none. -/
def BeginPost (I : (Nat → Prop) → World → Nat → CopS → Prop) (cF cT : Nat) (w : World) (wb : Nat) (L : LawS) (OL K : Nat → Prop) (cap : Int) (w' : World) : Prop :=
  (¬ (1 ≤ cap ∧ cap ≤ 300) ∧ Below w.heap.size w w') ∨ ∃ tb OL' O', LawIs OL' K w' wb { L with tbs := L.tbs ++ [tb] } ∧ TwIsX I cF cT O' w' tb 0 ⟨cap, [], [], []⟩ [0, onesT] ∧ Only OL w w' ∧ Grows w OL OL' ∧ (∀ b, O' b → w.heap.size ≤ b) ∧ (∀ b, O' b → ¬ OL' b ∧ ¬ K b)

set_option maxHeartbeats 4000000 in
set_option maxRecDepth 20000 in
theorem begin_no {I : (Nat → Prop) → World → Nat → CopS → Prop} {cF cT : Nat} (sp : CopseSpec I cF cT) {w : World} {wb : Nat} (o : OpS) (fv : Value) (L : LawS) (OL K : Nat → Prop) (ho : OpOk w o fv) (hc : o.a < 1 ∨ 300 < o.a) :
    Calls Tryz.prog 60 #[.pointer (some ⟨wb, 0, none⟩), opv o fv] w fun e w' => e = .returned (.bool true) ∧ BeginPost I cF cT w wb L OL K o.a w' := by
  obtain ⟨fao, fcap, rfl⟩ := reads_form ho.f
  obtain ⟨kd, on, oa, ov, F, os⟩ := o
  dsimp only at hc
  have hnew := fun wq => sp.new_no oa wq hc
  have href := fun wq => refNew_no oa wq hc
  have hbw := (Below.refl w.heap.size w).alloc (Nat.le_refl _) (.cells #[.int .i64 kd, .int .i64 on, .int .i64 oa, .bool ov, .slice fao F.length fcap, .string os] 66)
  have hbl := Below.refl (w.heap.size + 1) (w.alloc (.cells #[.int .i64 kd, .int .i64 on, .int .i64 oa, .bool ov, .slice fao F.length fcap, .string os] 66))
  have hsz : w.heap.size + 1 ≤ (w.alloc (.cells #[.int .i64 kd, .int .i64 on, .int .i64 oa, .bool ov, .slice fao F.length fcap, .string os] 66)).heap.size := by simp
  have hc2 : ¬ (1 ≤ oa ∧ oa ≤ 300) := by omega
  clear ho hc
  unfold opv
  dsimp only
  go_enter Tryz.func60, Tryz.ntmps60
  go_wp2_with (first
    | (go_at_call 18; refine (hnew _).mono ?_; rintro e w2 ⟨rfl, hb2⟩; replace hbw := hbw.trans (hb2.mono hbw.size); obtain ⟨d0, d1, d2, d3, d4, d5⟩ := box_cells (hbl.trans (hb2.mono hsz)))
    | (go_at_call 102; refine (href _).mono ?_; rintro e w3 ⟨rfl, hq⟩; replace hq := hq.symm; subst hq)
    | (go_at_call 103; refine (lawNum _ _).mono ?_; rintro e w9 ⟨rfl, hq⟩; replace hq := hq.symm; subst hq))
  go_goals
  go_ret
  exact ⟨rfl, .inl ⟨hc2, hbw⟩⟩

end Go.Proofs.YtebfmcafmojlaaaGreatDoor

/-
  copselaw.World with all its twins: each in blocks of its own.
-/
namespace Go.Proofs.YtebfmcafmojlaaaGreatDoor
open Go.RowKit
set_option linter.unusedSimpArgs false
set_option linter.unusedVariables false

structure AllIs (I : (Nat → Prop) → World → Nat → CopS → Prop) (cF cT : Nat) (G : Nat → Prop) (w : World) (wb : Nat) (L : LawS) (OL K : Nat → Prop) (Os : Nat → Nat → Prop) (Ns : Nat → Nat) (M : Nat) : Prop where
  law : LawIs OL K w wb L
  tw : ∀ j, j < L.tbs.length → TwIs I cF cT (Os j) w (L.tbs.getD j 0) (Ns j)
  d : ∀ j, j < L.tbs.length → ∀ b, Os j b → ¬ OL b ∧ ¬ K b
  dd : ∀ i j, i < L.tbs.length → j < L.tbs.length → i ≠ j → ∀ b, Os i b → ¬ Os j b
  bL : ∀ b, OL b ∨ K b → G b
  bT : ∀ j, j < L.tbs.length → ∀ b, Os j b → G b
  nw : ∀ b, w.heap.size ≤ b → G b
  mt : L.texts.length ≤ 4 * M
  mi : L.ints.length ≤ 4 * M
  mn : L.n ≤ M

def setN (Ns : Nat → Nat) (k n : Nat) : Nat → Nat := fun j => if j = k then n else Ns j
def setO (Os : Nat → Nat → Prop) (k : Nat) (O : Nat → Prop) : Nat → Nat → Prop := fun j => if j = k then O else Os j

theorem setN_at (Ns : Nat → Nat) (k n : Nat) : setN Ns k n k = n := by simp [setN]
theorem setN_ne (Ns : Nat → Nat) (k n j : Nat) (h : j ≠ k) : setN Ns k n j = Ns j := by simp [setN, h]
theorem setO_at (Os : Nat → Nat → Prop) (k : Nat) (O : Nat → Prop) : setO Os k O k = O := by simp [setO]
theorem setO_ne (Os : Nat → Nat → Prop) (k : Nat) (O : Nat → Prop) (j : Nat) (h : j ≠ k) : setO Os k O j = Os j := by simp [setO, h]

theorem TwIs.lt {I : (Nat → Prop) → World → Nat → CopS → Prop} {cF cT : Nat} (sp : CopseSpec I cF cT) {O : Nat → Prop} {w : World} {tb N : Nat} (h : TwIs I cF cT O w tb N) : ∀ b, O b → b < w.heap.size := by
  obtain ⟨x, r, C, S, l, av, OT, OX, OR, hs, ok, ho⟩ := h
  intro b hb
  rcases (ho b).1 hb with e | e | e
  · exact hs.t.lt b e
  · exact sp.lt hs.c b e
  · exact hs.s.lt b e

theorem TwIs.keep {I : (Nat → Prop) → World → Nat → CopS → Prop} {cF cT : Nat} (sp : CopseSpec I cF cT) {O : Nat → Prop} {w w' : World} {tb N : Nat} (h : TwIs I cF cT O w tb N) (hs : w.heap.size ≤ w'.heap.size) (hb : ∀ k, O k → w'.heap[k]? = w.heap[k]?) : TwIs I cF cT O w' tb N := by
  obtain ⟨x, r, C, S, l, av, OT, OX, OR, st, ok, ho⟩ := h
  exact ⟨x, r, C, S, l, av, OT, OX, OR, ⟨st.t.keep hs (fun k hk => hb k ((ho k).2 (.inl hk))), sp.keep st.c hs (fun k hk => hb k ((ho k).2 (.inr (.inl hk)))), st.s.keep hs (fun k hk => hb k ((ho k).2 (.inr (.inr hk)))), st.d1, st.d2, st.d3⟩, ok, ho⟩

theorem AllIs.mono {I : (Nat → Prop) → World → Nat → CopS → Prop} {cF cT : Nat} {G : Nat → Prop} {w : World} {wb : Nat} {L : LawS} {OL K : Nat → Prop} {Os : Nat → Nat → Prop} {Ns Ns' : Nat → Nat} {M M' : Nat} (h : AllIs I cF cT G w wb L OL K Os Ns M) (hN : ∀ j, Ns j ≤ Ns' j) (hM : M ≤ M') : AllIs I cF cT G w wb L OL K Os Ns' M' :=
  ⟨h.law, fun j hj => (h.tw j hj).mono (hN j), h.d, h.dd, h.bL, h.bT, h.nw, Nat.le_trans h.mt (by omega), Nat.le_trans h.mi (by omega), Nat.le_trans h.mn hM⟩

theorem AllIs.below {I : (Nat → Prop) → World → Nat → CopS → Prop} {cF cT : Nat} (sp : CopseSpec I cF cT) {G : Nat → Prop} {w w' : World} {wb : Nat} {L : LawS} {OL K : Nat → Prop} {Os : Nat → Nat → Prop} {Ns : Nat → Nat} {M : Nat} (h : AllIs I cF cT G w wb L OL K Os Ns M) (hb : Below w.heap.size w w') : AllIs I cF cT G w' wb L OL K Os Ns M :=
  ⟨h.law.keep hb.size (fun k hk => hb.block k (h.law.lt k hk)), fun j hj => (h.tw j hj).below sp hb, h.d, h.dd, h.bL, h.bT, fun b hb2 => h.nw b (Nat.le_trans hb.size hb2), h.mt, h.mi, h.mn⟩

theorem only_below {B : Nat} {O : Nat → Prop} {w w' : World} (h : Only O w w') (hO : ∀ b, O b → B ≤ b) (hB : B ≤ w.heap.size) : Below B w w' :=
  ⟨h.os, h.tape, h.output, h.size, fun k hk => h.block k (by omega) (fun e => by have := hO k e; omega)⟩

theorem AllIs.ask {I : (Nat → Prop) → World → Nat → CopS → Prop} {cF cT : Nat} (sp : CopseSpec I cF cT) {G : Nat → Prop} {w w' : World} {wb : Nat} {L : LawS} {OL K : Nat → Prop} {Os : Nat → Nat → Prop} {Ns : Nat → Nat} {M : Nat} (h : AllIs I cF cT G w wb L OL K Os Ns M) {k : Nat} (hk : k < L.tbs.length) {n : Nat} (hp : AskPost I cF cT w (L.tbs.getD k 0) n (Os k) wb L OL K w') :
    ∃ L' OL' K' Os', AllIs I cF cT G w' wb L' OL' K' Os' (setN Ns k n) (M + 1) ∧ L'.tbs = L.tbs ∧ Only G w w' := by
  obtain ⟨OL', K', L', O', hl, ht, ho, e1, e2, e3, e4, gL, gO, gK, hd⟩ := hp
  have hmt := h.mt
  have hmi := h.mi
  have hmn := h.mn
  have hnw := h.nw
  have hlt : ∀ j, j < L.tbs.length → ∀ b, Os j b → b < w.heap.size := fun j hj => (h.tw j hj).lt sp
  refine ⟨L', OL', K', setO Os k O', ⟨hl, ?_, ?_, ?_, ?_, ?_, fun b hb2 => hnw b (Nat.le_trans ho.size hb2), by omega, by omega, by omega⟩, e1, ?_⟩
  · intro j hj
    rw [e1] at hj ⊢
    by_cases e : j = k
    · subst e
      rw [setN_at, setO_at]
      exact ht
    · rw [setN_ne _ _ _ _ e, setO_ne _ _ _ _ e]
      refine (h.tw j hj).keep sp ho.size (fun b hb => ho.block b (hlt j hj b hb) ?_)
      rintro (e2 | e2)
      · exact (h.d j hj b hb).1 e2
      · exact h.dd j k hj hk e b hb e2
  · intro j hj b hb
    rw [e1] at hj
    by_cases e : j = k
    · subst e
      rw [setO_at] at hb
      exact hd b hb
    · rw [setO_ne _ _ _ _ e] at hb
      have h1 := h.d j hj b hb
      have h2 := hlt j hj b hb
      refine ⟨fun e2 => ?_, fun e2 => ?_⟩
      · rcases gL b e2 with e3 | e3
        · exact h1.1 e3
        · omega
      · rcases gK b e2 with e3 | e3
        · exact h1.2 e3
        · omega
  · intro i j hi hj hij b hb hb2
    rw [e1] at hi hj
    by_cases e : i = k
    · subst e
      have e' : j ≠ i := fun e => hij e.symm
      rw [setO_at] at hb
      rw [setO_ne _ _ _ _ e'] at hb2
      rcases gO b hb with e3 | e3
      · exact h.dd i j hi hj hij b e3 hb2
      · have := hlt j hj b hb2; omega
    · rw [setO_ne _ _ _ _ e] at hb
      by_cases e' : j = k
      · subst e'
        rw [setO_at] at hb2
        rcases gO b hb2 with e3 | e3
        · exact h.dd i j hi hj hij b hb e3
        · have := hlt i hi b hb; omega
      · rw [setO_ne _ _ _ _ e'] at hb2
        exact h.dd i j hi hj hij b hb hb2
  · rintro b (e | e)
    · rcases gL b e with e3 | e3
      · exact h.bL b (.inl e3)
      · exact hnw b e3
    · rcases gK b e with e3 | e3
      · exact h.bL b (.inr e3)
      · exact hnw b e3
  · intro j hj b hb
    rw [e1] at hj
    by_cases e : j = k
    · subst e
      rw [setO_at] at hb
      rcases gO b hb with e3 | e3
      · exact h.bT j hj b e3
      · exact hnw b e3
    · rw [setO_ne _ _ _ _ e] at hb
      exact h.bT j hj b hb
  · refine ho.mono ?_
    rintro b (e | e)
    · exact h.bL b (.inl e)
    · exact h.bT k hk b e

theorem AllIs.step {I : (Nat → Prop) → World → Nat → CopS → Prop} {cF cT : Nat} (sp : CopseSpec I cF cT) {G : Nat → Prop} {w w' : World} {wb : Nat} {L : LawS} {OL K : Nat → Prop} {Os : Nat → Nat → Prop} {Ns : Nat → Nat} {M : Nat} (h : AllIs I cF cT G w wb L OL K Os Ns M) {k : Nat} (hk : k < L.tbs.length) {n : Nat} (hp : TwPost I cF cT w (L.tbs.getD k 0) n (Os k) w') :
    ∃ Os', AllIs I cF cT G w' wb L OL K Os' (setN Ns k n) M ∧ Only G w w' := by
  obtain ⟨ho, O', ht, gO⟩ := hp
  have hnw := h.nw
  have hlt : ∀ j, j < L.tbs.length → ∀ b, Os j b → b < w.heap.size := fun j hj => (h.tw j hj).lt sp
  refine ⟨setO Os k O', ⟨h.law.keep ho.size (fun b hb => ho.block b (h.law.lt b hb) (fun e => hb.elim (h.d k hk b e).1 (h.d k hk b e).2)), ?_, ?_, ?_, h.bL, ?_, fun b hb2 => hnw b (Nat.le_trans ho.size hb2), h.mt, h.mi, h.mn⟩, ho.mono (h.bT k hk)⟩
  · intro j hj
    by_cases e : j = k
    · subst e
      rw [setN_at, setO_at]
      exact ht
    · rw [setN_ne _ _ _ _ e, setO_ne _ _ _ _ e]
      exact (h.tw j hj).keep sp ho.size (fun b hb => ho.block b (hlt j hj b hb) (h.dd j k hj hk e b hb))
  · intro j hj b hb
    by_cases e : j = k
    · subst e
      rw [setO_at] at hb
      rcases gO b hb with e3 | e3
      · exact h.d j hj b e3
      · exact ⟨fun e2 => by have := h.law.lt b (.inl e2); omega, fun e2 => by have := h.law.lt b (.inr e2); omega⟩
    · rw [setO_ne _ _ _ _ e] at hb
      exact h.d j hj b hb
  · intro i j hi hj hij b hb hb2
    by_cases e : i = k
    · subst e
      have e' : j ≠ i := fun e => hij e.symm
      rw [setO_at] at hb
      rw [setO_ne _ _ _ _ e'] at hb2
      rcases gO b hb with e3 | e3
      · exact h.dd i j hi hj hij b e3 hb2
      · have := hlt j hj b hb2; omega
    · rw [setO_ne _ _ _ _ e] at hb
      by_cases e' : j = k
      · subst e'
        rw [setO_at] at hb2
        rcases gO b hb2 with e3 | e3
        · exact h.dd i j hi hj hij b hb e3
        · have := hlt i hi b hb; omega
      · rw [setO_ne _ _ _ _ e'] at hb2
        exact h.dd i j hi hj hij b hb hb2
  · intro j hj b hb
    by_cases e : j = k
    · subst e
      rw [setO_at] at hb
      rcases gO b hb with e3 | e3
      · exact h.bT j hj b e3
      · exact hnw b e3
    · rw [setO_ne _ _ _ _ e] at hb
      exact h.bT j hj b hb

theorem AllIs.begun {I : (Nat → Prop) → World → Nat → CopS → Prop} {cF cT : Nat} (sp : CopseSpec I cF cT) {G : Nat → Prop} {w w' : World} {wb : Nat} {L : LawS} {OL K : Nat → Prop} {Os : Nat → Nat → Prop} {Ns : Nat → Nat} {M : Nat} (h : AllIs I cF cT G w wb L OL K Os Ns M) {cap : Int} (hp : BeginPost I cF cT w wb L OL K cap w') :
    ∃ L' OL' Os', AllIs I cF cT G w' wb L' OL' K Os' Ns M ∧ L'.tbs.length ≤ L.tbs.length + 1 ∧ Only G w w' := by
  have hnw := h.nw
  rcases hp with ⟨_, hb⟩ | ⟨tb, OL', O', hl, ht, ho, gL, hO, hd⟩
  · exact ⟨L, OL, Os, h.below sp hb, Nat.le_succ _, only_of_below hb G⟩
  have hlt : ∀ j, j < L.tbs.length → ∀ b, Os j b → b < w.heap.size := fun j hj => (h.tw j hj).lt sp
  have hlen : (L.tbs ++ [tb]).length = L.tbs.length + 1 := by simp
  refine ⟨_, OL', setO Os L.tbs.length O', ⟨hl, ?_, ?_, ?_, ?_, ?_, fun b hb2 => hnw b (Nat.le_trans ho.size hb2), h.mt, h.mi, h.mn⟩, Nat.le_of_eq hlen, ho.mono (fun b hb => h.bL b (.inl hb))⟩
  · intro j hj
    rw [hlen] at hj
    show TwIs I cF cT _ w' ((L.tbs ++ [tb]).getD j 0) (Ns j)
    by_cases e : j = L.tbs.length
    · subst e
      rw [setO_at]
      have : (L.tbs ++ [tb]).getD L.tbs.length 0 = tb := by simp
      rw [this]
      exact ht.is.mono (Nat.zero_le _)
    · rw [setO_ne _ _ _ _ e]
      have hj2 : j < L.tbs.length := by omega
      have : (L.tbs ++ [tb]).getD j 0 = L.tbs.getD j 0 := by rw [List.getD_eq_getElem?_getD, List.getD_eq_getElem?_getD, List.getElem?_append_left hj2]
      rw [this]
      exact (h.tw j hj2).keep sp ho.size (fun b hb => ho.block b (hlt j hj2 b hb) (h.d j hj2 b hb).1)
  · intro j hj b hb
    rw [hlen] at hj
    by_cases e : j = L.tbs.length
    · subst e
      rw [setO_at] at hb
      exact hd b hb
    · rw [setO_ne _ _ _ _ e] at hb
      have hj2 : j < L.tbs.length := by omega
      have h1 := h.d j hj2 b hb
      refine ⟨fun e2 => ?_, h1.2⟩
      rcases gL b e2 with e3 | e3
      · exact h1.1 e3
      · have := hlt j hj2 b hb; omega
  · intro i j hi hj hij b hb hb2
    rw [hlen] at hi hj
    by_cases e : i = L.tbs.length
    · subst e
      have e' : j ≠ L.tbs.length := fun e => hij e.symm
      rw [setO_at] at hb
      rw [setO_ne _ _ _ _ e'] at hb2
      have h1 := hO b hb
      have h2 := hlt j (by omega) b hb2
      omega
    · rw [setO_ne _ _ _ _ e] at hb
      by_cases e' : j = L.tbs.length
      · subst e'
        rw [setO_at] at hb2
        have h1 := hO b hb2
        have h2 := hlt i (by omega) b hb
        omega
      · rw [setO_ne _ _ _ _ e'] at hb2
        exact h.dd i j (by omega) (by omega) hij b hb hb2
  · rintro b (e | e)
    · rcases gL b e with e3 | e3
      · exact h.bL b (.inl e3)
      · exact hnw b e3
    · exact h.bL b (.inr e)
  · intro j hj b hb
    rw [hlen] at hj
    by_cases e : j = L.tbs.length
    · subst e
      rw [setO_at] at hb
      exact hnw b (hO b hb)
    · rw [setO_ne _ _ _ _ e] at hb
      exact h.bT j (by omega) b hb

theorem AllIs.widen {I : (Nat → Prop) → World → Nat → CopS → Prop} {cF cT : Nat} {G G' : Nat → Prop} {w : World} {wb : Nat} {L : LawS} {OL K : Nat → Prop} {Os : Nat → Nat → Prop} {Ns : Nat → Nat} {M : Nat} (h : AllIs I cF cT G w wb L OL K Os Ns M) (hG : ∀ b, G b → G' b) : AllIs I cF cT G' w wb L OL K Os Ns M :=
  ⟨h.law, h.tw, h.d, h.dd, fun b hb => hG b (h.bL b hb), fun j hj b hb => hG b (h.bT j hj b hb), fun b hb => hG b (h.nw b hb), h.mt, h.mi, h.mn⟩

end Go.Proofs.YtebfmcafmojlaaaGreatDoor

/-
  copselaw.World: begin, where New goes well.
-/
namespace Go.Proofs.YtebfmcafmojlaaaGreatDoor
open Go.RowKit
set_option linter.unusedSimpArgs false
set_option linter.unusedVariables false

theorem Tryz.infoTwinP : (Tryz.prog.info? 109).map (fun i => (i.zero, i.size, i.bytes)) = some (some (.pointer none), 1, 8) := by kernel_rfl

/-- The twin's box, the box of its two constants, and the store that joins them. -/
def twBox (x r : Nat) : Obj := .cells #[.pointer (some ⟨x, 0, none⟩), .pointer (some ⟨r, 0, none⟩), .slice none 0 0] 108
def goBox (cF cT : Nat) : Obj := .cells #[.int .i64 (cF : Int), .int .u64 0, .int .i64 (cT : Int), .int .u64 18446744073709551615] 173
def begW (w5 : World) (tb cF cT : Nat) : World := (w5.alloc (goBox cF cT)).setCell ⟨tb, 2, none⟩ (.slice (some ⟨w5.heap.size, 0, none⟩) 2 2)

structure BegMid (I : (Nat → Prop) → World → Nat → CopS → Prop) (cF cT : Nat) (w W : World) (wb tb g x r : Nat) (L : LawS) (OL K OX OR : Nat → Prop) (av tv mv iv nv : Value) (cap : Int) : Prop where
  law : LawAt OL W wb L av tv mv iv nv
  kept : Kept K W L
  dk : ∀ b, OL b → ¬ K b
  st : TwSt I W tb x r ⟨cap, [], [], T0 cF cT⟩ ⟨cap, [], [], []⟩ [(cF, 0), (cT, onesT)] (.slice (some ⟨g, 0, none⟩) 2 2) (fun b => b = tb ∨ b = g) OX OR
  below : Below w.heap.size w W
  new : ∀ b, (b = tb ∨ b = g) ∨ OX b ∨ OR b → w.heap.size ≤ b
  old : ∀ b, OL b ∨ K b → b < w.heap.size

theorem begun_mid {I : (Nat → Prop) → World → Nat → CopS → Prop} {cF cT : Nat} (sp : CopseSpec I cF cT) {w w2 w3 w4 w5 : World} {wb x r : Nat} {L : LawS} {OL K OX OR : Nat → Prop} {av tv mv iv nv : Value} {cap : Int}
    (hLa : LawAt OL w wb L av tv mv iv nv) (hK : Kept K w L) (hdk : ∀ b, OL b → ¬ K b) (hbw2 : Below w.heap.size w w2) (hI : I OX w2 x ⟨cap, [], [], T0 cF cT⟩) (hXg : ∀ b, OX b → w.heap.size ≤ b) (hb3 : Below w2.heap.size w2 w3) (hR : RefIs OR w3 r ⟨cap, [], [], []⟩) (hRg : ∀ b, OR b → w2.heap.size ≤ b)
    (hb4 : Below (w3.heap.size + 1) (w3.alloc (twBox x r)) w4) (hb5 : Below w4.heap.size w4 w5) :
    BegMid I cF cT w (begW w5 w3.heap.size cF cT) wb w3.heap.size w5.heap.size x r L OL K OX OR av tv mv iv nv cap := by
  have hs2 := hbw2.size
  have hs3 := hb3.size
  have hs4 : w3.heap.size + 1 ≤ w4.heap.size := by have := hb4.size; simpa using this
  have hs5 := hb5.size
  have h45 : Below (w3.heap.size + 1) (w3.alloc (twBox x r)) w5 := hb4.trans (hb5.mono hs4)
  have htb5 : w5.heap[w3.heap.size]? = some (twBox x r) := (h45.block w3.heap.size (by omega)).trans (heap_alloc_new w3 _)
  have hW : ∀ k, k < w3.heap.size → (begW w5 w3.heap.size cF cT).heap[k]? = w3.heap[k]? := by
    intro k hk
    unfold begW
    rw [Below.heap_setCell _ _ _ _ (by show k ≠ w3.heap.size; omega), Below.heap_alloc _ _ _ (by omega), h45.block k (by omega), Below.heap_alloc _ _ _ hk]
  have hWs : (begW w5 w3.heap.size cF cT).heap.size = w5.heap.size + 1 := by unfold begW; simp [World.setCell]
  have hWtb : (begW w5 w3.heap.size cF cT).heap[w3.heap.size]? = some (.cells #[.pointer (some ⟨x, 0, none⟩), .pointer (some ⟨r, 0, none⟩), .slice (some ⟨w5.heap.size, 0, none⟩) 2 2] 108 (0, 0)) := by
    unfold begW
    have h1 : (w5.alloc (goBox cF cT)).heap[w3.heap.size]? = some (.cells #[.pointer (some ⟨x, 0, none⟩), .pointer (some ⟨r, 0, none⟩), .slice none 0 0] 108 (0, 0)) := by rw [Below.heap_alloc _ _ _ (by omega)]; exact htb5
    rw [heap_setCell_at h1]
    rfl
  have hWg : (begW w5 w3.heap.size cF cT).heap[w5.heap.size]? = some (.cells #[.int .i64 (cF : Int), .int .u64 0, .int .i64 (cT : Int), .int .u64 18446744073709551615] 173 (0, 0)) := by
    unfold begW
    rw [Below.heap_setCell _ _ _ _ (by show w5.heap.size ≠ w3.heap.size; omega)]
    exact heap_alloc_new w5 _
  have hbW : Below w3.heap.size w3 (begW w5 w3.heap.size cF cT) := by
    unfold begW
    have h0 : Below w3.heap.size w3 w5 := ((Below.refl w3.heap.size w3).alloc (Nat.le_refl _) (twBox x r)).trans (h45.mono (by omega))
    exact (h0.alloc h0.size _).setCell (Nat.le_refl _) _
  have hbww : Below w.heap.size w (begW w5 w3.heap.size cF cT) := (hbw2.trans (hb3.mono hs2)).trans (hbW.mono (by omega))
  have hI3 : I OX w3 x ⟨cap, [], [], T0 cF cT⟩ := sp.keep hI hb3.size (fun k hk => hb3.block k (sp.lt hI k hk))
  have hX2 := sp.lt hI
  refine ⟨hLa.below hbww, hK.keep hbww.size (fun k hk => hbww.block k (hK.lt k hk)), hdk, ⟨⟨?_, .inl rfl, hWtb, ?_, ?_, ?_⟩, ?_, ?_, ?_, ?_, ?_⟩, hbww, ?_, ?_⟩
  · rintro b (e | e) <;> omega
  · refine ⟨by simp [gots], .inr ⟨w5.heap.size, 2, #[.int .i64 (cF : Int), .int .u64 0, .int .i64 (cT : Int), .int .u64 18446744073709551615], rfl, Nat.zero_le _, hWg, Nat.le_refl _, by decide, rfl, ?_⟩⟩
    rfl
  · intro k hk
    simp [Value.ownBlock] at hk
    exact .inr hk.symm
  · simp [Value.ownBlock]
    omega
  · exact sp.keep hI3 hbW.size (fun k hk => hbW.block k (sp.lt hI3 k hk))
  · exact hR.below hbW
  · rintro b (e | e) hx
    · have := hX2 b hx; omega
    · have := hX2 b hx; omega
  · rintro b (e | e) hx
    · have := hR.lt b hx; omega
    · have := hR.lt b hx; omega
  · intro b hx hr
    have := hX2 b hx
    have := hRg b hr
    omega
  · rintro b ((e | e) | e | e)
    · omega
    · omega
    · exact hXg b e
    · have := hRg b e; omega
  · rintro b (e | e)
    · exact hLa.lt b e
    · exact hK.lt b e

theorem begun_tb {w3 w4 w5 : World} {x r : Nat} {o : Obj} (hb4 : Below (w3.heap.size + 1) (w3.alloc (twBox x r)) w4) (hb5 : Below w4.heap.size w4 w5) : (w5.alloc o).heap[w3.heap.size]? = some (.cells #[.pointer (some ⟨x, 0, none⟩), .pointer (some ⟨r, 0, none⟩), .slice none 0 0] 108 (0, 0)) := by
  have hs4 : w3.heap.size + 1 ≤ w4.heap.size := by have := hb4.size; simpa using this
  have hs5 := hb5.size
  rw [Below.heap_alloc _ _ _ (by omega), hb5.block _ (by omega), hb4.block _ (by omega)]
  exact heap_alloc_new w3 _

theorem begun_post {I : (Nat → Prop) → World → Nat → CopS → Prop} {cF cT : Nat} (sp : CopseSpec I cF cT) {w W w8 : World} {wb tb g x r : Nat} {L : LawS} {OL K OX OR : Nat → Prop} {av tv mv iv nv v' : Value} {cap : Int} {o : Obj}
    (h : BegMid I cF cT w W wb tb g x r L OL K OX OR av tv mv iv nv cap) (hg : (W.alloc o).grownBy w8 av.ownBlock) (hp : Placed (W.alloc o) av v') (ho : w8.ownsRow 0 109 1 v' (L.tbs.length + 1) ((L.tbs.map tptr) ++ [tptr tb])) :
    BeginPost I cF cT w wb L OL K cap (w8.setCell ⟨wb, 0, none⟩ v') := by
  obtain ⟨hlw, hon⟩ := h.law.grow_tbs tb hg hp ho
  have hsW := h.below.size
  have hown : ∀ b, v'.ownBlock = some b → OL b ∨ W.heap.size ≤ b := by
    intro b hb
    rcases hp b hb with e | e
    · exact .inl (h.law.tbs.2 b e)
    · simp at e; exact .inr (by omega)
  have hltT : ∀ b, (b = tb ∨ b = g) ∨ OX b ∨ OR b → b < W.heap.size := by
    rintro b (e | e | e)
    · exact h.st.t.lt b e
    · exact sp.lt h.st.c b e
    · exact h.st.s.lt b e
  have hnot : ∀ b, (b = tb ∨ b = g) ∨ OX b ∨ OR b → ¬ OL b := fun b hb e => by have := h.new b hb; have := h.old b (.inl e); omega
  have hkeep : ∀ b, (b = tb ∨ b = g) ∨ OX b ∨ OR b → (w8.setCell ⟨wb, 0, none⟩ v').heap[b]? = W.heap[b]? := fun b hb => hon.block b (hltT b hb) (hnot b hb)
  have hst : TwSt I (w8.setCell ⟨wb, 0, none⟩ v') tb x r ⟨cap, [], [], T0 cF cT⟩ ⟨cap, [], [], []⟩ [(cF, 0), (cT, onesT)] (.slice (some ⟨g, 0, none⟩) 2 2) (fun b => b = tb ∨ b = g) OX OR :=
    ⟨h.st.t.keep hon.size (fun k hk => hkeep k (.inl hk)), sp.keep h.st.c hon.size (fun k hk => hkeep k (.inr (.inl hk))), h.st.s.keep hon.size (fun k hk => hkeep k (.inr (.inr hk))), h.st.d1, h.st.d2, h.st.d3⟩
  refine .inr ⟨tb, fun b => OL b ∨ v'.ownBlock = some b, fun b => (b = tb ∨ b = g) ∨ OX b ∨ OR b, ⟨⟨v', tv, mv, iv, nv, hlw⟩, ?_, ?_⟩, ⟨x, r, _, _, _, _, OX, OR, hst, twOk_new sp cap, fun b => Iff.rfl, rfl⟩, ?_, ?_, h.new, ?_⟩
  · have hk2 := h.kept.keep hon.size (fun k hk => hon.block k (h.kept.lt k hk) (fun e => h.dk k e hk))
    exact ⟨hk2.lt, hk2.tl, hk2.il, hk2.t, hk2.i⟩
  · rintro b (e | e) hk
    · exact h.dk b e hk
    · rcases hown b e with e2 | e2
      · exact h.dk b e2 hk
      · have := h.kept.lt b hk; omega
  · exact (only_of_below h.below OL).trans hon (Grows.refl _ _)
  · rintro b (e | e)
    · exact .inl e
    · rcases hown b e with e2 | e2
      · exact .inl e2
      · exact .inr (by omega)
  · intro b hb
    refine ⟨?_, fun e => by have := h.new b hb; have := h.old b (.inr e); omega⟩
    rintro (e | e)
    · exact hnot b hb e
    · rcases hown b e with e2 | e2
      · exact hnot b hb e2
      · have := hltT b hb; omega

theorem tbs_owns {I : (Nat → Prop) → World → Nat → CopS → Prop} {cF cT : Nat} {w W : World} {wb tb g x r : Nat} {L : LawS} {OL K OX OR : Nat → Prop} {av tv mv iv nv : Value} {cap : Int} {o : Obj} (h : BegMid I cF cT w W wb tb g x r L OL K OX OR av tv mv iv nv cap) : (W.alloc o).ownsRow 0 109 1 av L.tbs.length (L.tbs.map tptr) := by
  have := h.law.tbs.1.alloc o
  rwa [List.length_map] at this
theorem one_cell_ptr (a : Option Addr) : ∀ x ∈ [Value.pointer a], x.oneCell' = true := by intro x hx; simp at hx; subst hx; rfl

set_option maxHeartbeats 4000000 in
set_option maxRecDepth 20000 in
theorem begin_yes {I : (Nat → Prop) → World → Nat → CopS → Prop} {cF cT : Nat} (sp : CopseSpec I cF cT) {w : World} {wb : Nat} (o : OpS) (fv : Value) {L : LawS} {OL K : Nat → Prop} (hl : LawIs OL K w wb L) (htb : L.tbs.length ≤ 4000000) (ho : OpOk w o fv) (h1 : 1 ≤ o.a) (h2 : o.a ≤ 300) :
    Calls Tryz.prog 60 #[.pointer (some ⟨wb, 0, none⟩), opv o fv] w fun e w' => e = .returned (.bool true) ∧ BeginPost I cF cT w wb L OL K o.a w' := by
  obtain ⟨fao, fcap, rfl⟩ := reads_form ho.f
  obtain ⟨kd, on, oa, ov, F, os⟩ := o
  dsimp only at h1 h2 ⊢
  obtain ⟨⟨av, tv, mv, iv, nv, hLa⟩, hK, hdk⟩ := hl
  obtain ⟨aao, acap, rfl⟩ := owns_form hLa.tbs.1
  rw [List.length_map] at hLa
  have hnew := fun wq => sp.new_yes oa wq h1 h2
  have href := fun wq => refNew_is oa wq h1 h2
  have hcon1 := fun wq x OX (hc : I OX wq x ⟨oa, [], [], T0 cF cT⟩) => sp.const hc false
  have hcon2 := fun wq x OX (hc : I OX wq x ⟨oa, [], [], T0 cF cT⟩) => sp.const hc true
  simp only [if_true, if_false, Bool.false_eq_true] at hcon1 hcon2
  have hbw := (Below.refl w.heap.size w).alloc (Nat.le_refl _) (.cells #[.int .i64 kd, .int .i64 on, .int .i64 oa, .bool ov, .slice fao F.length fcap, .string os] 66)
  have hbl := Below.refl (w.heap.size + 1) (w.alloc (.cells #[.int .i64 kd, .int .i64 on, .int .i64 oa, .bool ov, .slice fao F.length fcap, .string os] 66))
  have hsz : w.heap.size + 1 ≤ (w.alloc (.cells #[.int .i64 kd, .int .i64 on, .int .i64 oa, .bool ov, .slice fao F.length fcap, .string os] 66)).heap.size := by simp
  have hne : ((cF : Int) == (cT : Int)) = false := by have := sp.ne; simp; omega
  have hne' : ¬ (cF : Int) = (cT : Int) := by have := sp.ne; omega
  have hm1 := sp.cFm
  have hm2 := sp.cTm
  unfold handleMax at hm1 hm2
  obtain ⟨i0, hi, hz0, hz1, hz2⟩ := info_parts Tryz.infoTwinP
  clear ho h1 h2
  unfold opv
  dsimp only
  go_enter Tryz.func60, Tryz.ntmps60
  go_wp2_with (first
    | (go_at_call 18; refine (hnew _).mono ?_; rintro e w2 ⟨x, OX, rfl, hI, hXg, hb2⟩; replace hXg := (fun b hb => Nat.le_trans hbw.size (hXg b hb)); replace hbw := hbw.trans (hb2.mono hbw.size); obtain ⟨d0, d1, d2, d3, d4, d5⟩ := box_cells (hbl.trans (hb2.mono hsz)))
    | (go_at_call 102; refine (href _).mono ?_; rintro e w3 ⟨r, OR, rfl, hR, hRg, hb3⟩; have hIt : I OX (w3.alloc (twBox x r)) x ⟨oa, [], [], T0 cF cT⟩ := sp.keep (sp.keep hI hb3.size (fun k hk => hb3.block k (sp.lt hI k hk))) (by simp) (fun k hk => Below.heap_alloc _ _ _ (Nat.lt_of_lt_of_le (sp.lt hI k hk) hb3.size)))
    | (go_at_call 103; refine (lawNum _ _).mono ?_; rintro e w9 ⟨rfl, hq⟩; replace hq := hq.symm; subst hq)
    | (go_at_call 23; refine (hcon1 _ _ _ hIt).mono ?_; rintro e w4 ⟨rfl, hb4⟩; clear hcon1; have hI4 := sp.keep hIt hb4.size (fun k hk => hb4.block k (sp.lt hIt k hk)))
    | (go_at_call 23; refine (hcon2 _ _ _ hI4).mono ?_; rintro e w5 ⟨rfl, hb5⟩; clear hcon2; have mid := begun_mid sp hLa hK hdk hbw hI hXg hb3 hR hRg (by simpa using hb4) hb5; have c0 := cell_of_heap (o := 0) mid.law.cells; simp only [List.getElem?_toArray, List.getElem?_cons_succ, List.getElem?_cons_zero, begW, goBox] at c0; have h5 := begun_tb (x := x) (r := r) (o := goBox cF cT) (by simpa using hb4) hb5; have f5 := frozen_of_heap (o := 2) h5; have g5 := cell_of_heap (o := 2) h5; simp only [List.getElem?_toArray, List.getElem?_cons_succ, List.getElem?_cons_zero, goBox] at f5 g5; clear h5)
    | (at_builtin; refine wpList_append_placed rfl (.tmp 57) (.tmp 59) 59 rfl 0 109 i0 (.pointer none) 1 8 Tryz.underlying59 hi hz0 hz1 hz2 rfl (by decide) _ _ _ rfl (tbs_owns mid) _ 1 1 [tptr w3.heap.size] rfl rfl ?_ ?_ ?_ ?_ ?_ ?_; exact cell_one_at _ _ _ _ (by simp [World.setCell]); exact one_cell_ptr _; exact le_maxLen (by omega); omega; exact Nat.zero_le _; intro v8 w8 hown8 hgr8 hpl8; have hfin := begun_post sp mid hgr8 hpl8 hown8; have h6 := law_cells mid.law hgr8 (row_ne_type mid.law.cells mid.law.tbs.1 (by decide)); have f8 := frozen_of_heap (o := 0) h6; have g8 := cell_of_heap (o := 0) h6; simp only [List.getElem?_toArray, List.getElem?_cons_succ, List.getElem?_cons_zero] at g8; obtain ⟨vao8, vcap8, rfl⟩ := owns_form hown8; clear hgr8 hpl8 hown8 h6))
  go_ret
  refine ⟨?_, hfin⟩
  show Ending.returned (.bool ((cF : Int) != (cT : Int))) = _
  rw [bne, hne]
  rfl

end Go.Proofs.YtebfmcafmojlaaaGreatDoor

