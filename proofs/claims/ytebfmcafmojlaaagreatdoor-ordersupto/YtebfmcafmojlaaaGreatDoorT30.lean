/-
  copselaw.World: asks: Nodes.
-/
import Derived.Laws.CopyOwn
import Derived.Test.YtebfmcafmojlaaaGreatDoorT29
import Derived.Test.YtebfmcafmojlaaaGreatDoorT14
namespace Go.Proofs.YtebfmcafmojlaaaGreatDoor
open Go.RowKit
set_option linter.unusedSimpArgs false
set_option linter.unusedVariables false

theorem sevHs_len (l : List (Nat × Tab)) (F : List Int) (n : Nat) : (sevHs l F n).length = n := by simp [sevHs]
theorem sevTs_len (l : List (Nat × Tab)) (F : List Int) (n : Nat) : (sevTs l F n).length = n := by simp [sevTs]

theorem several_box {I : (Nat → Prop) → World → Nat → CopS → Prop} {cF cT : Nat} (sp : CopseSpec I cF cT) {w : World} {tb x r N : Nat} {C : CopS} {S : RefS} {l : List (Nat × Tab)} {av : Value} {OT OX OR : Nat → Prop} (h : TwSt I w tb x r C S l av OT OX OR) (ok : TwOk cF cT N C S l) (hN : N ≤ 3000000)
    (o : OpS) (fao : Option Addr) (fcap : Nat) (hF : FReads w.heap.size w (.slice fao o.f.length fcap) (o.f.map zv)) (hFl : o.f.length ≤ 2000000) (hz : ∀ z ∈ o.f, i64ok z) (wq : World) (hb : Below w.heap.size w wq) :
    Calls Tryz.prog 119 #[.pointer (some ⟨tb, 0, none⟩), .agg #[.int .i64 o.kind, .int .i64 o.on, .int .i64 o.a, .bool o.v, .slice fao o.f.length fcap, .string o.s]] wq fun e w' => ∃ hv tv, e = .returned (.tuple #[hv, tv, .bool (sevOk l o.f o.f.length)]) ∧ w'.ownsRow wq.heap.size 3 1 hv o.f.length ((sevHs l o.f o.f.length).map zv) ∧ w'.ownsRow wq.heap.size 111 1 tv o.f.length ((sevTs l o.f o.f.length).map tabv) ∧ Below wq.heap.size wq w' := by
  have hl2 := ok.l2
  have hlN := ok.lN
  exact lawSeveral (h.t.below hb) (by omega) (by omega) o _ ((hF.below hb (Nat.le_refl _)).mono hb.size) hFl hz

theorem Tryz.infoInt1 : (Tryz.prog.info? 3).map (·.size) = some 1 := by kernel_rfl

/-- What Nodes answers to the handles of a step, whether they are all live or not. -/
theorem nodes_any {I : (Nat → Prop) → World → Nat → CopS → Prop} {cF cT : Nat} (sp : CopseSpec I cF cT) {N x : Nat} {C : CopS} {S : RefS} {l : List (Nat × Tab)} {OX : Nat → Prop} (ok : TwOk cF cT N C S l) (F : List Int) (hFl : F.length ≤ 2000000) :
    ∃ kz ez : Int, (∀ (wq : World) (fv : Value), I OX wq x C → Reads wq.heap.size wq fv ((sevHs l F F.length).map zv) → Calls Tryz.prog 29 #[.pointer (some ⟨x, 0, none⟩), fv] wq fun e w' => e = .returned (.tuple #[.int .i64 kz, .int .i64 ez]) ∧ CopStep I OX wq x w' C) ∧
      ((sevOk l F F.length = true ∧ kz = ((allT S.order (sevTs l F F.length)).length : Nat) ∧ ez = 0) ∨ (sevOk l F F.length = false ∧ kz = 0 ∧ ez = 4)) := by
  cases hok : sevOk l F F.length
  · refine ⟨0, 4, ?_, .inr ⟨rfl, rfl, rfl⟩⟩
    intro wq fv hc hr
    refine sp.nodes_no hc (sevHs l F F.length) fv _ hr (Nat.le_refl _) (by rw [sevHs_len]; exact hFl) ?_ ?_ ?_
    · intro z hz
      obtain ⟨i, hi, rfl⟩ := List.mem_map.1 hz
      exact sev_ok ok F i (by have := List.mem_range.1 hi; omega)
    · unfold sevOk at hok
      rw [List.all_eq_false] at hok
      obtain ⟨i, hi, hb⟩ := hok
      exact ⟨sevH l F i, List.mem_map.2 ⟨i, hi, rfl⟩, sev_lt F i (by simpa using hb)⟩
    · intro z hz
      obtain ⟨i, hi, rfl⟩ := List.mem_map.1 hz
      exact sev_or ok F i
  · refine ⟨_, 0, ?_, .inl ⟨rfl, rfl, rfl⟩⟩
    intro wq fv hc hr
    have hall : ∀ i, i < F.length → sevB l F i = true := by
      unfold sevOk at hok
      rw [List.all_eq_true] at hok
      exact fun i hi => hok i (List.mem_range.2 hi)
    have h1 : (sevHs l F F.length).map zv = ((List.range F.length).map (fun i => (sevH l F i).toNat)).map intv := by
      unfold sevHs
      rw [List.map_map, List.map_map]
      apply List.map_congr_left
      intro i hi
      obtain ⟨hd, e, _, _⟩ := sev_true ok F i (hall i (List.mem_range.1 hi))
      simp [zv, intv, e]
    have h2 : ((List.range F.length).map (fun i => (sevH l F i).toNat)).map C.T = (sevTs l F F.length).map some := by
      unfold sevTs
      rw [List.map_map, List.map_map]
      apply List.map_congr_left
      intro i hi
      obtain ⟨hd, e, hT, _⟩ := sev_true ok F i (hall i (List.mem_range.1 hi))
      simp [e, hT]
    rw [h1] at hr
    rw [← ok.order]
    exact sp.nodes hc _ _ fv _ hr (Nat.le_refl _) (by simpa using hFl) h2

theorem natc2 (n : Nat) : (n : Int) + 2 = ((n + 2 : Nat) : Int) := by omega
theorem make_b2 {i0 : TypeInfo} {n : Nat} (h : i0.bytes = 8) (hn : n ≤ 2000000) : i0.bytes * (n + 2) ≤ 281474976710656 := by rw [h]; omega
theorem make_b3 {n : Nat} (hn : n ≤ 2000000) : n + 2 ≤ maxLen := le_maxLen (by omega)
theorem own_heap {w : World} {base g n : Nat} {e : TypeId} {xs : List Value} (h : w.ownsRow base e 1 (.slice (some ⟨g, 0, none⟩) n n) n xs) : w.heap[g]? = some (.cells xs.toArray e (0, 0)) := by
  rcases h.2 with ⟨h', _⟩ | ⟨g', cap, cur, h', _, hg, hnc, _, hcs, htake⟩
  · simp at h'
  · simp only [Value.slice.injEq, Option.some.injEq, Addr.mk.injEq, and_true, true_and] at h'
    obtain ⟨rfl, rfl⟩ := h'
    rw [hg]
    congr 2
    apply Array.ext'
    rw [← htake, List.take_of_length_le (by simp [hcs])]
theorem grown_none {w w' : World} (hg : w.grownBy w' none) : Below w.heap.size w w' := (Below.refl _ _).grown hg (Nat.le_refl _) (fun k hk => by cases hk)
theorem copy_len {Hs : List Int} {n : Nat} (h : Hs.length = n) : (Hs.map zv).length = Nat.min n (n + 2) := by rw [List.length_map, h]; exact (Nat.min_eq_left (by omega)).symm
theorem copy_fit {Hs : List Int} {n : Nat} (h : Hs.length = n) : 0 + (Hs.map zv).length ≤ (madeCells (Value.int .i64 0).cells ((n + 2) * 1)).toList.length := by rw [List.length_map, h, Array.length_toList, size_madeCells]; omega
theorem made_len (n : Nat) : (madeCells (Value.int .i64 0).cells ((n + 2) * 1)).toList.length = n + 2 := by rw [Array.length_toList, size_madeCells]; omega
theorem map_len {Hs : List Int} {n : Nat} (h : Hs.length = n) : (Hs.map zv).length = n := by rw [List.length_map, h]
theorem zs_oneCell (Hs : List Int) : ∀ v ∈ Hs.map zv, v.oneCell' = true := by
  intro v hv
  obtain ⟨f, _, rfl⟩ := List.mem_map.1 hv
  rfl
theorem copy_pos {w1 w2 : World} {base : Nat} {hao : Option Addr} {hcap n : Nat} {xs : List Value} {e : TypeId} (hvo : w1.ownsRow base e 1 (.slice hao n hcap) n xs) (hg2 : w1.grownBy w2 none) : 0 < xs.length → (some ⟨w1.heap.size, 0, none⟩ : Option Addr) = some ⟨w1.heap.size, 0, none⟩ ∧ ∃ ad, hao = some ad ∧ ∀ j v, xs[j]? = some v → w2.cell? (ad.add j) = some v := by
  intro h0
  refine ⟨rfl, ?_⟩
  rcases hvo.2 with ⟨h', hn⟩ | ⟨g', cap, cur, h', _, hg, _⟩
  · have := hvo.1; omega
  · simp only [Value.slice.injEq] at h'
    obtain ⟨rfl, _, rfl⟩ := h'
    refine ⟨_, rfl, fun j v hj => ?_⟩
    exact hg2.cell (hvo.cells (g := g') rfl j v hj) (by simp)

theorem own_made {w3 : World} {g n : Nat} {cur cs : List Value} {t : TypeId} (h : Hid (w3.heap[g]? = some (.cells (splice cur 0 cs).toArray t (0, 0)))) (hc : cur.length = n + 2) (hs : cs.length = n) : ∃ y z, w3.heap[g]? = some (.cells (cs ++ [y, z]).toArray t (0, 0)) ∧ w3.cell? ⟨g, n, none⟩ = some y ∧ w3.cell? ⟨g, n + 1, none⟩ = some z := by
  have h := h.out
  have hd : (cur.drop n).length = 2 := by rw [List.length_drop]; omega
  obtain ⟨y, z, e⟩ : ∃ y z, cur.drop n = [y, z] := by
    match hh : cur.drop n, hd with
    | [y, z], _ => exact ⟨y, z, rfl⟩
  have e2 : splice cur 0 cs = cs ++ [y, z] := by
    unfold splice
    rw [List.take_zero, List.nil_append, Nat.zero_add, hs, e]
  rw [e2] at h
  refine ⟨y, z, h, ?_, ?_⟩
  · rw [cell_of_heap h]
    simp [← hs]
  · rw [cell_of_heap h]
    simp [← hs]

theorem own_reads {W4 : World} {g n : Nat} {Hs : List Int} {y z : Value} {t : TypeId} (hH : Hs.length = n) (h : W4.heap[g]? = some (.cells (Hs.map zv ++ [y, z]).toArray t (0, 0))) : Reads W4.drew.heap.size W4.drew (.slice (some ⟨g, 0, none⟩) n (n + 2)) (Hs.map zv) := by
  refine .inr ⟨g, 0, n + 2, by rw [List.length_map, hH], (Array.getElem?_eq_some_iff.1 h).1, ?_⟩
  intro i hi
  have h2 : W4.drew.heap[g]? = some (.cells (Hs.map zv ++ [y, z]).toArray t (0, 0)) := h
  rw [Nat.zero_add, cell_of_heap h2]
  rw [List.getElem?_toArray, List.getElem?_append_left hi, List.getD_eq_getElem?_getD, List.getElem?_eq_getElem hi]
  rfl
theorem own_lt {w : World} {g : Nat} {o : Obj} (h : w.heap[g]? = some o) : g < w.heap.size := (Array.getElem?_eq_some_iff.1 h).1
theorem row_lt {w1 W4 : World} {B : Nat} {base : Nat} {e : TypeId} {v : Value} {n : Nat} {xs : List Value} (h : w1.ownsRow base e 1 v n xs) (hb : Below B w1 W4) {k : Nat} (hk : v.ownBlock = some k) : k < W4.drew.heap.size := Nat.lt_of_lt_of_le (h.lt k hk).2 hb.size
theorem row_not {I : (Nat → Prop) → World → Nat → CopS → Prop} {cF cT : Nat} (sp : CopseSpec I cF cT) {w wn w1 : World} {x : Nat} {C : CopS} {OX : Nat → Prop} (hc : I OX w x C) (hb : Below w.heap.size w wn) {e : TypeId} {v : Value} {n : Nat} {xs : List Value} (h : w1.ownsRow wn.heap.size e 1 v n xs) {k : Nat} (hk : v.ownBlock = some k) : ¬ OX k := by
  intro e2
  have h1 := sp.lt hc k e2
  have h2 := (h.lt k hk).1
  have := hb.size
  omega
theorem own_at77 {w5 : World} {g n : Nat} {Hs : List Int} {y z : Value} {t : TypeId} (hH : Hs.length = n) (h : w5.heap[g]? = some (.cells (Hs.map zv ++ [y, z]).toArray t (0, 0))) : w5.cell? ⟨g, n, none⟩ = some y := by
  rw [cell_of_heap h]; subst hH; simp
theorem own_at78 {w5 : World} {g n : Nat} {Hs : List Int} {y z : Value} {t : TypeId} (hH : Hs.length = n) (h : w5.heap[g]? = some (.cells (Hs.map zv ++ [y, z]).toArray t (0, 0))) : w5.cell? ⟨g, n + 1, none⟩ = some z := by
  rw [cell_of_heap h]; subst hH; simp

theorem own_atk {w5 : World} {g n : Nat} {Hs : List Int} {y z : Value} {t : TypeId} (hH : Hs.length = n) (h : w5.heap[g]? = some (.cells (Hs.map zv ++ [y, z]).toArray t (0, 0))) (k : Nat) (hk : k < n) : w5.cell? ⟨g, k, none⟩ = some (.int .i64 (Hs.getD k 0)) := by
  subst hH
  rw [cell_of_heap h, List.getElem?_toArray, List.getElem?_append_left (by simpa using hk)]
  simp [zv, hk]
theorem row_atk {w5 : World} {base : Nat} {hao : Option Addr} {hcap n : Nat} {Hs : List Int} {e : TypeId} (h : w5.ownsRow base e 1 (.slice hao n hcap) n (Hs.map zv)) (hH : Hs.length = n) (k : Nat) (hk : k < n) : ∃ lb, hao = some ⟨lb, 0, none⟩ ∧ w5.cell? ⟨lb, k, none⟩ = some (.int .i64 (Hs.getD k 0)) := by
  rcases h.2 with ⟨h', hn⟩ | ⟨g', cap, cur, h', _, hg, _⟩
  · omega
  · simp only [Value.slice.injEq] at h'
    obtain ⟨rfl, _, rfl⟩ := h'
    refine ⟨g', rfl, ?_⟩
    subst hH
    rw [h.cellAt k (by omega)]
    simp [zv, hk]
theorem own_row {w5 : World} {g n : Nat} {Hs : List Int} {t : TypeId} {a b : Int} (hH : Hs.length = n) (h : w5.heap[g]? = some (.cells (Hs.map zv ++ [zv a, zv b]).toArray t (0, 0))) (hm : n + 2 ≤ maxLen) : w5.ownsRow 0 t 1 (.slice (some ⟨g, 0, none⟩) (n + 2) (n + 2)) (n + 2) ((Hs ++ [a, b]).map zv) := by
  subst hH
  refine ⟨by simp, .inr ⟨g, Hs.length + 2, _, rfl, Nat.zero_le _, h, Nat.le_refl _, hm, by simp, ?_⟩⟩
  rw [List.take_of_length_le (by simp)]
  simp
theorem own_ge {w w1 : World} (hb : Below w.heap.size w w1) : w.heap.size ≤ w1.heap.size := hb.size
theorem len2 {n : Nat} (h : n ≤ 1100000) : n + 2 ≤ 2000000 := by omega
/-- keepInts, behind Nodes. -/
theorem nodes_keep {I : (Nat → Prop) → World → Nat → CopS → Prop} {cF cT : Nat} {OL K : Nat → Prop} {w w1 w2 : World} {nd : Nat} {wb : Nat} {L : LawS} {av tv mv iv nv : Value} (h : LawAt OL w wb L av tv mv iv nv) (hK : Kept K w L) (hd : ∀ b, OL b → ¬ K b) {tb x r : Nat} {C : CopS} {S : RefS} {l : List (Nat × Tab)} {tav : Value} {OT OX OR : Nat → Prop} (hd2 : ∀ b, Un OT OX OR b → ¬ OL b ∧ ¬ K b) (hn : L.n ≤ 100000000) (htl : L.ints.length ≤ 100000000)
    (sp : CopseSpec I cF cT) (st : TwSt I w tb x r C S l tav OT OX OR) (hb : Below w.heap.size w w1) (ho : Only OX w1 w2) {g n : Nat} {xs : List Value} (hv : w2.ownsRow 0 3 1 (.slice (some ⟨g, 0, none⟩) n n) n xs) (hge : w.heap.size ≤ g) (hnl : n ≤ 2000000) :
    Calls Tryz.prog 120 #[.pointer (some ⟨wb, 0, none⟩), .slice (some ⟨g, 0, none⟩) n n] (w2.drewN nd) fun e w' => e = .returned (.tuple #[]) ∧ KeepLPost OL K (w2.drewN nd) wb L (.slice (some ⟨g, 0, none⟩) n n) w' 0 4 := by
  have hs1 := hb.size
  have hk : ∀ k, OL k ∨ K k → (w2.drewN nd).heap[k]? = w.heap[k]? := by
    intro k hk
    have hlt : k < w.heap.size := hk.elim (h.lt k) (hK.lt k)
    show w2.heap[k]? = _
    rw [ho.block k (by omega) (fun e => hk.elim (hd2 k (.inr (.inl e))).1 (hd2 k (.inr (.inl e))).2), hb.block k hlt]
  have hs : w.heap.size ≤ (w2.drewN nd).heap.size := Nat.le_trans hs1 ho.size
  refine lawKeepInts (h.keep hs (fun k e => hk k (.inl e))) (hK.keep hs (fun k e => hk k (.inr e))) hd hn htl (xs := xs) (owns_same hv (fun _ _ => rfl)) ?_ hnl
  intro k e
  simp [Value.ownBlock] at e
  subst e
  exact ⟨fun e2 => by have := h.lt _ e2; omega, fun e2 => by have := hK.lt _ e2; omega⟩
theorem own_new {w w1 W4 w5 : World} {OX OX2 : Nat → Prop} {o : Obj} {n m : Nat} (hbw1 : Below w.heap.size w w1) (hG5 : w5.heap[w1.heap.size]? = some o) (hg5 : Grows W4.drew OX OX2) (hng : ¬ OX w1.heap.size) {y : Obj} (hG4 : W4.heap[w1.heap.size]? = some y) : ∀ k, (Value.slice (some ⟨w1.heap.size, 0, none⟩) n m).ownBlock = some k → w.heap.size ≤ k ∧ k < w5.heap.size ∧ ¬ OX2 k := by
  intro k hk
  simp [Value.ownBlock] at hk
  subst hk
  refine ⟨hbw1.size, own_lt hG5, fun e => ?_⟩
  rcases hg5 _ e with e | e
  · exact hng e
  · have := own_lt hG4
    have h2 : W4.drew.heap.size = W4.heap.size := rfl
    omega

theorem row_law {OL : Nat → Prop} {w wn w1 : World} {wb : Nat} {L : LawS} {av tv mv iv nv : Value} (h : LawAt OL w wb L av tv mv iv nv) (hb : Below w.heap.size w wn) {e : TypeId} {v : Value} {n : Nat} {xs : List Value} (ho : w1.ownsRow wn.heap.size e 1 v n xs) {k : Nat} (hk : v.ownBlock = some k) : ¬ OL k := by
  intro e2
  have h1 := h.lt k e2
  have h2 := (ho.lt k hk).1
  have := hb.size
  omega
theorem tabs_kept {w1 W4 w5 w6 : World} {OX OL K : Nat → Prop} {base nd wb n m : Nat} {L : LawS} {e : TypeId} {v : Value} {c : Nat} {xs : List Value} (h : w1.ownsRow base e 1 v c xs) (hb : Below w1.heap.size w1 W4) (ho : Only OX W4.drew w5) (hx : ∀ {k}, v.ownBlock = some k → ¬ OX k) (hL : ∀ {k}, v.ownBlock = some k → ¬ OL k) {nt ni : Nat} (hk : KeepLPost OL K (w5.drewN nd) wb L (.slice (some ⟨w1.heap.size, 0, none⟩) n m) w6 nt ni) : w6.ownsRow base e 1 v c xs := by
  obtain ⟨OL', K', L', hl', _, _, _, _, hoL, _, _⟩ := hk
  refine owns_same h (fun k hk => ?_)
  have hlt := (h.lt k hk).2
  have h4 : W4.drew.heap[k]? = w1.heap[k]? := hb.block k hlt
  have hs4 : w1.heap.size ≤ W4.drew.heap.size := hb.size
  have h5 : (w5.drewN nd).heap[k]? = W4.drew.heap[k]? := ho.block k (by omega) (hx hk)
  have hs5 : W4.drew.heap.size ≤ (w5.drewN nd).heap.size := ho.size
  have h6 := hoL.block k (by omega) (fun e => e.elim (hL hk) (fun e => by simp [Value.ownBlock] at e; omega))
  exact h6.trans (h5.trans h4)

theorem own_stored {w3 : World} {g n : Nat} {cs : List Value} {t : TypeId} {y z : Value} (h : w3.heap[g]? = some (.cells (cs ++ [y, z]).toArray t (0, 0))) (hs : cs.length = n) (a b : Value) : ((w3.setCell ⟨g, n, none⟩ a).setCell ⟨g, n + 1, none⟩ b).heap[g]? = some (.cells (cs ++ [a, b]).toArray t (0, 0)) := by
  rw [heap_setCell_at (heap_setCell_at h)]
  congr 2
  subst hs
  apply Array.ext'
  simp

set_option maxHeartbeats 4000000 in
set_option maxRecDepth 20000 in
theorem asks_nodes {I : (Nat → Prop) → World → Nat → CopS → Prop} {cF cT : Nat} (sp : CopseSpec I cF cT) {w : World} {tb x r N : Nat} {C : CopS} {S : RefS} {l : List (Nat × Tab)} {av : Value} {OT OX OR : Nat → Prop} (st : TwSt I w tb x r C S l av OT OX OR) (ok : TwOk cF cT N C S l) (hN : N ≤ 3000000)
    (o : OpS) (fv : Value) (hF : FReads w.heap.size w fv (o.f.map zv)) (hFl : o.f.length ≤ 2000000) (hz : ∀ z ∈ o.f, i64ok z) (hs : o.s.size ≤ maxLen) (hk : o.kind = 8) {wb : Nat} {L : LawS} {OL K : Nat → Prop} (hl : LawIs OL K w wb L) (hd2 : ∀ b, Un OT OX OR b → ¬ OL b ∧ ¬ K b) (hLn : L.n ≤ 100000000) (hLt : L.ints.length ≤ 100000000) (hF1 : o.f.length ≤ 1100000) :
    Calls Tryz.prog 65 #[.pointer (some ⟨wb, 0, none⟩), .pointer (some ⟨tb, 0, none⟩), opv o fv] w fun e w' => e = .returned (.bool true) ∧ AskPostX I cF cT w tb (N + 1) (Un OT OX OR) wb L OL K S (l.map Prod.snd) w' := by
  obtain ⟨fao, fcap, rfl⟩ := reads_form hF
  have hat := fun z hz2 wq hb => at_box2 sp st ok hN o fao fcap hF hFl hz z hz2 wq hb
  obtain ⟨kd, on, oa, ov, F, os⟩ := o
  dsimp only at hk hat hFl hs hF hz hF1
  subst hk
  have htl := st.t.lt tb st.t.self
  have hX : w.cell? ⟨tb, 0, none⟩ = some (.pointer (some ⟨x, 0, none⟩)) := by rw [cell_of_heap st.t.cells]; rfl
  have hRp : w.cell? ⟨tb, 1, none⟩ = some (.pointer (some ⟨r, 0, none⟩)) := by rw [cell_of_heap st.t.cells]; rfl
  have hbw := (Below.refl w.heap.size w).alloc (Nat.le_refl _) (.cells #[.int .i64 8, .int .i64 on, .int .i64 oa, .bool ov, .slice fao F.length fcap, .string os] 66)
  have hbl := Below.refl (w.heap.size + 1) (w.alloc (.cells #[.int .i64 8, .int .i64 on, .int .i64 oa, .bool ov, .slice fao F.length fcap, .string os] 66))
  have hsz : w.heap.size + 1 ≤ (w.alloc (.cells #[.int .i64 8, .int .i64 on, .int .i64 oa, .bool ov, .slice fao F.length fcap, .string os] 66)).heap.size := by simp
  have hsev := fun wq hb => several_box sp st ok hN ⟨8, on, oa, ov, F, os⟩ fao fcap hF hFl hz wq hb
  dsimp only at hsev
  obtain ⟨kz, ez, hnodes, hkz⟩ := nodes_any sp (OX := OX) (x := x) ok F hFl
  have hTl : (sevTs l F F.length).length ≤ 5000000 := by rw [sevTs_len]; omega
  generalize hHs : sevHs l F F.length = Hs at hsev hnodes
  generalize hTs : sevTs l F F.length = Ts at hsev hkz hTl
  generalize hOk : sevOk l F F.length = okb at hsev hkz
  have hHl : Hs.length = F.length := by rw [← hHs]; exact sevHs_len _ _ _
  obtain ⟨⟨lav, ltv, lmv, liv, lnv, hLa⟩, hKa, hdK⟩ := id hl
  obtain ⟨i0, hi, hz0, hz1, hz2⟩ := info_parts Tryz.infoInt
  clear hF hz
  unfold opv
  dsimp only
  go_enter Tryz.func65, Tryz.ntmps65
  go_wp2_with (first
    | (go_at_call 110; refine (hat _ ?_ _ hbw).mono ?_; decide; rintro e wn ⟨rfl, hn⟩; replace hbw := hbw.trans (hn.mono hbw.size); replace hbl := hbl.trans (hn.mono hsz); replace hsz := Nat.le_trans hsz hn.size; clear hn; obtain ⟨b0, b1, b2, b3, b4, b5⟩ := box_cells hbl; have hXn := (hbw.cell (p := ⟨tb, 0, none⟩) htl).trans hX; have hRn := (hbw.cell (p := ⟨tb, 1, none⟩) htl).trans hRp)
    | (go_at_call 119; refine (hsev _ hbw).mono ?_; rintro e w1 ⟨hv, tv, rfl, hvo, hto, hb1⟩; obtain ⟨hao, hcap, rfl⟩ := owns_form hvo; replace hbw1 := hbw.trans (hb1.mono hbw.size))
    | (at_make; refine wpList_make_full _ rfl _ _ 25 rfl w1.heap.size 3 i0 (.int .i64 0) 1 Tryz.underlying25 hi hz0 hz1 _ _ _ _ (F.length + 2) rfl rfl ?_ ?_ ?_ ?_ ?_ ?_; exact natc2 F.length; exact natc2 F.length; exact make_b2 hz2 hFl; exact make_b3 hFl; exact Nat.le_refl _; intro w2 hmk hg2)
    | (refine wpList_copy_splice rfl (.tmp 129) (.tmp 130) 25 25 rfl 3 Tryz.underlying25 Tryz.infoInt1 _ _ _ _ _ _ rfl rfl w1.heap.size 0 (madeCells (Value.int .i64 0).cells ((F.length + 2) * 1)).toList 3 (own_heap hmk) (Hs.map zv) ?_ ?_ ?_ (zs_oneCell _) w1.heap.size w1 (grown_none hg2) (Nat.le_refl _) ?_; exact copy_len hHl; exact copy_pos hvo hg2; exact copy_fit hHl; intro w3 hh3 hb3; obtain ⟨y3, z3, hG, c3, c4⟩ := own_made hh3 (made_len F.length) (map_len hHl); have fz3 := frozen_of_heap (o := F.length) hG; have fz4 := frozen_of_heap (o := F.length + 1) hG; clear hh3))
  obtain ⟨W4, hW4⟩ : ∃ W4, W4 = (w3.setCell ⟨w1.heap.size, F.length, none⟩ (.int .i64 77)).setCell ⟨w1.heap.size, F.length + 1, none⟩ (.int .i64 78) := ⟨_, rfl⟩
  rw [← hW4]
  have hG4 : W4.heap[w1.heap.size]? = some (.cells (Hs.map zv ++ [zv 77, zv 78]).toArray 3 (0, 0)) := by rw [hW4]; exact own_stored hG (map_len hHl) _ _
  have hb4 : Below w1.heap.size w1 W4 := by rw [hW4]; exact (hb3.setCell (Nat.le_refl _) _).setCell (Nat.le_refl _) _
  clear hW4 hG c3 c4 fz3 fz4 hmk hg2 hb3
  have hbw4 : Below w.heap.size w W4 := hbw1.trans (hb4.mono hbw1.size)
  have hX4 := (hbw4.cell (p := ⟨tb, 0, none⟩) htl).trans hX
  have hRd : Reads W4.drew.heap.size W4.drew (.slice (some ⟨w1.heap.size, 0, none⟩) F.length (F.length + 2)) (Hs.map zv) := own_reads hHl hG4
  have hng : ¬ OX w1.heap.size := fun e => by have := sp.lt st.c _ e; have := hbw1.size; omega
  go_region_held (fun w' => w'.cell? ⟨tb, 0, none⟩ = some (.pointer (some ⟨x, 0, none⟩))) (go_keep) (first | (go_at_call 29; refine (hnodes _ _ (st.below sp hbw4.drew).c hRd).mono ?_; rintro e w5 ⟨rfl, hsc⟩; obtain ⟨OX2, st5, ho5, hg5⟩ := (st.below sp hbw4.drew).stepC sp hsc; have hx5 : w5.cell? ⟨tb, 0, none⟩ = some (.pointer (some ⟨x, 0, none⟩)) := (by rw [cell_of_heap st5.t.cells]; rfl)))
  have hG5 : w5.heap[w1.heap.size]? = some (.cells (Hs.map zv ++ [zv 77, zv 78]).toArray 3 (0, 0)) := (ho5.block w1.heap.size (own_lt hG4) hng).trans hG4
  have hvo5 := owns_same (owns_below hvo hb4 (Nat.le_refl _)) (w' := w5) (fun k e => ho5.block k (row_lt hvo hb4 e) (row_not sp st.c hbw hvo e))
  have c5 : w5.cell? ⟨w1.heap.size, F.length, none⟩ = some (.int .i64 77) := own_at77 hHl hG5
  have c6 : w5.cell? ⟨w1.heap.size, F.length + 1, none⟩ = some (.int .i64 78) := own_at78 hHl hG5
  go_wp2
  go_loopw [25, 26] (fun wh i wr => ∃ k : Nat, k ≤ F.length ∧ i = .int .i64 k ∧ wh = .bool true ∧ ∃ nd, wr = w5.drewN nd) (fun _ i _ => F.length - (intOf i).toNat)
  case atStart => exact ⟨0, Nat.zero_le _, rfl, rfl, 0, rfl⟩
  case round =>
    obtain ⟨k, hkF, rfl, rfl, nd, rfl⟩ := hrel
    by_cases hkl : k < F.length
    · have hown := own_atk hHl hG5 k hkl
      obtain ⟨lb, hao2, hlk⟩ := row_atk hvo5 hHl k hkl
      subst hao2
      obtain ⟨zk, hzk⟩ : ∃ zk, zk = Hs.getD k 0 := ⟨_, rfl⟩
      rw [← hzk] at hown hlk
      clear hzk hat hsev hnodes
      go_wp2
      go_quiet (fail)
      go_wp2
      go_roundw
      case rel => exact ⟨k + 1, by omega, by go_num, rfl, _, rfl⟩
      case measure => simp [intOf]; omega
    · have hbD := below_drewN (Below.refl w5.heap.size w5) nd
      have hkeep := nodes_keep (nd := nd) hLa hKa hdK hd2 hLn hLt sp st hbw4.drew ho5 (own_row hHl hG5 (make_b3 hFl)) (own_ge hbw1) (len2 hF1)
      clear hat hsev hnodes c5 c6
      rcases hkz with ⟨rfl, rfl, rfl⟩ | ⟨rfl, rfl, rfl⟩
      · go_wp2_with (first
          | (go_at_call 120; refine hkeep.mono ?_; rintro e w6 ⟨rfl, hkp⟩; obtain ⟨hask, st6⟩ := sup_post sp st ok hl hd2 hbw4.drew ho5 st5.c hg5 (own_new hbw1 hG5 hg5 hng hG4) hbD (by decide) (by decide) hkp; have hr6 : w6.cell? ⟨tb, 1, none⟩ = some (.pointer (some ⟨r, 0, none⟩)) := (by rw [cell_of_heap st6.t.cells]; rfl); have hto6 := tabs_kept hto hb4 ho5 (row_not sp st.c hbw hto) (row_law hLa hbw hto) (nd := nd) hkp; obtain ⟨rnv, rov, rlv, hRA⟩ := id st6.s; have hc26 : w6.cell? ⟨r, 2, none⟩ = some rov := (by rw [cell_of_heap hRA.cells]; rfl))
          | (go_at_call 108; refine (refAll_any S.order ok.o6 ok.ol _ _ Ts _ hRA.order.reads (reads_of_owns hto6) hTl).mono ?_; rintro e w7 ⟨v7, rfl, hv7, hb7⟩; obtain ⟨ao7, cap7, rfl⟩ := owns_form hv7))
        go_ret
        exact ⟨rfl, hask.below sp hb7⟩
      · go_wp2_with (first
          | (go_at_call 120; refine hkeep.mono ?_; rintro e w6 ⟨rfl, hkp⟩; obtain ⟨hask, st6⟩ := sup_post sp st ok hl hd2 hbw4.drew ho5 st5.c hg5 (own_new hbw1 hG5 hg5 hng hG4) hbD (by decide) (by decide) hkp; have hr6 : w6.cell? ⟨tb, 1, none⟩ = some (.pointer (some ⟨r, 0, none⟩)) := (by rw [cell_of_heap st6.t.cells]; rfl))
          | (go_at_call 103; refine (lawNum _ _).mono ?_; rintro e w9 ⟨rfl, hq⟩; replace hq := hq.symm; subst hq))
        go_ret
        exact ⟨rfl, hask⟩

end Go.Proofs.YtebfmcafmojlaaaGreatDoor

/-
  copselaw.World: orders: Const.
-/
namespace Go.Proofs.YtebfmcafmojlaaaGreatDoor
open Go.RowKit
set_option linter.unusedSimpArgs false
set_option linter.unusedVariables false

theorem tw_still {I : (Nat → Prop) → World → Nat → CopS → Prop} {cF cT : Nat} (sp : CopseSpec I cF cT) {w w1 : World} {tb x r N : Nat} {C : CopS} {S : RefS} {l : List (Nat × Tab)} {av : Value} {OT OX OR : Nat → Prop} (h : TwSt I w tb x r C S l av OT OX OR) (ok : TwOk cF cT N C S l) (hb : Below w.heap.size w w1) : TwPost I cF cT w tb (N + 1) (Un OT OX OR) w1 :=
  ⟨only_of_below hb _, Un OT OX OR, TwIs.mono ⟨x, r, C, S, l, av, OT, OX, OR, h.below sp hb, ok, fun b => Iff.rfl⟩ (Nat.le_succ N), Grows.refl _ _⟩

set_option maxHeartbeats 4000000 in
set_option maxRecDepth 20000 in
theorem orders_const {I : (Nat → Prop) → World → Nat → CopS → Prop} {cF cT : Nat} (sp : CopseSpec I cF cT) {w : World} {tb x r N : Nat} {C : CopS} {S : RefS} {l : List (Nat × Tab)} {av : Value} {OT OX OR : Nat → Prop} (st : TwSt I w tb x r C S l av OT OX OR) (ok : TwOk cF cT N C S l) (hN : N ≤ 3000000)
    (o : OpS) (fv : Value) (hF : FReads w.heap.size w fv (o.f.map zv)) (hFl : o.f.length ≤ 2000000) (hz : ∀ z ∈ o.f, i64ok z) (hs : o.s.size ≤ maxLen) (hk : o.kind = 9) (wb : Nat) :
    Calls Tryz.prog 66 #[.pointer (some ⟨wb, 0, none⟩), .pointer (some ⟨tb, 0, none⟩), opv o fv] w fun e w' => e = .returned (.bool true) ∧ TwPost I cF cT w tb (N + 1) (Un OT OX OR) w' := by
  obtain ⟨fao, fcap, rfl⟩ := reads_form hF
  have hat := fun z hz2 wq hb => at_box2 sp st ok hN o fao fcap hF hFl hz z hz2 wq hb
  obtain ⟨kd, on, oa, ov, F, os⟩ := o
  dsimp only at hk hat hFl hs 
  subst hk
  have htl := st.t.lt tb st.t.self
  have hX : w.cell? ⟨tb, 0, none⟩ = some (.pointer (some ⟨x, 0, none⟩)) := by rw [cell_of_heap st.t.cells]; rfl
  have hRp : w.cell? ⟨tb, 1, none⟩ = some (.pointer (some ⟨r, 0, none⟩)) := by rw [cell_of_heap st.t.cells]; rfl
  have hbw := (Below.refl w.heap.size w).alloc (Nat.le_refl _) (.cells #[.int .i64 9, .int .i64 on, .int .i64 oa, .bool ov, .slice fao F.length fcap, .string os] 66)
  have hbl := Below.refl (w.heap.size + 1) (w.alloc (.cells #[.int .i64 9, .int .i64 on, .int .i64 oa, .bool ov, .slice fao F.length fcap, .string os] 66))
  have hsz : w.heap.size + 1 ≤ (w.alloc (.cells #[.int .i64 9, .int .i64 on, .int .i64 oa, .bool ov, .slice fao F.length fcap, .string os] 66)).heap.size := by simp
  obtain ⟨g, cap, rfl, hOg, hcx⟩ := st.t.read (by have := ok.l2; omega)
  have hgl := st.t.lt g hOg
  have hav : w.cell? ⟨tb, 2, none⟩ = some (.slice (some ⟨g, 0, none⟩) l.length cap) := by rw [cell_of_heap st.t.cells]; rfl
  have q0 := (hcx 0 (by have := ok.l2; omega)).1
  have q1 := (hcx 1 (by have := ok.l2; omega)).1
  rw [ok.l0] at q0
  rw [ok.l1] at q1
  have hll := ok.l2
  have hconst := fun wq (hc : I OX wq x C) => sp.const hc ov
  generalize hzE : (if ov = true then cT else cF) = zc at hconst
  have HZ : Hid _ := hzE
  clear hzE
  simp only [Nat.zero_mul, Nat.one_mul, intv] at q0 q1
  clear hcx hat
  clear hF hz
  unfold opv
  dsimp only
  go_enter Tryz.func66, Tryz.ntmps66
  go_wp2_with fail
  go_region_held (fun w' => w'.cell? ⟨tb, 0, none⟩ = some (.pointer (some ⟨x, 0, none⟩)) ∧ w'.cell? ⟨w.heap.size, 3, none⟩ = some (.bool ov)) (go_keep) (first | (go_at_call 23; refine (hconst _ (st.below sp hbw.drew).c).mono ?_; rintro e w2 ⟨rfl, hb2⟩; have hbw2 := hbw.drew.trans (hb2.mono hbw.size); have hx2 := (hbw2.cell (p := ⟨tb, 0, none⟩) htl).trans hX; obtain ⟨d0, d1, d2, d3, d4, d5⟩ := box_cells (hbl.drew.trans (hb2.mono hsz)); have hav2 := (hbw2.cell (p := ⟨tb, 2, none⟩) htl).trans hav; have r0 := (hbw2.cell (p := ⟨g, 0, none⟩) hgl).trans q0; have r1 := (hbw2.cell (p := ⟨g, 2, none⟩) hgl).trans q1))
  cases ov
  · have e := HZ.out
    rw [if_neg (by decide)] at e
    subst e
    go_wp2_with fail
    go_ret
    exact ⟨rfl, tw_still sp st ok hbw2⟩
  · have e := HZ.out
    rw [if_pos rfl] at e
    subst e
    go_wp2_with fail
    go_ret
    exact ⟨rfl, tw_still sp st ok hbw2⟩

end Go.Proofs.YtebfmcafmojlaaaGreatDoor

/-
  copselaw: works, asks, orders: every case together.
-/
namespace Go.Proofs.YtebfmcafmojlaaaGreatDoor
open Go.RowKit
set_option linter.unusedSimpArgs false
set_option linter.unusedVariables false

/-- A step that can be read: its list, its text, its numbers. -/
structure OpOk (w : World) (o : OpS) (fv : Value) : Prop where
  f : FReads w.heap.size w fv (o.f.map zv)
  fl : o.f.length ≤ 1100000
  z : ∀ z ∈ o.f, i64ok z
  s : o.s.size ≤ maxLen
  a : i64ok o.a
  on : i64ok o.on
  k : i64ok o.kind

theorem un_eq {O OT OX OR : Nat → Prop} (h : ∀ b, O b ↔ (OT b ∨ OX b ∨ OR b)) : O = Un OT OX OR := funext fun b => propext (h b)

theorem lawWorks {I : (Nat → Prop) → World → Nat → CopS → Prop} {cF cT : Nat} (sp : CopseSpec I cF cT) {O : Nat → Prop} {w : World} {tb N : Nat} (h : TwIs I cF cT O w tb N) (hN : N ≤ 3000000) {o : OpS} {fv : Value} (ho : OpOk w o fv) (hk : o.kind = 3 ∨ o.kind = 4 ∨ o.kind = 5) :
    Calls Tryz.prog 64 #[.pointer (some ⟨tb, 0, none⟩), opv o fv] w fun e w' => e = .returned (.bool true) ∧ TwPost I cF cT w tb (N + 1) O w' := by
  obtain ⟨x, r, C, S, l, av, OT, OX, OR, st, ok, hO⟩ := h
  rw [un_eq hO]
  have hfl : o.f.length ≤ 2000000 := Nat.le_trans ho.fl (by decide)
  rcases hk with hk | hk | hk
  · cases hp : sevB l o.f 0
    · exact works_not_bad sp st ok hN o fv ho.f hfl ho.z hk hp
    · by_cases hf : fullC C S.live (~~~ (sevT l o.f 0))
      · exact works_not_full sp st ok hN o fv ho.f hfl ho.z ho.s hk hp hf
      · exact (works_not_room sp st ok hN o fv ho.f hfl ho.z ho.s hk hp hf).mono (fun e w' h => ⟨h.1, h.2.post⟩)
  · cases hp : sevB l o.f 0
    · exact works_ite_bad0 sp st ok hN o fv ho.f hfl ho.z ho.s hk hp
    · cases hp1 : sevB l o.f 1
      · exact works_ite_bad1 sp st ok hN o fv ho.f hfl ho.z ho.s hk hp hp1
      · cases hp2 : sevB l o.f 2
        · exact works_ite_bad2 sp st ok hN o fv ho.f hfl ho.z ho.s hk hp hp1 hp2
        · by_cases hf : fullC C S.live (iteT (sevT l o.f 0) (sevT l o.f 1) (sevT l o.f 2))
          · exact works_ite_full sp st ok hN o fv ho.f hfl ho.z ho.s hk ⟨hp, hp1, hp2⟩ hf
          · exact (works_ite_room sp st ok hN o fv ho.f hfl ho.z ho.s hk ⟨hp, hp1, hp2⟩ hf).mono (fun e w' h => ⟨h.1, h.2.post⟩)
  · cases hp : sevB l o.f 0
    · exact works_res_bad sp st ok hN o fv ho.f hfl ho.z ho.s hk hp
    · cases hv : S.names.findIdx? (fun y => y.toList == o.s.toList) with
      | none => exact works_res_name sp st ok hN o fv ho.f hfl ho.z ho.s hk hp hv
      | some v =>
        by_cases hf : fullC C S.live (given (sevT l o.f 0) v o.v)
        · exact works_res_full sp st ok hN o fv ho.f hfl ho.z ho.s hk hp v hv hf
        · exact works_res_room sp st ok hN o fv ho.f hfl ho.z ho.s hk hp v hv hf

theorem lawAsks {I : (Nat → Prop) → World → Nat → CopS → Prop} {cF cT : Nat} (sp : CopseSpec I cF cT) {O : Nat → Prop} {w : World} {tb N : Nat} (h : TwIs I cF cT O w tb N) (hN : N ≤ 3000000) {o : OpS} {fv : Value} (ho : OpOk w o fv) (hk : o.kind = 6 ∨ o.kind = 7 ∨ o.kind = 8)
    {wb : Nat} {L : LawS} {OL K : Nat → Prop} (hl : LawIs OL K w wb L) (hd : ∀ b, O b → ¬ OL b ∧ ¬ K b) (hLn : L.n ≤ 100000000) (hLt : L.texts.length ≤ 100000000) (hLi : L.ints.length ≤ 100000000) :
    Calls Tryz.prog 65 #[.pointer (some ⟨wb, 0, none⟩), .pointer (some ⟨tb, 0, none⟩), opv o fv] w fun e w' => e = .returned (.bool true) ∧ AskPost I cF cT w tb (N + 1) O wb L OL K w' := by
  obtain ⟨x, r, C, S, l, av, OT, OX, OR, st, ok, hO⟩ := h
  have hU := un_eq hO
  subst hU
  have hfl : o.f.length ≤ 2000000 := Nat.le_trans ho.fl (by decide)
  have hof : ∀ e w', (e = Ending.returned (.bool true) ∧ TwPost I cF cT w tb (N + 1) (Un OT OX OR) w') → (e = Ending.returned (.bool true) ∧ AskPost I cF cT w tb (N + 1) (Un OT OX OR) wb L OL K w') := fun e w' h => ⟨h.1, ask_of_tw h.2 hl hd⟩
  rcases hk with hk | hk | hk
  · cases hp : sevB l o.f 0
    · exact (asks_eval_bad sp st ok hN o fv ho.f hfl ho.z ho.s hk wb ho.a hp).mono hof
    · exact (asks_eval sp st ok hN o fv ho.f hfl ho.z ho.s hk wb ho.a hp).mono hof
  · cases hp : sevB l o.f 0
    · exact (asks_sup_bad sp st ok hN o fv ho.f hfl ho.z ho.s hk wb hp).mono hof
    · exact asks_sup sp st ok hN o fv ho.f hfl ho.z ho.s hk hp hl hd hLn hLt
  · exact (asks_nodes sp st ok hN o fv ho.f hfl ho.z ho.s hk hl hd hLn hLi ho.fl).mono (fun e w' h => ⟨h.1, h.2.post⟩)

theorem lawConst {I : (Nat → Prop) → World → Nat → CopS → Prop} {cF cT : Nat} (sp : CopseSpec I cF cT) {O : Nat → Prop} {w : World} {tb N : Nat} (h : TwIs I cF cT O w tb N) (hN : N ≤ 3000000) {o : OpS} {fv : Value} (ho : OpOk w o fv) (hk : o.kind = 9) (wb : Nat) :
    Calls Tryz.prog 66 #[.pointer (some ⟨wb, 0, none⟩), .pointer (some ⟨tb, 0, none⟩), opv o fv] w fun e w' => e = .returned (.bool true) ∧ TwPost I cF cT w tb (N + 1) O w' := by
  obtain ⟨x, r, C, S, l, av, OT, OX, OR, st, ok, hO⟩ := h
  rw [un_eq hO]
  exact orders_const sp st ok hN o fv ho.f (Nat.le_trans ho.fl (by decide)) ho.z ho.s hk wb

end Go.Proofs.YtebfmcafmojlaaaGreatDoor

/-
  copselaw.World: begin.
-/
namespace Go.Proofs.YtebfmcafmojlaaaGreatDoor
open Go.RowKit
set_option linter.unusedSimpArgs false
set_option linter.unusedVariables false

theorem refNew_is (cap : Int) (w : World) (h1 : 1 ≤ cap) (h2 : cap ≤ 300) :
    Calls Tryz.prog 102 #[.int .i64 cap] w fun e w' => ∃ r O, e = .returned (.tuple #[.pointer (some ⟨r, 0, none⟩), .int .i64 0]) ∧ RefIs O w' r ⟨cap, [], [], []⟩ ∧ (∀ b, O b → w.heap.size ≤ b) ∧ Below w.heap.size w w' := by
  refine (refNew_yes cap w h1 h2).mono ?_
  rintro e w' ⟨rfl, rfl⟩
  exact ⟨_, _, rfl, refIs_new cap w, fun b hb => by rw [hb]; exact Nat.le_refl _, (Below.refl _ _).alloc (Nat.le_refl _) _⟩

theorem twOk_new {I : (Nat → Prop) → World → Nat → CopS → Prop} {cF cT : Nat} (sp : CopseSpec I cF cT) (cap : Int) : TwOk cF cT 0 ⟨cap, [], [], T0 cF cT⟩ ⟨cap, [], [], []⟩ [(cF, 0), (cT, onesT)] := by
  have hne := sp.ne
  refine ⟨rfl, rfl, rfl, by simp, by simp, rfl, by simp, by simp, by simp, by simp, rfl, rfl, ?_, ?_, ?_⟩
  · intro h f
    show T0 cF cT h = some f ↔ _
    unfold T0
    by_cases e : h = cF
    · subst e
      simp only [if_true, Option.some.injEq, List.mem_cons, Prod.mk.injEq, true_and, List.not_mem_nil, or_false]
      constructor
      · intro e; exact .inl e.symm
      · rintro (e | ⟨e, _⟩)
        · exact e.symm
        · exact absurd e hne
    · by_cases e2 : h = cT
      · subst e2
        simp only [if_neg e, if_true, Option.some.injEq, List.mem_cons, Prod.mk.injEq, true_and, List.not_mem_nil, or_false]
        constructor
        · intro e; exact .inr e.symm
        · rintro (⟨e, _⟩ | e)
          · exact absurd e (fun e => hne e.symm)
          · exact e.symm
      · simp [e, e2]
  · intro p hp
    simp at hp
    rcases hp with rfl | rfl
    · exact sp.cFm
    · exact sp.cTm
  · intro f
    show (∃ h, T0 cF cT h = some f) ↔ (f ∈ [] ∨ f = 0 ∨ f = onesT)
    unfold T0
    constructor
    · rintro ⟨h, e⟩
      split at e
      · simp at e; exact .inr (.inl e.symm)
      · split at e
        · simp at e; exact .inr (.inr e.symm)
        · cases e
    · rintro (e | e | e)
      · cases e
      · exact ⟨cF, by rw [if_pos rfl, e]⟩
      · exact ⟨cT, by rw [if_neg (fun e => hne e.symm), if_pos rfl, e]⟩

/-- Behind 'begin': a twin more, or none. -/
def BeginPost (I : (Nat → Prop) → World → Nat → CopS → Prop) (cF cT : Nat) (w : World) (wb : Nat) (L : LawS) (OL K : Nat → Prop) (cap : Int) (w' : World) : Prop :=
  (¬ (1 ≤ cap ∧ cap ≤ 300) ∧ Below w.heap.size w w') ∨ ∃ tb OL' O', LawIs OL' K w' wb { L with tbs := L.tbs ++ [tb] } ∧ TwIsX I cF cT O' w' tb 0 ⟨cap, [], [], []⟩ [0, onesT] ∧ Only OL w w' ∧ Grows w OL OL' ∧ (∀ b, O' b → w.heap.size ≤ b) ∧ (∀ b, O' b → ¬ OL' b ∧ ¬ K b)

set_option maxHeartbeats 4000000 in
set_option maxRecDepth 20000 in
theorem begin_no {I : (Nat → Prop) → World → Nat → CopS → Prop} {cF cT : Nat} (sp : CopseSpec I cF cT) {w : World} {wb : Nat} (o : OpS) (fv : Value) (L : LawS) (OL K : Nat → Prop) (ho : OpOk w o fv) (hc : o.a < 1 ∨ 300 < o.a) :
    Calls Tryz.prog 60 #[.pointer (some ⟨wb, 0, none⟩), opv o fv] w fun e w' => e = .returned (.bool true) ∧ BeginPost I cF cT w wb L OL K o.a w' := by
  obtain ⟨fao, fcap, rfl⟩ := reads_form ho.f
  obtain ⟨kd, on, oa, ov, F, os⟩ := o
  dsimp only at hc
  have hnew := fun wq => sp.new_no oa wq hc
  have href := fun wq => refNew_no oa wq hc
  have hbw := (Below.refl w.heap.size w).alloc (Nat.le_refl _) (.cells #[.int .i64 kd, .int .i64 on, .int .i64 oa, .bool ov, .slice fao F.length fcap, .string os] 66)
  have hbl := Below.refl (w.heap.size + 1) (w.alloc (.cells #[.int .i64 kd, .int .i64 on, .int .i64 oa, .bool ov, .slice fao F.length fcap, .string os] 66))
  have hsz : w.heap.size + 1 ≤ (w.alloc (.cells #[.int .i64 kd, .int .i64 on, .int .i64 oa, .bool ov, .slice fao F.length fcap, .string os] 66)).heap.size := by simp
  have hc2 : ¬ (1 ≤ oa ∧ oa ≤ 300) := by omega
  clear ho hc
  unfold opv
  dsimp only
  go_enter Tryz.func60, Tryz.ntmps60
  go_wp2_with (first
    | (go_at_call 18; refine (hnew _).mono ?_; rintro e w2 ⟨rfl, hb2⟩; replace hbw := hbw.trans (hb2.mono hbw.size); obtain ⟨d0, d1, d2, d3, d4, d5⟩ := box_cells (hbl.trans (hb2.mono hsz)))
    | (go_at_call 102; refine (href _).mono ?_; rintro e w3 ⟨rfl, hq⟩; replace hq := hq.symm; subst hq)
    | (go_at_call 103; refine (lawNum _ _).mono ?_; rintro e w9 ⟨rfl, hq⟩; replace hq := hq.symm; subst hq))
  go_goals
  go_ret
  exact ⟨rfl, .inl ⟨hc2, hbw⟩⟩

end Go.Proofs.YtebfmcafmojlaaaGreatDoor

/-
  TWO VARIABLES CHANGE PLACES: graphs by what their nodes tell.
-/
namespace Go.Proofs.YtebfmcafmojlaaaGreatDoor
set_option linter.unusedSimpArgs false
set_option linter.unusedVariables false

/-- A graph in which a node of variable v may hang on a variable u ahead of it where ex v u. -/
structure Gr.Sm (G : Gr) (ex : Nat → Nat → Prop) : Prop where
  nodup : G.order.Nodup
  lt6 : ∀ v ∈ G.order, v < 6
  zero : G.node 0 = none
  sem0 : G.sem 0 = onesT
  var : ∀ {i n}, G.node i = some n → n.v ∈ G.order
  tev : ∀ {i n}, G.node i = some n → n.t % 2 = 0
  tok : ∀ {i n}, G.node i = some n → G.ok n.t
  eok : ∀ {i n}, G.node i = some n → G.ok n.e
  ne : ∀ {i n}, G.node i = some n → n.t ≠ n.e
  is : ∀ {i n}, G.node i = some n → G.sem i = iteT (mask n.v) (G.tab n.t) (G.tab n.e)
  td : ∀ {i n}, G.node i = some n → hangs (G.tab n.t) n.v = false
  ed : ∀ {i n}, G.node i = some n → hangs (G.tab n.e) n.v = false
  up : ∀ {i n}, G.node i = some n → ∀ u ∈ G.order, G.idx u < G.idx n.v → ¬ ex n.v u → hangs (G.sem i) u = false
  si : ∀ {i j n m}, G.node i = some n → G.node j = some m → G.sem i = G.sem j → i = j
  b63 : ∀ {i n}, G.node i = some n → (G.sem i).getLsbD 63 = true
  nc : ∀ {i n}, G.node i = some n → G.sem i ≠ onesT

theorem Gr.Sm.v6 {G : Gr} {ex : Nat → Nat → Prop} (k : G.Sm ex) {i : Nat} {n : Nd} (h : G.node i = some n) : n.v < 6 := k.lt6 _ (k.var h)

theorem Gr.Sm.bit {G : Gr} {ex : Nat → Nat → Prop} (k : G.Sm ex) {r : Nat} (h : G.ok r) : (G.tab r).getLsbD 63 = decide (r % 2 = 0) := by
  have hs : (G.sem (r / 2)).getLsbD 63 = true := by
    rcases h with e | ⟨n, e⟩
    · rw [e, k.sem0]; exact onesT_bit 63 (by omega)
    · exact k.b63 e
  unfold Gr.tab
  split
  · rename_i h2; rw [hs]; simp [h2]
  · rename_i h2; simp [hs, h2]

theorem Gr.Sm.same {G : Gr} {ex : Nat → Nat → Prop} (k : G.Sm ex) {r s : Nat} (hr : G.ok r) (hs : G.ok s) (h : G.tab r = G.tab s) : r = s := by
  have h1 := k.bit hr
  have h2 := k.bit hs
  rw [h, h2] at h1
  have hp : r % 2 = s % 2 := by
    by_cases e : s % 2 = 0
    · simp [e] at h1; omega
    · simp [e] at h1; omega
  have hsem : G.sem (r / 2) = G.sem (s / 2) := by
    unfold Gr.tab at h
    rw [hp] at h
    split at h
    · exact h
    · exact not_inj_tab h
  have hh : r / 2 = s / 2 := by
    rcases hr with e | ⟨n, e⟩
    · rcases hs with e2 | ⟨m, e2⟩
      · omega
      · rw [e, k.sem0] at hsem
        exact absurd hsem.symm (k.nc e2)
    · rcases hs with e2 | ⟨m, e2⟩
      · rw [e2, k.sem0] at hsem
        exact absurd hsem (k.nc e)
      · exact k.si e e2 hsem
  omega

theorem Gr.Sm.given_node {G : Gr} {ex : Nat → Nat → Prop} (k : G.Sm ex) {i : Nat} {n : Nd} (h : G.node i = some n) (b : Bool) : given (G.sem i) n.v b = if b then G.tab n.t else G.tab n.e := by
  rw [k.is h]
  exact given_join _ _ _ _ (k.v6 h) (k.td h) (k.ed h)

theorem Gr.Sm.hangs_top {G : Gr} {ex : Nat → Nat → Prop} (k : G.Sm ex) {i : Nat} {n : Nd} (h : G.node i = some n) : hangs (G.sem i) n.v = true := by
  rw [hangs_true_iff, k.given_node h, k.given_node h]
  intro e
  simp at e
  exact k.ne h (k.same (k.tok h) (k.eok h) e)

/-- What a part hangs on, the whole hangs on. -/
theorem Gr.Sm.kid {G : Gr} {ex : Nat → Nat → Prop} (k : G.Sm ex) {i : Nat} {n : Nd} (h : G.node i = some n) {u : Nat} (hu : u < 6) (hh : hangs (G.tab n.t) u = true ∨ hangs (G.tab n.e) u = true) : hangs (G.sem i) u = true := by
  rcases hh with hh | hh
  · have := k.given_node h true
    simp at this
    rw [← this] at hh
    exact hangs_given _ _ _ _ (k.v6 h) hu hh
  · have := k.given_node h false
    simp at this
    rw [← this] at hh
    exact hangs_given _ _ _ _ (k.v6 h) hu hh

theorem Gr.Sm.mono {G : Gr} {ex ex' : Nat → Nat → Prop} (k : G.Sm ex) (h : ∀ v u, ex v u → ex' v u) : G.Sm ex' :=
  { k with up := fun hn u hu hlt he => k.up hn u hu hlt (fun e => he (h _ _ e)) }

theorem Gr.Ok.sm {G : Gr} (k : G.Ok) : G.Sm (fun _ _ => False) where
  nodup := k.nodup
  lt6 := k.lt6
  zero := k.zero
  sem0 := k.sem0
  var := k.var
  tev := k.tev
  tok := k.tok
  eok := k.eok
  ne := k.ne
  is := k.is
  td := k.tfree
  ed := k.efree
  up := fun {i n} hn u hu hlt _ => by
    have hi : G.ok (2 * i) := .inr ⟨n, by rw [show 2 * i / 2 = i by omega]; exact hn⟩
    have h := k.ahead hi (k.lt6 u hu) (.inl (by rw [Gr.lev_node (n := n) (by rw [show 2 * i / 2 = i by omega]; exact hn)]; exact hlt))
    rw [Gr.hangs_tab _ _ (k.lt6 u hu), show 2 * i / 2 = i by omega] at h
    exact h
  si := fun {i j n m} hi hj h => k.sem_inj ⟨n, hi⟩ ⟨m, hj⟩ h
  b63 := fun {i n} hn => by
    have hi : G.ok (2 * i) := .inr ⟨n, by rw [show 2 * i / 2 = i by omega]; exact hn⟩
    have := k.bit63 _ (2 * i) hi (Nat.le_refl _)
    rw [show 2 * i / 2 = i by omega] at this
    exact this
  nc := fun {i n} hn h => by
    have h1 := k.hangs_top hn
    rw [h, hangs_ones _ (k.v6 hn)] at h1
    cases h1

theorem Gr.Sm.lev_gt {G : Gr} {ex : Nat → Nat → Prop} (k : G.Sm ex) {r l : Nat} (hr : G.ok r) (hl : l < G.order.length) (h : ∀ v ∈ G.order, G.idx v ≤ l → hangs (G.tab r) v = false) : l < G.lev r := by
  rcases hr with e | ⟨n, e⟩
  · unfold Gr.lev; rw [e, k.zero]; exact hl
  · rw [Gr.lev_node e]
    apply Nat.lt_of_not_le
    intro hle
    have := h n.v (k.var e) hle
    rw [Gr.hangs_tab _ _ (k.v6 e), k.hangs_top e] at this
    cases this

theorem Gr.Sm.ok {G : Gr} (k : G.Sm (fun _ _ => False)) : G.Ok := by
  have hlev : ∀ {i n}, G.node i = some n → ∀ c, G.ok c → (∀ u, u < 6 → hangs (G.tab c) u = true → hangs (G.sem i) u = true) → hangs (G.tab c) n.v = false → G.idx n.v < G.lev c := by
    intro i n hn c hc hk hv
    refine k.lev_gt hc (List.idxOf_lt_length_of_mem (k.var hn)) ?_
    intro u hu hle
    by_cases e : u = n.v
    · subst e; exact hv
    · have hlt : G.idx u < G.idx n.v := Nat.lt_of_le_of_ne hle (fun e2 => e (idxOf_inj hu e2))
      have := k.up hn u hu hlt (fun h => h)
      cases hh : hangs (G.tab c) u
      · rfl
      · rw [hk u (k.lt6 u hu) hh] at this; cases this
  exact ⟨k.nodup, k.lt6, k.zero, k.sem0, k.var, k.tev, k.tok, k.eok, fun hn => hlev hn _ (k.tok hn) (fun u hu h => k.kid hn hu (.inl h)) (k.td hn), fun hn => hlev hn _ (k.eok hn) (fun u hu h => k.kid hn hu (.inr h)) (k.ed hn), k.ne, k.is, fun hi hj => k.si hi hj ((k.is hi).trans (k.is hj).symm)⟩

theorem Gr.Sm.add {G : Gr} {ex : Nat → Nat → Prop} (k : G.Sm ex) {i : Nat} {n : Nd} (hi : i ≠ 0) (hn : G.node i = none) (hv : n.v ∈ G.order) (ht : n.t % 2 = 0) (ot : G.ok n.t) (oe : G.ok n.e) (hne : n.t ≠ n.e) (td : hangs (G.tab n.t) n.v = false) (ed : hangs (G.tab n.e) n.v = false)
    (up : ∀ u ∈ G.order, G.idx u < G.idx n.v → ¬ ex n.v u → hangs (iteT (mask n.v) (G.tab n.t) (G.tab n.e)) u = false) (hnew : ∀ j m, G.node j = some m → G.sem j ≠ iteT (mask n.v) (G.tab n.t) (G.tab n.e)) : (G.add i n).Sm ex := by
  have hx := G.add_ext (n := n) hi hn
  have hcase : ∀ {j m}, (G.add i n).node j = some m → (j = i ∧ m = n) ∨ (j ≠ i ∧ G.node j = some m) := by
    intro j m h
    by_cases e : j = i
    · subst e; rw [Gr.add_node] at h; exact .inl ⟨rfl, (Option.some.inj h).symm⟩
    · simp [Gr.add, e] at h; exact .inr ⟨e, h⟩
  have hsi : (G.add i n).sem i = iteT (mask n.v) (G.tab n.t) (G.tab n.e) := by simp [Gr.add]
  have hsj : ∀ j, j ≠ i → (G.add i n).sem j = G.sem j := by intro j e; simp [Gr.add, e]
  have hv6 := k.lt6 _ hv
  have hto := hx.tab ot
  have heo := hx.tab oe
  have hgiv : given (iteT (mask n.v) (G.tab n.t) (G.tab n.e)) n.v true = G.tab n.t ∧ given (iteT (mask n.v) (G.tab n.t) (G.tab n.e)) n.v false = G.tab n.e := by
    rw [given_join _ _ _ _ hv6 td ed, given_join _ _ _ _ hv6 td ed]; simp
  have htop : hangs (iteT (mask n.v) (G.tab n.t) (G.tab n.e)) n.v = true := by
    rw [hangs_true_iff, hgiv.1, hgiv.2]
    exact fun e => hne (k.same ot oe e)
  refine ⟨k.nodup, k.lt6, ?_, ?_, ?_, ?_, ?_, ?_, ?_, ?_, ?_, ?_, ?_, ?_, ?_, ?_⟩
  · have h0 : ¬ 0 = i := fun e => hi e.symm
    simp [Gr.add, h0, k.zero]
  · rw [hsj 0 (fun e => hi e.symm)]; exact k.sem0
  · intro j m h
    rcases hcase h with ⟨rfl, rfl⟩ | ⟨_, h⟩
    · exact hv
    · exact k.var h
  · intro j m h
    rcases hcase h with ⟨rfl, rfl⟩ | ⟨_, h⟩
    · exact ht
    · exact k.tev h
  · intro j m h
    rcases hcase h with ⟨rfl, rfl⟩ | ⟨_, h⟩
    · exact hx.ok ot
    · exact hx.ok (k.tok h)
  · intro j m h
    rcases hcase h with ⟨rfl, rfl⟩ | ⟨_, h⟩
    · exact hx.ok oe
    · exact hx.ok (k.eok h)
  · intro j m h
    rcases hcase h with ⟨rfl, rfl⟩ | ⟨_, h⟩
    · exact hne
    · exact k.ne h
  · intro j m h
    rcases hcase h with ⟨rfl, rfl⟩ | ⟨e, h⟩
    · rw [hsi, hto, heo]
    · rw [hsj j e, hx.tab (k.tok h), hx.tab (k.eok h)]; exact k.is h
  · intro j m h
    rcases hcase h with ⟨rfl, rfl⟩ | ⟨e, h⟩
    · rw [hto]; exact td
    · rw [hx.tab (k.tok h)]; exact k.td h
  · intro j m h
    rcases hcase h with ⟨rfl, rfl⟩ | ⟨e, h⟩
    · rw [heo]; exact ed
    · rw [hx.tab (k.eok h)]; exact k.ed h
  · intro j m h u hu hlt he
    rcases hcase h with ⟨rfl, rfl⟩ | ⟨e, h⟩
    · rw [hsi]; exact up u hu hlt he
    · rw [hsj j e]; exact k.up h u hu hlt he
  · intro a b p q ha0 hb0 h
    rcases hcase ha0 with ⟨ea, ep⟩ | ⟨e, ha⟩
    · rcases hcase hb0 with ⟨eb, eq⟩ | ⟨e2, hb⟩
      · rw [ea, eb]
      · rw [ea, hsi, hsj b e2] at h
        exact absurd h.symm (hnew b q hb)
    · rcases hcase hb0 with ⟨eb, eq⟩ | ⟨e2, hb⟩
      · rw [eb, hsi, hsj a e] at h
        exact absurd h (hnew a p ha)
      · rw [hsj a e, hsj b e2] at h
        exact k.si ha hb h
  · intro j m h
    rcases hcase h with ⟨rfl, rfl⟩ | ⟨e, h⟩
    · rw [hsi, iteT_bit _ _ _ _ (by omega), mask63 _ hv6, if_pos rfl, k.bit ot]
      simp [ht]
    · rw [hsj j e]; exact k.b63 h
  · intro j m h h1
    rcases hcase h with ⟨rfl, rfl⟩ | ⟨e, h⟩
    · rw [hsi] at h1
      rw [h1, hangs_ones _ hv6] at htop
      cases htop
    · rw [hsj j e] at h1; exact k.nc h h1

/-- A node asks another variable first; it tells the same. -/
def Gr.set (G : Gr) (i : Nat) (m : Nd) : Gr := { G with node := fun j => if j = i then some m else G.node j }

theorem Gr.set_ok {G : Gr} {i : Nat} {n m : Nd} (hn : G.node i = some n) (r : Nat) : (G.set i m).ok r ↔ G.ok r := by
  unfold Gr.ok Gr.set
  simp only
  by_cases e : r / 2 = i
  · rw [if_pos e, e]
    exact ⟨fun h => h.imp id (fun _ => ⟨n, hn⟩), fun h => h.imp id (fun _ => ⟨m, rfl⟩)⟩
  · rw [if_neg e]

theorem Gr.set_tab (G : Gr) (i : Nat) (m : Nd) (r : Nat) : (G.set i m).tab r = G.tab r := rfl

theorem Gr.Sm.set {G : Gr} {ex : Nat → Nat → Prop} (k : G.Sm ex) {i : Nat} {n m : Nd} (hn : G.node i = some n) (hv : m.v ∈ G.order) (ht : m.t % 2 = 0) (ot : G.ok m.t) (oe : G.ok m.e) (hne : m.t ≠ m.e) (his : G.sem i = iteT (mask m.v) (G.tab m.t) (G.tab m.e)) (td : hangs (G.tab m.t) m.v = false) (ed : hangs (G.tab m.e) m.v = false)
    (up : ∀ u ∈ G.order, G.idx u < G.idx m.v → ¬ ex m.v u → hangs (G.sem i) u = false) : (G.set i m).Sm ex := by
  have hcase : ∀ {j p}, (G.set i m).node j = some p → (j = i ∧ p = m) ∨ (j ≠ i ∧ G.node j = some p) := by
    intro j p h
    by_cases e : j = i
    · subst e; simp [Gr.set] at h; exact .inl ⟨rfl, h.symm⟩
    · simp [Gr.set, e] at h; exact .inr ⟨e, h⟩
  have hany : ∀ {j p}, (G.set i m).node j = some p → ∃ q, G.node j = some q := by
    intro j p h
    rcases hcase h with ⟨rfl, _⟩ | ⟨_, h⟩
    · exact ⟨n, hn⟩
    · exact ⟨p, h⟩
  have hi0 : i ≠ 0 := by intro e; subst e; rw [k.zero] at hn; cases hn
  refine ⟨k.nodup, k.lt6, ?_, k.sem0, ?_, ?_, ?_, ?_, ?_, ?_, ?_, ?_, ?_, ?_, ?_, ?_⟩
  · have h0 : ¬ 0 = i := fun e => hi0 e.symm
    simp [Gr.set, h0, k.zero]
  · intro j p h
    rcases hcase h with ⟨rfl, rfl⟩ | ⟨_, h⟩
    · exact hv
    · exact k.var h
  · intro j p h
    rcases hcase h with ⟨rfl, rfl⟩ | ⟨_, h⟩
    · exact ht
    · exact k.tev h
  · intro j p h
    rw [Gr.set_ok hn]
    rcases hcase h with ⟨rfl, rfl⟩ | ⟨_, h⟩
    · exact ot
    · exact k.tok h
  · intro j p h
    rw [Gr.set_ok hn]
    rcases hcase h with ⟨rfl, rfl⟩ | ⟨_, h⟩
    · exact oe
    · exact k.eok h
  · intro j p h
    rcases hcase h with ⟨rfl, rfl⟩ | ⟨_, h⟩
    · exact hne
    · exact k.ne h
  · intro j p h
    rcases hcase h with ⟨rfl, rfl⟩ | ⟨_, h⟩
    · exact his
    · exact k.is h
  · intro j p h
    rcases hcase h with ⟨rfl, rfl⟩ | ⟨_, h⟩
    · exact td
    · exact k.td h
  · intro j p h
    rcases hcase h with ⟨rfl, rfl⟩ | ⟨_, h⟩
    · exact ed
    · exact k.ed h
  · intro j p h u hu hlt he
    rcases hcase h with ⟨rfl, rfl⟩ | ⟨_, h⟩
    · exact up u hu hlt he
    · exact k.up h u hu hlt he
  · intro a b p q ha hb h
    obtain ⟨p', ha⟩ := hany ha
    obtain ⟨q', hb⟩ := hany hb
    exact k.si ha hb h
  · intro j p h
    obtain ⟨p', h⟩ := hany h
    exact k.b63 h
  · intro j p h
    obtain ⟨p', h⟩ := hany h
    exact k.nc h

end Go.Proofs.YtebfmcafmojlaaaGreatDoor

/-
  TWO VARIABLES CHANGE PLACES: a node is turned; the end.
-/
namespace Go.Proofs.YtebfmcafmojlaaaGreatDoor
set_option linter.unusedSimpArgs false
set_option linter.unusedVariables false

def exy (x y : Nat) : Nat → Nat → Prop := fun v u => v = y ∧ u = x

/-- x at level l, y at the next. -/
structure Gr.Two (G : Gr) (l x y : Nat) : Prop where
  hx : x ∈ G.order
  hy : y ∈ G.order
  ix : G.idx x = l
  iy : G.idx y = l + 1

theorem Gr.Two.ne {G : Gr} {l x y : Nat} (h : G.Two l x y) : x ≠ y := by
  intro e
  have h1 := h.ix
  have h2 := h.iy
  rw [e] at h1
  omega

theorem Gr.Two.ext {G G' : Gr} {l x y : Nat} (h : G.Two l x y) (he : G'.order = G.order) : G'.Two l x y := by
  obtain ⟨a, b, c, d⟩ := h
  unfold Gr.idx at c d
  exact ⟨by rw [he]; exact a, by rw [he]; exact b, by unfold Gr.idx; rw [he]; exact c, by unfold Gr.idx; rw [he]; exact d⟩

theorem hangs_half {G : Gr} {r s u : Nat} (h : r / 2 = s / 2) (hu : u < 6) : hangs (G.tab r) u = hangs (G.tab s) u := by rw [Gr.hangs_tab _ _ hu, Gr.hangs_tab _ _ hu, h]

theorem Gr.Sm.join_new {G : Gr} {l x y : Nat} (k : G.Sm (exy x y)) (two : G.Two l x y) {t e i : Nat} (ht : G.ok t) (he : G.ok e) (hne : t ≠ e) (ft : ∀ u ∈ G.order, G.idx u ≤ l + 1 → hangs (G.tab t) u = false) (fe : ∀ u ∈ G.order, G.idx u ≤ l + 1 → hangs (G.tab e) u = false)
    (hi0 : i ≠ 0) (hi : G.node i = none) (hnew : ∀ j, G.node j ≠ some (joinN x t e)) :
    (G.add i (joinN x t e)).Sm (exy x y) ∧ (G.add i (joinN x t e)).ok (tl (2 * i) t) ∧ (G.add i (joinN x t e)).tab (tl (2 * i) t) = iteT (mask x) (G.tab t) (G.tab e) := by
  have hx6 := k.lt6 x two.hx
  have hok := joinN_ok (v := x) ht he
  have ht2 : (joinN x t e).t / 2 = t / 2 := by show (t - t % 2) / 2 = t / 2; omega
  have he2 : (joinN x t e).e / 2 = e / 2 := by show tl e t / 2 = e / 2; exact tl_half _ _
  have ft' : ∀ u ∈ G.order, G.idx u ≤ l + 1 → hangs (G.tab (joinN x t e).t) u = false := fun u hu h => (hangs_half ht2 (k.lt6 u hu)).trans (ft u hu h)
  have fe' : ∀ u ∈ G.order, G.idx u ≤ l + 1 → hangs (G.tab (joinN x t e).e) u = false := fun u hu h => (hangs_half he2 (k.lt6 u hu)).trans (fe u hu h)
  have hix := two.ix
  have hiy := two.iy
  have td := ft' x two.hx (by omega)
  have ed := fe' x two.hx (by omega)
  have hjne := joinN_ne (v := x) hne
  have hf : ∀ u ∈ G.order, G.idx u ≤ l + 1 → u ≠ x → hangs (iteT (mask x) (G.tab (joinN x t e).t) (G.tab (joinN x t e).e)) u = false := fun u hu h hne => hangs_iteT _ _ _ _ hx6 (k.lt6 u hu) hne (ft' u hu h) (fe' u hu h)
  have hg1 : given (iteT (mask x) (G.tab (joinN x t e).t) (G.tab (joinN x t e).e)) x true = G.tab (joinN x t e).t := by rw [given_join _ _ _ _ hx6 td ed]; simp
  have hg2 : given (iteT (mask x) (G.tab (joinN x t e).t) (G.tab (joinN x t e).e)) x false = G.tab (joinN x t e).e := by rw [given_join _ _ _ _ hx6 td ed]; simp
  have htop : hangs (iteT (mask x) (G.tab (joinN x t e).t) (G.tab (joinN x t e).e)) x = true := by
    rw [hangs_true_iff, hg1, hg2]
    exact fun e => hjne (k.same hok.1 hok.2 e)
  have hadd := k.add (i := i) (n := joinN x t e) hi0 hi two.hx (by show (t - t % 2) % 2 = 0; omega) hok.1 hok.2 hjne td ed (by
      intro u hu hlt _
      have hlt' : G.idx u < G.idx x := hlt
      exact hf u hu (by omega) (fun e => by subst e; omega)) (by
      intro j m hj hs0
      have hs : G.sem j = iteT (mask x) (G.tab (joinN x t e).t) (G.tab (joinN x t e).e) := hs0
      have h1 := k.hangs_top hj
      rw [hs] at h1
      have hm6 := k.v6 hj
      by_cases e1 : m.v = x
      · have q1 := k.given_node hj true
        have q2 := k.given_node hj false
        rw [hs, e1] at q1 q2
        have q1' : G.tab (joinN x t e).t = G.tab m.t := hg1.symm.trans (by simpa using q1)
        have q2' : G.tab (joinN x t e).e = G.tab m.e := hg2.symm.trans (by simpa using q2)
        have r1 := k.same hok.1 (k.tok hj) q1'
        have r2 := k.same hok.2 (k.eok hj) q2'
        apply hnew j
        rw [hj]
        obtain ⟨mv, mt, me⟩ := m
        simp only at e1 r1 r2
        subst e1
        have : joinN mv t e = ⟨mv, (joinN mv t e).t, (joinN mv t e).e⟩ := rfl
        rw [this, r1, r2]
      · by_cases e2 : G.idx m.v ≤ l + 1
        · rw [hf m.v (k.var hj) e2 e1] at h1; cases h1
        · have h2 := k.up hj x two.hx (by omega) (by
            rintro ⟨e3, _⟩
            rw [e3] at e2
            omega)
          rw [hs] at h2
          rw [show hangs (iteT (mask x) (G.tab (joinN x t e).t) (G.tab (joinN x t e).e)) x = true from htop] at h2
          cases h2)
  have hxx := G.add_ext (n := joinN x t e) hi0 hi
  have hn3 : (G.add i (joinN x t e)).node i = some (joinN x t e) := Gr.add_node _ _ _
  have hh : tl (2 * i) t / 2 = i := by rw [tl_half]; omega
  refine ⟨hadd, .inr ⟨_, by rw [hh]; exact hn3⟩, ?_⟩
  rw [Gr.tab_tl]
  have e1 : (G.add i (joinN x t e)).tab (2 * i) = (G.add i (joinN x t e)).sem i := by unfold Gr.tab; rw [if_pos (by omega)]; congr 1; omega
  rw [e1, hadd.is hn3, ← hxx.tab ht, ← hxx.tab he]
  exact joinN_tab _ x t e

theorem Gr.Sm.join_found {G : Gr} {ex : Nat → Nat → Prop} (k : G.Sm ex) {v t e i : Nat} (hi : G.node i = some (joinN v t e)) : G.ok (tl (2 * i) t) ∧ G.tab (tl (2 * i) t) = iteT (mask v) (G.tab t) (G.tab e) := by
  have hh : tl (2 * i) t / 2 = i := by rw [tl_half]; omega
  refine ⟨.inr ⟨_, by rw [hh]; exact hi⟩, ?_⟩
  rw [Gr.tab_tl]
  have e1 : G.tab (2 * i) = G.sem i := by unfold Gr.tab; rw [if_pos (by omega)]; congr 1; omega
  rw [e1, k.is hi]
  exact joinN_tab G v t e

/-- A part of a node of x hangs on none of the variables up to x. -/
theorem Gr.Sm.kid_free {G : Gr} {l x y : Nat} (k : G.Sm (exy x y)) (two : G.Two l x y) {i : Nat} {n : Nd} (hn : G.node i = some n) (hx : n.v = x) {c : Nat} (hc : c = n.t ∨ c = n.e) : G.ok c ∧ ∀ u ∈ G.order, G.idx u ≤ l → hangs (G.tab c) u = false := by
  have hix := two.ix
  refine ⟨by rcases hc with rfl | rfl; exact k.tok hn; exact k.eok hn, ?_⟩
  intro u hu hle
  by_cases e : u = x
  · subst e
    rw [← hx]
    rcases hc with rfl | rfl
    · exact k.td hn
    · exact k.ed hn
  · have hlt : G.idx u < G.idx n.v := by
      rw [hx, hix]
      exact Nat.lt_of_le_of_ne hle (fun e2 => e (idxOf_inj hu (by show G.idx u = G.idx x; omega)))
    have h1 := k.up hn u hu hlt (by
      rintro ⟨e2, _⟩
      exact two.ne (hx.symm.trans e2))
    cases hh : hangs (G.tab c) u
    · rfl
    · rw [k.kid hn (k.lt6 u hu) (by rcases hc with rfl | rfl; exact .inl hh; exact .inr hh)] at h1
      cases h1

/-- Where its node does not ask y, it does not hang on y. -/
theorem Gr.Sm.kid_not {G : Gr} {l x y : Nat} (k : G.Sm (exy x y)) (two : G.Two l x y) {c : Nat} (hc : G.ok c) (hf : ∀ u ∈ G.order, G.idx u ≤ l → hangs (G.tab c) u = false) (hl : G.lev c ≠ l + 1) : hangs (G.tab c) y = false := by
  have hy6 := k.lt6 y two.hy
  rcases hc with e | ⟨m, e⟩
  · rw [Gr.hangs_tab _ _ hy6, e, k.sem0]
    exact hangs_ones y hy6
  · rw [Gr.lev_node e] at hl
    have h1 : ¬ G.idx m.v ≤ l := by
      intro h
      have := hf m.v (k.var e) h
      rw [Gr.hangs_tab _ _ (k.v6 e), k.hangs_top e] at this
      cases this
    rw [Gr.hangs_tab _ _ hy6]
    refine k.up e y two.hy (by rw [two.iy]; omega) ?_
    rintro ⟨_, e2⟩
    exact two.ne e2.symm

theorem Gr.Sm.part {G : Gr} {l x y : Nat} (k : G.Sm (exy x y)) (two : G.Two l x y) {c : Nat} (hc : G.ok c) (hf : ∀ u ∈ G.order, G.idx u ≤ l → hangs (G.tab c) u = false) (b : Bool) :
    G.ok (G.br c (l + 1) b) ∧ G.tab (G.br c (l + 1) b) = given (G.tab c) y b ∧ ∀ u ∈ G.order, G.idx u ≤ l + 1 → hangs (G.tab (G.br c (l + 1) b)) u = false := by
  have hy6 := k.lt6 y two.hy
  have main : G.ok (G.br c (l + 1) b) ∧ G.tab (G.br c (l + 1) b) = given (G.tab c) y b := by
    by_cases hl : G.lev c = l + 1
    · obtain ⟨m, hm⟩ : ∃ m, G.node (c / 2) = some m := by
        rcases hc with e | h
        · unfold Gr.lev at hl
          rw [e, k.zero] at hl
          have h1 : G.idx y < G.order.length := List.idxOf_lt_length_of_mem two.hy
          have := two.iy
          have hl' : G.order.length = l + 1 := hl
          omega
        · exact h
      have hlm := Gr.lev_node hm
      have hmv : m.v = y := idxOf_inj (k.var hm) (by show G.idx m.v = G.idx y; rw [two.iy]; omega)
      have hbr : G.br c (l + 1) b = tl (if b then m.t else m.e) c := by
        unfold Gr.br
        rw [hm]
        simp only
        rw [if_pos (by omega)]
      rw [hbr]
      refine ⟨by rw [Gr.ok_tl]; cases b; exact k.eok hm; exact k.tok hm, ?_⟩
      rw [G.tab_tl]
      have hg := k.given_node hm b
      have hsel : G.tab (if b then m.t else m.e) = if b then G.tab m.t else G.tab m.e := by cases b <;> rfl
      rw [hmv] at hg
      rw [hsel, ← hg]
      unfold Gr.tab
      split
      · rfl
      · rw [given_not _ _ _ hy6]
    · have hbr : G.br c (l + 1) b = c := by
        unfold Gr.br
        split
        · rename_i m hm
          rw [Gr.lev_node hm] at hl
          rw [if_neg hl]
        · rfl
      rw [hbr]
      exact ⟨hc, (given_of_not_hangs _ _ _ hy6 (k.kid_not two hc hf hl)).symm⟩
  refine ⟨main.1, main.2, ?_⟩
  intro u hu hle
  rw [main.2]
  by_cases e : u = y
  · subst e; exact hangs_given_self _ _ _ hy6
  · have h1 : G.idx u ≤ l := by
      have : G.idx u ≠ l + 1 := fun e2 => e (idxOf_inj hu (by show G.idx u = G.idx y; rw [two.iy]; exact e2))
      omega
    cases hh : hangs (given (G.tab c) y b) u
    · rfl
    · have := hangs_given _ _ _ _ hy6 (k.lt6 u hu) hh
      rw [hf u hu h1] at this
      cases this

theorem setb63 (v : Nat) (h : v < 6) : setb 63 v true = 63 := by
  have : ∀ v : Fin 6, setb 63 v.1 true = 63 := by decide
  exact this ⟨v, h⟩

theorem Gr.Sm.turn {G : Gr} {l x y : Nat} (k : G.Sm (exy x y)) (two : G.Two l x y) {i : Nat} {n : Nd} (hn : G.node i = some n) (hx : n.v = x) (hang : hangs (G.sem i) y = true) {p q : Nat} (hp : G.ok p) (hq : G.ok q) (tp : G.tab p = given (G.sem i) y true) (tq : G.tab q = given (G.sem i) y false) : (G.set i ⟨y, p, q⟩).Sm (exy x y) := by
  have hy6 := k.lt6 y two.hy
  refine k.set hn two.hy ?_ hp hq ?_ ?_ ?_ ?_ ?_
  · have h1 := k.bit hp
    rw [tp, given_bit _ _ _ _ hy6 (by omega), setb63 y hy6, k.b63 hn] at h1
    have := h1.symm
    simpa using this
  · intro e
    have e' : p = q := e
    rw [hangs_true_iff, ← tp, ← tq, e'] at hang
    exact hang rfl
  · show G.sem i = iteT (mask y) (G.tab p) (G.tab q)
    rw [tp, tq, halves _ _ hy6]
  · show hangs (G.tab p) y = false
    rw [tp]; exact hangs_given_self _ _ _ hy6
  · show hangs (G.tab q) y = false
    rw [tq]; exact hangs_given_self _ _ _ hy6
  · intro u hu hlt he
    have hlt' : G.idx u < l + 1 := by rw [← two.iy]; exact hlt
    have hux : u ≠ x := fun e => he ⟨rfl, e⟩
    refine k.up hn u hu ?_ ?_
    · rw [hx, two.ix]
      have : G.idx u ≠ l := fun e2 => hux (idxOf_inj hu (by show G.idx u = G.idx x; rw [two.ix]; exact e2))
      omega
    · rintro ⟨e, _⟩
      exact two.ne (hx.symm.trans e)

/-- A node of x one of whose parts asks y hangs on y. -/
theorem Gr.Sm.asks {G : Gr} {l x y : Nat} (k : G.Sm (exy x y)) (two : G.Two l x y) {i : Nat} {n : Nd} (hn : G.node i = some n) (h : G.lev n.t = l + 1 ∨ G.lev n.e = l + 1) : hangs (G.sem i) y = true := by
  have hy6 := k.lt6 y two.hy
  have hkid : ∀ c, G.ok c → G.lev c = l + 1 → hangs (G.tab c) y = true := by
    intro c hc hl
    obtain ⟨m, hm⟩ : ∃ m, G.node (c / 2) = some m := by
      rcases hc with e | h
      · unfold Gr.lev at hl
        rw [e, k.zero] at hl
        have h1 : G.idx y < G.order.length := List.idxOf_lt_length_of_mem two.hy
        have := two.iy
        have hl' : G.order.length = l + 1 := hl
        omega
      · exact h
    rw [Gr.lev_node hm] at hl
    have hmv : m.v = y := idxOf_inj (k.var hm) (by show G.idx m.v = G.idx y; rw [two.iy]; omega)
    rw [Gr.hangs_tab _ _ hy6, ← hmv]
    exact k.hangs_top hm
  exact k.kid hn hy6 (h.imp (hkid _ (k.tok hn)) (hkid _ (k.eok hn)))

/-- The end: no node of x has a part that asks y. -/
theorem Gr.Sm.swapped {G : Gr} {l x y : Nat} (k : G.Sm (exy x y)) (two : G.Two l x y) (hno : ∀ i n, G.node i = some n → n.v = x → G.lev n.t ≠ l + 1 ∧ G.lev n.e ≠ l + 1)
    (O' : List Nat) (hnd : O'.Nodup) (hmem : ∀ u, u ∈ O' ↔ u ∈ G.order) (hix : O'.idxOf x = l + 1) (hiy : O'.idxOf y = l) (hio : ∀ u ∈ G.order, u ≠ x → u ≠ y → O'.idxOf u = G.idx u) : Gr.Ok { G with order := O' } := by
  apply Gr.Sm.ok
  refine ⟨hnd, fun v hv => k.lt6 v ((hmem v).1 hv), k.zero, k.sem0, fun h => (hmem _).2 (k.var h), k.tev, k.tok, k.eok, k.ne, k.is, k.td, k.ed, ?_, k.si, k.b63, k.nc⟩
  intro i n hn u hu hlt _
  have hn' : G.node i = some n := hn
  have hu' := (hmem u).1 hu
  have hlt' : O'.idxOf u < O'.idxOf n.v := hlt
  have hv' := k.var hn'
  show hangs (G.sem i) u = false
  have two' := two
  obtain ⟨hx, hy, ix, iy⟩ := two'
  have inj : ∀ {a b}, a ∈ G.order → G.idx a = G.idx b → a = b := fun ha h => idxOf_inj ha h
  by_cases e1 : n.v = x
  · by_cases e2 : u = y
    · subst e2
      have hy6 := k.lt6 u hy
      have hk1 := k.kid_free two hn' e1 (c := n.t) (.inl rfl)
      have hk2 := k.kid_free two hn' e1 (c := n.e) (.inr rfl)
      have h1 := k.kid_not two hk1.1 hk1.2 (hno i n hn' e1).1
      have h2 := k.kid_not two hk2.1 hk2.2 (hno i n hn' e1).2
      rw [k.is hn']
      exact hangs_iteT _ _ _ _ (k.v6 hn') hy6 (by rw [e1]; exact fun e => two.ne e.symm) h1 h2
    · rw [e1, hix] at hlt'
      have hux : u ≠ x := by intro e; rw [e, hix] at hlt'; omega
      rw [hio u hu' hux e2] at hlt'
      refine k.up hn' u hu' ?_ (by rintro ⟨a, _⟩; exact two.ne (e1.symm.trans a))
      rw [e1, ix]
      have : G.idx u ≠ l := fun e => hux (inj hu' (by omega))
      omega
  · by_cases e3 : n.v = y
    · rw [e3, hiy] at hlt'
      have hux : u ≠ x := by intro e; rw [e, hix] at hlt'; omega
      have huy : u ≠ y := by intro e; rw [e, hiy] at hlt'; omega
      rw [hio u hu' hux huy] at hlt'
      refine k.up hn' u hu' ?_ (by rintro ⟨_, a⟩; exact hux a)
      rw [e3, iy]; omega
    · rw [hio n.v hv' e1 e3] at hlt'
      have hnl : G.idx n.v ≠ l := fun e => e1 (inj hv' (by omega))
      have hnl1 : G.idx n.v ≠ l + 1 := fun e => e3 (inj hv' (by omega))
      refine k.up hn' u hu' ?_ (by rintro ⟨a, _⟩; exact e3 a)
      by_cases e4 : u = x
      · rw [e4, hix] at hlt'; rw [e4, ix]; omega
      · by_cases e5 : u = y
        · rw [e5, hiy] at hlt'; rw [e5, iy]; omega
        · rw [hio u hu' e4 e5] at hlt'; exact hlt'

end Go.Proofs.YtebfmcafmojlaaaGreatDoor

