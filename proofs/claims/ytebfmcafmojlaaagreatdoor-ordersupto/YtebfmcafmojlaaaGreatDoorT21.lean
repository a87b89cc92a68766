/-
  graph: New.
-/
import Derived.Test.YtebfmcafmojlaaaGreatDoorT20
import Derived.Test.YtebfmcafmojlaaaGreatDoorT03
namespace Go.Proofs.YtebfmcafmojlaaaGreatDoor
open Go.RowKit Go.Maps
set_option linter.unusedSimpArgs false
set_option linter.unusedVariables false

def S0 : GrS := ⟨[], [none], [], fun _ => onesT, .slice none 0 0⟩

theorem S0_node (i : Nat) : S0.g.node i = none := by
  show [none].getD i none = none
  cases i <;> rfl

theorem S0_ok : S0.g.Ok := by
  refine ⟨by simp [S0, GrS.g], by simp [S0, GrS.g], S0_node 0, rfl, ?_, ?_, ?_, ?_, ?_, ?_, ?_, ?_, ?_⟩ <;> (intros; rename_i h; rw [S0_node] at h; cases h)

theorem S0_full : S0.Full := by
  intro i h1 h2
  have : i < 1 := h2
  omega

def NewGPost (w : World) (e : Ending) (w' : World) : Prop :=
  ∃ gb, e = .returned (.pointer (some ⟨gb, 0, none⟩)) ∧ w.heap.size ≤ gb ∧ Below w.heap.size w w' ∧ GrIs (fun b => w.heap.size ≤ b ∧ b < w'.heap.size) w' gb S0

theorem newG_post {w W1 W4 : World} (hrow : W1.ownsRow 0 214 3 (.slice (some ⟨w.heap.size, 0, none⟩) 1 1) 1 [.int .i64 0, .int .i64 0, .int .i64 0]) (hg : w.grownBy W1 none)
    (h4 : W4 = ((W1.alloc (.map #[] 0)).alloc (.map #[] 0)).alloc (.cells #[.slice none 0 0, .slice (some ⟨w.heap.size, 0, none⟩) 1 1, .map (some W1.heap.size), .slice none 0 0, .map (some (W1.heap.size + 1))] 156)) :
    NewGPost w (.returned (.pointer (some ⟨W1.heap.size + 2, 0, none⟩))) W4 := by
  have hb1 : Below w.heap.size w W1 := (Below.refl _ _).grown hg (Nat.le_refl _) (fun k hk => by cases hk)
  have hrbl : w.heap.size < W1.heap.size := by
    obtain ⟨cur, hcc⟩ := row_block hrow (b := w.heap.size) rfl
    exact (Array.getElem?_eq_some_iff.1 hcc).1
  have hs4 : W4.heap.size = W1.heap.size + 3 := by rw [h4]; simp
  have hb2 : Below (W1.heap.size) W1 (W1.alloc (.map #[] 0)) := (Below.refl _ _).alloc (Nat.le_refl _) _
  have hm1 := MapIs.made Tryz.prog 214 W1
  have hb3 : Below (W1.heap.size + 1) (W1.alloc (.map #[] 0)) ((W1.alloc (.map #[] 0)).alloc (.map #[] 0)) := (Below.refl _ _).alloc (by simp) _
  have hm2 := MapIs.made Tryz.prog 163 (W1.alloc (.map #[] 0))
  have hb4 : Below (W1.heap.size + 2) ((W1.alloc (.map #[] 0)).alloc (.map #[] 0)) W4 := by rw [h4]; exact (Below.refl _ _).alloc (by simp) _
  have e1 : (W1.alloc (.map #[] 0)).heap.size = W1.heap.size + 1 := by simp
  have e2 : ((W1.alloc (.map #[] 0)).alloc (.map #[] 0)).heap.size = W1.heap.size + 2 := by simp
  have hc4 : W4.heap[W1.heap.size + 2]? = some (.cells #[.slice none 0 0, .slice (some ⟨w.heap.size, 0, none⟩) 1 1, .map (some W1.heap.size), .slice none 0 0, .map (some (W1.heap.size + 1))] 156 (0, 0)) := by
    rw [h4, ← e2]; exact heap_alloc_new _ _
  rw [e1] at hm2
  have k1 : W4.heap[W1.heap.size]? = (W1.alloc (.map #[] 0)).heap[W1.heap.size]? := (hb4.block _ (by omega)).trans (hb3.block _ (by omega))
  have k2 : W4.heap[W1.heap.size + 1]? = ((W1.alloc (.map #[] 0)).alloc (.map #[] 0)).heap[W1.heap.size + 1]? := hb4.block _ (by omega)
  have k0 : W4.heap[w.heap.size]? = W1.heap[w.heap.size]? := ((hb4.block _ (by omega)).trans (hb3.block _ (by omega))).trans (hb2.block _ hrbl)
  have hall : Below w.heap.size w W4 := hb1.trans ((hb2.mono (by omega)).trans ((hb3.mono (by omega)).trans (hb4.mono (by omega))))
  refine ⟨W1.heap.size + 2, rfl, by omega, hall, .slice none 0 0, .slice (some ⟨w.heap.size, 0, none⟩) 1 1, .slice none 0 0, W1.heap.size, W1.heap.size + 1, [], [], ?_⟩
  refine { lt := fun b hb => hb.2, eov := rfl, self := ⟨by omega, by omega⟩, om := ⟨by omega, by omega⟩, orr := ⟨by omega, by omega⟩, cells := hc4, order := ⟨World.ownsRow_nil _ _ _ _, fun k hk => by cases hk⟩, nodes := ?_, nin := ?_, free := ⟨World.ownsRow_nil _ _ _ _, fun k hk => by cases hk⟩, nums := hm1.same k1, res := hm2.same k2, mok := ?_, rok := by simp, rlen := by simp, mr := by omega, of := .inl rfl, n1 := Nat.le_refl _, nlen := by simp [S0], ol := by simp [S0], fdup := by simp [S0], fok := by simp [S0] }
  · exact owns_same hrow (fun k hk => by simp [Value.ownBlock] at hk; subst hk; exact k0)
  · intro k hk
    simp [Value.ownBlock] at hk
    subst hk
    exact ⟨Nat.le_refl _, by omega⟩
  · intro p
    constructor
    · intro h; simp at h
    · rintro ⟨i, n, h, _⟩; rw [S0_node] at h; cases h

set_option maxHeartbeats 400000 in
set_option maxRecDepth 10000 in
theorem graphNew_is (w : World) : Calls Tryz.prog 50 #[] w (NewGPost w) := by
  obtain ⟨i0, hi, hz0, hz1, hz2⟩ := info_parts Tryz.infoNode
  obtain ⟨W1, hmk, hrow, hg⟩ := run_make_full (P := Tryz.prog) w 0 152 214 i0 (.agg #[.int .i64 0, .int .i64 0, .int .i64 0]) 3 Tryz.underlying152 hi hz0 hz1 .i64 .i64 1 (by rw [hz2]; omega) (by unfold maxLen; omega) (Nat.zero_le _)
  have hmc : (madeCells (Value.agg #[.int .i64 0, .int .i64 0, .int .i64 0]).cells (1 * 3)).toList = [.int .i64 0, .int .i64 0, .int .i64 0] := by
    simp [madeCells, Value.cells, Array.range, Array.ofFn]
    try rfl
  rw [hmc] at hrow
  have hfin := fun W4 => newG_post (W4 := W4) hrow hg
  have HF : Hid _ := hfin
  simp only [Int.natCast_one] at hmk
  have hmm : ∀ (t : TypeId) (w : World), (Instr.makeMap t none).run Tryz.prog w = .ok (.map (some w.heap.size)) (w.alloc (.map #[] 0)) := fun _ _ => rfl
  clear hfin hrow hg hi hz0 hz1 hz2
  go_enter Tryz.func50, Tryz.ntmps50
  go_wp2
  go_ret
  exact HF.out _ rfl

end Go.Proofs.YtebfmcafmojlaaaGreatDoor

/-
  graph: AddVariable.
-/
namespace Go.Proofs.YtebfmcafmojlaaaGreatDoor
open Go.RowKit Go.Maps
set_option linter.unusedSimpArgs false
set_option linter.unusedVariables false

def GrS.vary (S : GrS) (v' : Value) : GrS := { S with order := S.order ++ [S.order.length], ov := v' }

theorem GrS.vary_idx {S : GrS} {v' : Value} {v : Nat} (h : v ∈ S.order) : (S.vary v').g.idx v = S.g.idx v := by
  show (S.order ++ [S.order.length]).idxOf v = S.order.idxOf v
  rw [List.idxOf_append, if_pos h]

theorem GrS.vary_lev {S : GrS} (k : S.g.Ok) (v' : Value) (r : Nat) : S.g.lev r ≤ (S.vary v').g.lev r := by
  unfold Gr.lev
  show (match S.g.node (r / 2) with | some n => S.g.idx n.v | none => S.g.order.length) ≤ (match S.g.node (r / 2) with | some n => (S.vary v').g.idx n.v | none => (S.vary v').g.order.length)
  cases h : S.g.node (r / 2) with
  | none => show S.order.length ≤ (S.order ++ [S.order.length]).length; simp
  | some n => show S.g.idx n.v ≤ (S.vary v').g.idx n.v; rw [GrS.vary_idx (k.var h)]; exact Nat.le_refl _

theorem GrS.vary_ok {S : GrS} (k : S.g.Ok) (v' : Value) (hn : S.order.length ∉ S.order) (h6 : S.order.length < 6) : (S.vary v').g.Ok where
  nodup := by
    show (S.order ++ [S.order.length]).Nodup
    have := k.nodup
    rw [List.nodup_append]
    refine ⟨this, by simp, ?_⟩
    intro a ha b hb e
    simp at hb
    subst hb; subst e
    exact hn ha
  lt6 := by
    intro v hv
    rcases List.mem_append.1 hv with h | h
    · exact k.lt6 v h
    · simp at h; omega
  zero := k.zero
  sem0 := k.sem0
  var := fun h => List.mem_append_left _ (k.var h)
  tev := fun h => k.tev h
  tok := fun h => k.tok h
  eok := fun h => k.eok h
  tlev := fun h => by
    rw [GrS.vary_idx (k.var h)]
    exact Nat.lt_of_lt_of_le (k.tlev h) (GrS.vary_lev k v' _)
  elev := fun h => by
    rw [GrS.vary_idx (k.var h)]
    exact Nat.lt_of_lt_of_le (k.elev h) (GrS.vary_lev k v' _)
  ne := fun h => k.ne h
  is := fun h => k.is h
  inj := fun h h' => k.inj h h'

theorem vary_went {S : GrS} (k : S.g.Ok) (v' : Value) (hn : S.order.length ∉ S.order) (h6 : S.order.length < 6) {r : Nat} {S' : GrS} (hj : JoinPost (S.vary v') S.order.length 0 1 r S') : (S.vary v').Went S' r (mask S.order.length) 1 := by
  have k' := GrS.vary_ok k v' hn h6
  have z0 : (S.vary v').g.tab 0 = onesT := by
    unfold Gr.tab
    rw [if_pos rfl]
    exact k'.sem0
  have z1 : (S.vary v').g.tab 1 = ~~~ onesT := by
    unfold Gr.tab
    rw [if_neg (by decide)]
    exact congrArg _ k'.sem0
  have h1 := GrS.Went.refl k' (r := 0) (.inl rfl) 0
  have h2 := GrS.Went.refl k' (r := 1) (.inl rfl) 0
  rw [z0] at h1
  rw [z1] at h2
  have hz : ∀ u ∈ (S.vary v').g.order, (S.vary v').g.idx u ≤ (S.vary v').g.idx S.order.length → hangs onesT u = false := fun u hu _ => hangs_ones u (k'.lt6 u hu)
  have := h1.join h2 hj (by show S.order.length ∈ S.order ++ [S.order.length]; simp) hz (fun u hu hi => by rw [hangs_not _ _ (k'.lt6 u hu)]; exact hz u hu hi)
  have e : iteT (mask S.order.length) onesT (~~~ onesT) = mask S.order.length := by
    apply tab_ext
    intro a ha
    rw [iteT_bit _ _ _ _ ha, BitVec.getLsbD_not, onesT_bit a ha]
    cases (mask S.order.length).getLsbD a <;> simp
  rw [e] at this
  exact this

/-- The graph when the order has been appended to. -/
theorem GrAt.varied {O : Nat → Prop} {w w1 w3 : World} {gb : Nat} {S : GrS} {ov nv fv v' : Value} {mb rb : Nat} {M R : List (Value × Value)} (h : GrAt O w gb S ov nv fv mb rb M R) (h6 : S.order.length < 6) {o : Obj}
    (ho : w1.ownsRow 0 3 1 v' (S.order.length + 1) (S.order.map natv ++ [natv S.order.length])) (hg : (w.alloc o).grownBy w1 ov.ownBlock) (hp : Placed (w.alloc o) ov v') (h3 : w3 = w1.setCell ⟨gb, 0, none⟩ v') :
    GrStep O w gb w3 (S.vary v') := by
  have hb0 : Below w.heap.size w (w.alloc o) := (Below.refl _ _).alloc (Nat.le_refl _) _
  have ho1 : Only O w w1 := (only_of_below hb0 O).grown hg (fun k hk => .inl (h.order.2 k hk))
  have ho3 : Only O w w3 := by rw [h3]; exact ho1.setCell (p := ⟨gb, 0, none⟩) (.inl h.self) _
  have hs1 : w.heap.size < w1.heap.size := by have := hg.size; simp at this; omega
  have hs3 : w3.heap.size = w1.heap.size := by rw [h3]; simp [World.setCell]
  have hovgb : ov.ownBlock ≠ some gb := by
    intro e
    obtain ⟨cur, hc⟩ := row_block h.order.1 e
    rw [h.cells] at hc
    simp at hc
  have hb1 : ∀ b, b < w.heap.size → ov.ownBlock ≠ some b → w1.heap[b]? = w.heap[b]? := fun b hb hne => (hg.block b (by simp; omega) (fun e => hne e.symm)).trans (hb0.block b hb)
  have hb3 : ∀ b, b ≠ gb → w3.heap[b]? = w1.heap[b]? := fun b hb => by rw [h3, Below.heap_setCell _ _ _ _ hb]
  have hgb1 : w1.heap[gb]? = _ := (hb1 gb (h.lt gb h.self) hovgb).trans h.cells
  have hmaps := h.maps_ne
  have hovn : ∀ {b : Nat}, (∀ cur, w.heap[b]? ≠ some (.cells cur 3 (0, 0))) → ov.ownBlock ≠ some b := by
    intro b hb e
    obtain ⟨cur, hc⟩ := row_block h.order.1 e
    exact hb cur hc
  have hv'gb : v'.ownBlock ≠ some gb := by
    intro e
    rcases hp gb e with h1 | h1
    · exact hovgb h1
    · have := h.lt gb h.self
      simp at h1
      omega
  have keep : ∀ b, b < w.heap.size → b ≠ gb → ov.ownBlock ≠ some b → w3.heap[b]? = w.heap[b]? := fun b h1 h2 h4 => (hb3 b h2).trans (hb1 b h1 h4)
  have hmap : ∀ {k b L}, MapIs Tryz.prog k w b L → MapIs Tryz.prog k w3 b L := by
    intro k b L hm
    have hm' := hm
    obtain ⟨es, ck, hh, _⟩ := hm'
    refine hm.same (keep b hm.lt ?_ (hovn (fun cur => by rw [hh]; simp)))
    intro e; subst e; rw [h.cells] at hh; simp at hh
  refine ⟨ho3, fun b => O b ∨ v'.ownBlock = some b, ⟨v', nv, fv, mb, rb, M, R, ?_⟩, ?_⟩
  · refine { lt := ?_, eov := rfl, self := .inl h.self, om := .inl h.om, orr := .inl h.orr, cells := ?_, order := ⟨?_, fun k hk => .inr hk⟩, nodes := ?_, nin := fun k hk => .inl (h.nin k hk), free := ⟨?_, fun k hk => .inl (h.free.2 k hk)⟩, nums := hmap h.nums, res := hmap h.res, mok := h.mok, rok := h.rok, rlen := h.rlen, mr := h.mr, of := ?_, n1 := h.n1, nlen := h.nlen, ol := ?_, fdup := h.fdup, fok := h.fok }
    · rintro b (hb | hb)
      · have := h.lt b hb; omega
      · obtain ⟨cur, hc⟩ := row_block ho hb
        have := (Array.getElem?_eq_some_iff.1 hc).1
        omega
    · rw [h3, heap_setCell_at hgb1]; rfl
    · show w3.ownsRow 0 3 1 v' ((S.order ++ [S.order.length]).map natv).length ((S.order ++ [S.order.length]).map natv)
      rw [List.map_append, List.length_append, List.length_map]
      exact owns_same ho (fun k hk => hb3 k (fun e => hv'gb (by rw [← e]; exact hk)))
    · refine owns_same h.nodes (fun k hk => ?_)
      obtain ⟨cur, hc⟩ := row_block h.nodes hk
      exact keep k (h.lt k (h.nin k hk)) (by intro e; subst e; rw [h.cells] at hc; simp at hc) (hovn (fun cur' => by rw [hc]; simp))
    · refine owns_same h.free.1 (fun k hk => ?_)
      obtain ⟨cur, hc⟩ := row_block h.free.1 hk
      refine keep k (h.lt k (h.free.2 k hk)) (by intro e; subst e; rw [h.cells] at hc; simp at hc) ?_
      intro e
      rcases h.of with h1 | h1
      · rw [h1] at e; cases e
      · exact h1 (by rw [e, hk])
    · cases hvo : v'.ownBlock with
      | none => exact .inl rfl
      | some b =>
        right
        intro e
        have hfo := h.free.2 b e.symm
        rcases hp b hvo with h1 | h1
        · rcases h.of with h2 | h2
          · rw [h2] at h1; cases h1
          · exact h2 (by rw [h1, e])
        · have := h.lt b hfo
          simp at h1
          omega
    · show (S.order ++ [S.order.length]).length ≤ 6
      simp
      omega
  · rintro b (hb | hb)
    · exact .inl hb
    · rcases hp b hb with h1 | h1
      · exact .inl (h.order.2 b h1)
      · right
        simp at h1
        omega

def AddVPost (O : Nat → Prop) (w : World) (gb : Nat) (S : GrS) (e : Ending) (w' : World) : Prop :=
  ∃ r v' S', e = .returned (.int .i64 (r : Nat)) ∧ GrStep O w gb w' S' ∧ (S.vary v').Went S' r (mask S.order.length) 1

set_option maxHeartbeats 400000 in
set_option maxRecDepth 10000 in
theorem graphAddVariable_is {O : Nat → Prop} {w : World} {gb : Nat} {S : GrS} (hG : GrIs O w gb S) (k : S.g.Ok) (hn : S.order.length ∉ S.order) (h6 : S.order.length < 6) (hnl : S.nl.length + 1 ≤ 100000) :
    Calls Tryz.prog 56 #[.pointer (some ⟨gb, 0, none⟩)] w (AddVPost O w gb S) := by
  obtain ⟨ov, nv, fv, mb, rb, M, R, hA⟩ := hG
  obtain ⟨i0, hi, hz0, hz1, hz2⟩ := info_parts Tryz.infoIntP
  obtain ⟨oao, ocap, eov⟩ := owns_form hA.order.1
  rw [List.length_map] at eov
  subst eov
  have c0 := hA.c.1
  have horow := hA.order.1
  rw [List.length_map] at horow
  have hgbl := hA.lt gb hA.self
  have hovgb : (Value.slice oao S.order.length ocap).ownBlock ≠ some gb := by
    intro e
    obtain ⟨cur, hc⟩ := row_block hA.order.1 e
    rw [hA.cells] at hc
    simp at hc
  have hstore : ∀ (w1 : World) (o : Obj), (w.alloc o).grownBy w1 (Value.slice oao S.order.length ocap).ownBlock → w1.cell? ⟨gb, 0, none⟩ = some (.slice oao S.order.length ocap) ∧ w1.frozen? ⟨gb, 0, none⟩ = false := by
    intro w1 o hg
    have : w1.heap[gb]? = _ := (hg.block gb (by simp; omega) (fun e => hovgb e.symm)).trans ((((Below.refl w.heap.size w).alloc (Nat.le_refl _) o).block gb (by omega)).trans hA.cells)
    exact ⟨by rw [cell_of_heap this]; rfl, frozen_of_heap this⟩
  have hvar := fun (w1 w3 : World) (v' : Value) (o : Obj) => hA.varied (w1 := w1) (w3 := w3) (v' := v') h6 (o := o)
  have HV : Hid _ := hvar
  have HSt : Hid _ := hstore
  have hjoin : ∀ (w3 : World) (v' : Value), GrStep O w gb w3 (S.vary v') → Calls Tryz.prog 97 #[.pointer (some ⟨gb, 0, none⟩), .int .i64 (S.order.length : Nat), .int .i64 0, .int .i64 1] w3 (fun e w' => ∃ r, e = .returned (.int .i64 (r : Nat)) ∧ AddVPost O w gb S (.returned (.int .i64 (r : Nat))) w') := by
    intro w3 v' hst
    obtain ⟨ho, O', hG', hgr⟩ := hst
    refine (graphJoin_is hG' S.order.length 0 1 (by omega) (by omega) (by omega) hnl).mono ?_
    rintro e w' ⟨r, S', rfl, hst', hj⟩
    exact ⟨r, rfl, r, v', S', rfl, GrStep.trans ho hgr hst', vary_went k v' hn h6 hj⟩
  have HJ : Hid _ := hjoin
  obtain ⟨L, hL⟩ : ∃ L, L = S.order.length := ⟨_, rfl⟩
  clear hvar hstore hjoin hA hovgb hgbl hn
  rw [← hL] at c0 horow h6 HSt HV HJ
  clear hL k
  go_enter Tryz.func56, Tryz.ntmps56
  go_wp2_with first
    | (at_builtin; refine wpList_append_placed rfl (.tmp 13) (.tmp 15) 25 rfl 0 3 i0 (.int .i64 0) 1 8 Tryz.underlying25 hi hz0 hz1 hz2 rfl (by decide) _ _ _ rfl (horow.alloc _) _ 1 1 [natv L] rfl rfl ?_ ?_ ?_ ?_ (Nat.zero_le _) ?_; exact cell_one_new _ _ _; exact one_cell_nat _; exact le_max5 (by omega); omega; intro v' w1 ho hg hp; obtain ⟨vao, vcap, rfl⟩ := owns_form ho; obtain ⟨f9, x9⟩ := HSt.out _ _ hg; have hd9 := HV.out _ _ _ _ ho hg hp rfl; have hj9 := HJ.out _ _ hd9; clear hd9 ho hg hp)
    | (go_at_call 97; refine hj9.mono ?_; rintro e w' ⟨r, rfl, hp⟩)
  go_ret
  exact hp

end Go.Proofs.YtebfmcafmojlaaaGreatDoor

/-
  copse.Copse: what its graph and its live handles are (no memory).
-/
namespace Go.Proofs.YtebfmcafmojlaaaGreatDoor
open Go.RowKit Go.Maps
set_option linter.unusedSimpArgs false
set_option linter.unusedVariables false


theorem Gr.dfs_len (G : Gr) : ∀ (n : Nat) (l : List Nat) (r : Nat), (G.dfs n l r).length + 1 ≤ l.length + 2 ^ n := by
  intro n
  induction n with
  | zero => intro l r; unfold Gr.dfs; simp
  | succ n ih =>
    intro l r
    have hp : 1 ≤ 2 ^ n := Nat.one_le_two_pow
    unfold Gr.dfs
    split
    · rw [Nat.pow_succ]; omega
    · split
      · rw [Nat.pow_succ]; omega
      · rename_i nd _
        have h1 := ih l nd.t
        have h2 := ih (G.dfs n l nd.t) nd.e
        rw [List.length_append, Nat.pow_succ]
        simp only [List.length_cons, List.length_nil]
        omega

theorem nums_nodup (S : GrS) : S.nums.Nodup := List.Pairwise.filter _ List.nodup_range

/-- One function has few nodes. -/
theorem Gr.Ok.reach_one {G : Gr} (k : G.Ok) (ho : G.order.length ≤ 6) {r : Nat} (hr : G.ok r) : ∃ N : List Nat, N.length ≤ 127 ∧ ∀ i, G.Reach (· = r) i → i ∈ N := by
  obtain ⟨_, _, h⟩ := k.all_dfs [r] (by intro x hx; simp at hx; subst hx; exact hr)
  refine ⟨G.dfsAll [r], ?_, fun i hi => (h i).2 (hi.mono (by intro x hx; simp [hx]))⟩
  have := G.dfs_len (G.order.length + 1) [] r
  have hp : 2 ^ (G.order.length + 1) ≤ 2 ^ 7 := Nat.pow_le_pow_right (by omega) (by omega)
  have e : G.dfsAll [r] = G.dfs (G.order.length + 1) [] r := rfl
  rw [e]
  simp at this
  omega

/-- The nodes reached by some references are as many as the tables that come out of theirs. -/
theorem Gr.Ok.count_tabs {G : Gr} (k : G.Ok) {R : Nat → Prop} (fs : List Tab) (hR : ∀ r, R r → G.ok r ∧ (r / 2 = 0 ∨ G.tab r ∈ fs)) (hf : ∀ f ∈ fs, ∃ r, G.ok r ∧ (r / 2 = 0 ∨ R r) ∧ G.tab r = f) {N : List Nat} (hN : N.Nodup) (hm : ∀ i, i ∈ N ↔ G.Reach R i) : (allT G.order fs).length = N.length := by
  have hex : ∃ rs : List Nat, rs.map G.tab = fs ∧ ∀ r ∈ rs, G.ok r ∧ (r / 2 = 0 ∨ R r) := by
    clear hR hm
    induction fs with
    | nil => exact ⟨[], rfl, by simp⟩
    | cons f fs ih =>
      obtain ⟨rs, h1, h2⟩ := ih (fun g hg => hf g (List.mem_cons_of_mem _ hg))
      obtain ⟨r, h3, h4, h5⟩ := hf f (by simp)
      refine ⟨r :: rs, by simp [h1, h5], ?_⟩
      intro x hx
      rcases List.mem_cons.1 hx with e | e
      · subst e; exact ⟨h3, h4⟩
      · exact h2 x e
  obtain ⟨rs, h1, h2⟩ := hex
  rw [← h1]
  refine k.count rs (fun r hr => (h2 r hr).1) N hN (fun i => (hm i).trans ?_)
  constructor
  · rintro ⟨ha, hb⟩
    refine ⟨ha, fun S hS hr => hb S hS (fun r hRr => ?_)⟩
    obtain ⟨h3, h4⟩ := hR r hRr
    rcases h4 with h4 | h4
    · exact .inl h4
    · rw [← h1, List.mem_map] at h4
      obtain ⟨r', h5, h6⟩ := h4
      have := k.same (h2 r' h5).1 h3 h6
      subst this
      exact hr r' h5
  · rintro ⟨ha, hb⟩
    refine ⟨ha, fun S hS hr => hb S hS (fun r hRr => ?_)⟩
    rcases (h2 r hRr).2 with h4 | h4
    · exact .inl h4
    · exact hr r h4

/-- The handle r is live, by the entries of the map. -/
def liveH (L : List (Value × Value)) (r : Nat) : Prop := (natv r, Value.agg #[]) ∈ L

/-- Of the graph and the live handles, whatever else there is (x: what a call has just made). -/
structure CopMid (names : List ByteArray) (S : GrS) (L : List (Value × Value)) (X : Nat → Prop) : Prop where
  k : S.g.Ok
  full : S.Full
  ents : ∀ p ∈ L, ∃ r, p = (natv r, .agg #[]) ∧ S.g.ok r
  c0 : liveH L 0
  c1 : liveH L 1
  order : ∀ v, v ∈ S.order ↔ v < names.length
  olen : S.order.length = names.length
  n6 : names.length ≤ 6
  xok : ∀ r, X r → S.g.ok r
  reach : ∀ i, S.g.has i → S.g.Reach (fun r => liveH L r ∨ X r) i
  nlen : S.nl.length ≤ 80000
  cnt : S.nums.length ≤ 499

structure CopOk (cap : Nat) (names : List ByteArray) (S : GrS) (L : List (Value × Value)) : Prop where
  mid : CopMid names S L (fun _ => False)
  c1 : 1 ≤ cap
  c300 : cap ≤ 300
  size : S.nums.length ≤ cap

theorem CopMid.liveOk {names : List ByteArray} {S : GrS} {L : List (Value × Value)} {X : Nat → Prop} (h : CopMid names S L X) {r : Nat} (hr : liveH L r) : S.g.ok r := by
  obtain ⟨r', e, h2⟩ := h.ents _ hr
  have := natv_inj (congrArg Prod.fst e)
  subst this
  exact h2

/-- What a call has made: the answer's nodes. -/
theorem CopOk.went {cap : Nat} {names : List ByteArray} {S S' : GrS} {L : List (Value × Value)} {r d : Nat} {F : Tab} (h : CopOk cap names S L) (hw : S.Went S' r F d) : CopMid names S' L (· = r) where
  k := hw.ok
  full := hw.compl h.mid.full
  ents := fun p hp => by
    obtain ⟨r', e, h2⟩ := h.mid.ents p hp
    exact ⟨r', e, hw.made.ext.ok h2⟩
  c0 := h.mid.c0
  c1 := h.mid.c1
  order := fun v => by
    have : S'.order = S.order := hw.order
    rw [this]; exact h.mid.order v
  olen := by
    have : S'.order = S.order := hw.order
    rw [this]; exact h.mid.olen
  n6 := h.mid.n6
  xok := fun x hx => by rw [hx]; exact hw.made.ok
  reach := fun i hi => by
    rcases hw.made.new i hi with e | e
    · exact ((h.mid.reach i e).ext hw.made.ext).mono (fun x hx => .inl (hx.resolve_right id))
    · exact e.mono (fun x hx => .inr hx)
  nlen := by
    rcases hw.full with e | e
    · have hol : S'.g.order.length ≤ 6 := by
        have : S'.g.order = S.g.order := hw.order
        rw [this]
        have := h.mid.olen
        have := h.mid.n6
        show S.order.length ≤ 6
        omega
      obtain ⟨N, hN, hr⟩ := hw.ok.reach_one hol hw.made.ok
      have hfull := hw.compl h.mid.full
      have h1 : (List.range S'.nl.length).length ≤ (0 :: (S.nums ++ N)).length := by
        refine List.Nodup.length_le_of_subset List.nodup_range ?_
        intro i hi
        rw [List.mem_range] at hi
        by_cases i0 : i = 0
        · subst i0; simp
        · have hh : S'.g.has i := by
            cases c : S'.g.node i with
            | some n => exact ⟨n, c⟩
            | none =>
              have := hfull i (by omega) hi c
              rw [e] at this
              simp at this
          rcases hw.made.new i hh with h2 | h2
          · exact List.mem_cons_of_mem _ (List.mem_append_left _ (GrS.mem_nums.2 h2))
          · exact List.mem_cons_of_mem _ (List.mem_append_right _ (hr i h2))
      simp at h1
      have := h.size
      have := h.c300
      omega
    · rw [e]; exact h.mid.nlen
  cnt := by
    have hol : S'.g.order.length ≤ 6 := by
      have : S'.g.order = S.g.order := hw.order
      rw [this]
      have := h.mid.olen
      have := h.mid.n6
      show S.order.length ≤ 6
      omega
    obtain ⟨N, hN, hr⟩ := hw.ok.reach_one hol hw.made.ok
    have h1 : S'.nums.length ≤ (S.nums ++ N).length := by
      refine List.Nodup.length_le_of_subset (nums_nodup S') ?_
      intro i hi
      rcases hw.made.new i (GrS.mem_nums.1 hi) with h2 | h2
      · exact List.mem_append_left _ (GrS.mem_nums.2 h2)
      · exact List.mem_append_right _ (hr i h2)
    rw [List.length_append] at h1
    have := h.size
    have := h.c300
    omega

/-- The copse as its callers see it. -/
noncomputable def copC (cap : Nat) (names : List ByteArray) (S : GrS) (L : List (Value × Value)) : CopS :=
  ⟨cap, names, S.order, fun r => by classical exact if liveH L r then some (S.g.tab r) else none⟩

theorem copC_T {cap : Nat} {names : List ByteArray} {S : GrS} {L : List (Value × Value)} {r : Nat} {f : Tab} : (copC cap names S L).T r = some f ↔ liveH L r ∧ S.g.tab r = f := by
  unfold copC
  simp only
  split
  · rename_i h; simp [h]
  · rename_i h; simp [h]

theorem copT_ext {T T' : Nat → Option Tab} (h : ∀ r f, T r = some f ↔ T' r = some f) : T = T' := by
  funext r
  cases c : T r with
  | some f => exact ((h r f).1 c).symm
  | none =>
    cases c' : T' r with
    | none => rfl
    | some f => rw [(h r f).2 c'] at c; cases c

/-- How many nodes there are, told by tables. -/
theorem CopMid.count {cap : Nat} {names : List ByteArray} {S : GrS} {L : List (Value × Value)} {X : Nat → Prop} (h : CopMid names S L X) {S0 : GrS} (hord : S0.order = S.order) (htab : ∀ r, liveH L r → S0.g.tab r = S.g.tab r) {Lt fs : List Tab} (hL : Lists (copC cap names S0 L) Lt)
    (hfs : ∀ f, f ∈ fs ↔ f ∈ Lt ∨ ∃ r, X r ∧ S.g.tab r = f) : (allT S0.order fs).length = S.nums.length := by
  rw [hord]
  refine h.k.count_tabs (R := fun r => liveH L r ∨ X r) fs ?_ ?_ S.nums_nodup ?_
  · rintro r (hr | hr)
    · refine ⟨h.liveOk hr, ?_⟩
      by_cases h0 : r / 2 = 0
      · exact .inl h0
      · right
        have := (hL (S.g.tab r)).1 ⟨r, copC_T.2 ⟨hr, htab r hr⟩⟩
        rcases this with e | e | e
        · exact (hfs _).2 (.inl e)
        · exfalso
          have h1 : S.g.tab 1 = 0 := by
            unfold Gr.tab
            rw [if_neg (by decide)]
            show ~~~ S.g.sem (1 / 2) = 0
            rw [show (1 / 2 : Nat) = 0 from rfl, h.k.sem0]
            unfold onesT
            simp
          have := h.k.same (h.liveOk hr) (.inl rfl : S.g.ok 1) (e.trans h1.symm)
          omega
        · exfalso
          have h1 : S.g.tab 0 = onesT := by
            unfold Gr.tab
            rw [if_pos rfl]
            exact h.k.sem0
          have := h.k.same (h.liveOk hr) (.inl rfl : S.g.ok 0) (e.trans h1.symm)
          omega
    · exact ⟨h.xok r hr, .inr ((hfs _).2 (.inr ⟨r, hr, rfl⟩))⟩
  · intro f hf
    rcases (hfs f).1 hf with e | ⟨r, h1, h2⟩
    · obtain ⟨r, hr⟩ := (hL f).2 (.inl e)
      obtain ⟨h1, h2⟩ := copC_T.1 hr
      exact ⟨r, h.liveOk h1, .inr (.inl h1), by rw [← htab r h1]; exact h2⟩
    · exact ⟨r, h.xok r h1, .inr (.inr h1), h2⟩
  · intro i
    rw [GrS.mem_nums]
    exact ⟨h.reach i, fun hi => hi.1⟩

end Go.Proofs.YtebfmcafmojlaaaGreatDoor

/-
  copse.Copse in memory; isLive.
-/
namespace Go.Proofs.YtebfmcafmojlaaaGreatDoor
open Go.RowKit Go.Maps
set_option linter.unusedSimpArgs false
set_option linter.unusedVariables false

structure CopAt (O : Nat → Prop) (w : World) (x cap : Nat) (names : List ByteArray) (S : GrS) (nv : Value) (gb lb : Nat) (L : List (Value × Value)) (Og : Nat → Prop) : Prop where
  lt : ∀ b, O b → b < w.heap.size
  self : O x
  ol : O lb
  og : ∀ b, Og b → O b
  cells : w.heap[x]? = some (.cells #[.int .i64 (cap : Nat), nv, .pointer (some ⟨gb, 0, none⟩), .map (some lb)] 77 (0, 0))
  names : Row O w 9 nv (names.map Value.string)
  graph : GrIs Og w gb S
  live : MapIs Tryz.prog 80 w lb L
  nx : ¬ Og x
  nlb : ¬ Og lb
  nn : ∀ b, nv.ownBlock = some b → ¬ Og b

theorem CopAt.c {O : Nat → Prop} {w : World} {x cap : Nat} {names : List ByteArray} {S : GrS} {nv : Value} {gb lb : Nat} {L : List (Value × Value)} {Og : Nat → Prop} (h : CopAt O w x cap names S nv gb lb L Og) :
    w.cell? ⟨x, 0, none⟩ = some (.int .i64 (cap : Nat)) ∧ w.cell? ⟨x, 1, none⟩ = some nv ∧ w.cell? ⟨x, 2, none⟩ = some (.pointer (some ⟨gb, 0, none⟩)) ∧ w.cell? ⟨x, 3, none⟩ = some (.map (some lb)) := by
  refine ⟨?_, ?_, ?_, ?_⟩ <;> (rw [cell_of_heap h.cells]; rfl)

theorem CopAt.ne {O : Nat → Prop} {w : World} {x cap : Nat} {names : List ByteArray} {S : GrS} {nv : Value} {gb lb : Nat} {L : List (Value × Value)} {Og : Nat → Prop} (h : CopAt O w x cap names S nv gb lb L Og) : x ≠ lb ∧ nv.ownBlock ≠ some x ∧ nv.ownBlock ≠ some lb := by
  obtain ⟨es, ck, hl, _⟩ := h.live
  refine ⟨?_, ?_, ?_⟩
  · intro e; subst e; rw [h.cells] at hl; simp at hl
  · intro e
    obtain ⟨cur, hc⟩ := row_block h.names.1 e
    rw [h.cells] at hc
    simp at hc
  · intro e
    obtain ⟨cur, hc⟩ := row_block h.names.1 e
    rw [hl] at hc
    simp at hc

theorem CopAt.keep {O : Nat → Prop} {w w' : World} {x cap : Nat} {names : List ByteArray} {S : GrS} {nv : Value} {gb lb : Nat} {L : List (Value × Value)} {Og : Nat → Prop} (h : CopAt O w x cap names S nv gb lb L Og) (hs : w.heap.size ≤ w'.heap.size) (hb : ∀ k, O k → w'.heap[k]? = w.heap[k]?) : CopAt O w' x cap names S nv gb lb L Og :=
  { h with
    lt := fun b hb => Nat.lt_of_lt_of_le (h.lt b hb) hs
    cells := (hb x h.self).trans h.cells
    names := h.names.same (fun k hk => hb k (h.names.2 k hk))
    graph := h.graph.keep hs (fun k hk => hb k (h.og k hk))
    live := h.live.same (hb lb h.ol) }

theorem CopAt.below {O : Nat → Prop} {w w' : World} {x cap : Nat} {names : List ByteArray} {S : GrS} {nv : Value} {gb lb : Nat} {L : List (Value × Value)} {Og : Nat → Prop} (h : CopAt O w x cap names S nv gb lb L Og) (hb : Below w.heap.size w w') : CopAt O w' x cap names S nv gb lb L Og :=
  h.keep hb.size (fun k hk => hb.block k (h.lt k hk))

/-- The graph has turned. -/
theorem CopAt.graphed {O : Nat → Prop} {w w' : World} {x cap : Nat} {names : List ByteArray} {S S' : GrS} {nv : Value} {gb lb : Nat} {L : List (Value × Value)} {Og : Nat → Prop} (h : CopAt O w x cap names S nv gb lb L Og) (hst : GrStep Og w gb w' S') :
    Only O w w' ∧ ∃ O' Og', CopAt O' w' x cap names S' nv gb lb L Og' ∧ Grows w O O' := by
  obtain ⟨ho, Og', hG, hg⟩ := hst
  have hx := h.lt x h.self
  have hl := h.lt lb h.ol
  have hn : ∀ b, b < w.heap.size → ¬ Og b → ¬ Og' b := fun b hb h1 h2 => by
    rcases hg b h2 with e | e
    · exact h1 e
    · omega
  have hblk : ∀ b, b < w.heap.size → ¬ Og b → w'.heap[b]? = w.heap[b]? := fun b hb h1 => ho.block b hb h1
  refine ⟨ho.mono h.og, fun b => O b ∨ Og' b, Og', ?_, ?_⟩
  · refine ⟨?_, .inl h.self, .inl h.ol, fun b hb => .inr hb, (hblk x hx h.nx).trans h.cells, ?_, hG, h.live.same (hblk lb hl h.nlb), hn x hx h.nx, hn lb hl h.nlb, fun b hb => hn b (h.lt b (h.names.2 b hb)) (h.nn b hb)⟩
    · rintro b (hb | hb)
      · exact Nat.lt_of_lt_of_le (h.lt b hb) ho.size
      · exact hG.lt b hb
    · exact (h.names.same (fun b hb => hblk b (h.lt b (h.names.2 b hb)) (h.nn b hb))).mono (fun b hb => .inl hb)
  · rintro b (hb | hb)
    · exact .inl hb
    · rcases hg b hb with e | e
      · exact .inl (h.og b e)
      · exact .inr e

/-- The map of the live handles has turned. -/
theorem CopAt.lived {O : Nat → Prop} {w w' : World} {x cap : Nat} {names : List ByteArray} {S : GrS} {nv : Value} {gb lb : Nat} {L L' : List (Value × Value)} {Og : Nat → Prop} (h : CopAt O w x cap names S nv gb lb L Og) (ht : MapTurn w w' lb) (hm : MapIs Tryz.prog 80 w' lb L') :
    CopAt O w' x cap names S nv gb lb L' Og ∧ Only O w w' := by
  obtain ⟨n1, n2, n3⟩ := h.ne
  have hb : ∀ b, b < w.heap.size → b ≠ lb → w'.heap[b]? = w.heap[b]? := fun b hb hne => ht.1.block b hb (by simp; exact hne)
  refine ⟨{ h with lt := fun b hb => by rw [ht.2]; exact h.lt b hb, cells := (hb x (h.lt x h.self) n1).trans h.cells, names := ?_, graph := ?_, live := hm }, ?_⟩
  · exact h.names.same (fun b hb' => hb b (h.lt b (h.names.2 b hb')) (by intro e; subst e; exact n3 hb'))
  · exact h.graph.keep (by rw [ht.2]; exact Nat.le_refl _) (fun b hb' => hb b (h.lt b (h.og b hb')) (by intro e; subst e; exact h.nlb hb'))
  · exact ⟨ht.1.os, ht.1.tape, ht.1.output, by rw [ht.2]; exact Nat.le_refl _, fun b hb' hne => hb b hb' (by intro e; subst e; exact hne h.ol)⟩

/-- A copse, as its callers know it. -/
def CopI (O : Nat → Prop) (w : World) (x : Nat) (C : CopS) : Prop :=
  ∃ cap names S nv gb lb L Og, C = copC cap names S L ∧ CopOk cap names S L ∧ CopAt O w x cap names S nv gb lb L Og

theorem CopI.lt {O : Nat → Prop} {w : World} {x : Nat} {C : CopS} (h : CopI O w x C) : ∀ b, O b → b < w.heap.size := by
  obtain ⟨cap, names, S, nv, gb, lb, L, Og, rfl, hok, hA⟩ := h
  exact hA.lt
theorem CopI.keep {O : Nat → Prop} {w w' : World} {x : Nat} {C : CopS} (h : CopI O w x C) (hs : w.heap.size ≤ w'.heap.size) (hb : ∀ k, O k → w'.heap[k]? = w.heap[k]?) : CopI O w' x C := by
  obtain ⟨cap, names, S, nv, gb, lb, L, Og, rfl, hok, hA⟩ := h
  exact ⟨cap, names, S, nv, gb, lb, L, Og, rfl, hok, hA.keep hs hb⟩
theorem CopI.inj {O : Nat → Prop} {w : World} {x : Nat} {C : CopS} (h : CopI O w x C) {a b : Nat} {f : Tab} (ha : C.T a = some f) (hb : C.T b = some f) : a = b := by
  obtain ⟨cap, names, S, nv, gb, lb, L, Og, rfl, hok, hA⟩ := h
  obtain ⟨h1, h2⟩ := copC_T.1 ha
  obtain ⟨h3, h4⟩ := copC_T.1 hb
  exact hok.mid.k.same (hok.mid.liveOk h1) (hok.mid.liveOk h3) (h2.trans h4.symm)

theorem Gr.Ok.tab0 {G : Gr} (k : G.Ok) : G.tab 0 = onesT := by
  unfold Gr.tab
  rw [if_pos rfl]
  exact k.sem0
theorem Gr.Ok.tab1 {G : Gr} (k : G.Ok) : G.tab 1 = 0 := by
  unfold Gr.tab
  rw [if_neg (by decide)]
  show ~~~ G.sem (1 / 2) = 0
  rw [show (1 / 2 : Nat) = 0 from rfl, k.sem0]
  unfold onesT
  simp

theorem CopI.consts {O : Nat → Prop} {w : World} {x : Nat} {C : CopS} (h : CopI O w x C) : C.T 1 = some 0 ∧ C.T 0 = some onesT := by
  obtain ⟨cap, names, S, nv, gb, lb, L, Og, rfl, hok, hA⟩ := h
  exact ⟨copC_T.2 ⟨hok.mid.c1, hok.mid.k.tab1⟩, copC_T.2 ⟨hok.mid.c0, hok.mid.k.tab0⟩⟩

theorem zero_unit (w : World) : (zeroValue 150).run Tryz.prog w = .ok (.agg #[]) w := by kernel_rfl

/-- What the map of live handles tells. -/
theorem live_look {w : World} {lb : Nat} {L : List (Value × Value)} (h : MapIs Tryz.prog 80 w lb L) (hL : ∀ p ∈ L, p.2 = .agg #[]) (z : Int) (hz : i64ok z) : ∃ b : Bool, (b = true ↔ (.int .i64 z, .agg #[]) ∈ L) ∧ (Instr.lookup 75 (.map (some lb)) (.int .i64 z) true).run Tryz.prog w = .ok (.tuple #[.agg #[], .bool b]) w := by
  have hkey := ref_key_ok z (WalkArith.wf_i64 (by unfold i64ok at hz; omega))
  rcases h.look ref_keyed Tryz.underlying75 (zero_unit w) true hkey with ⟨u, hu, hrun⟩ | ⟨hno, hrun⟩
  · have := hL _ hu
    simp only at this
    subst this
    exact ⟨true, by simp [hu], hrun⟩
  · exact ⟨false, by simp [hno], hrun⟩

set_option maxHeartbeats 400000 in
set_option maxRecDepth 10000 in
theorem copseIsLive_is {w : World} {x lb : Nat} {L : List (Value × Value)} (hc : w.cell? ⟨x, 3, none⟩ = some (.map (some lb))) (h : MapIs Tryz.prog 80 w lb L) (hL : ∀ p ∈ L, p.2 = .agg #[]) (z : Int) (hz : i64ok z) :
    Calls Tryz.prog 57 #[.pointer (some ⟨x, 0, none⟩), .int .i64 z] w fun e w' => ∃ b : Bool, (b = true ↔ (.int .i64 z, .agg #[]) ∈ L) ∧ e = .returned (.bool b) ∧ Below w.heap.size w w' := by
  obtain ⟨b, hb, hrun⟩ := live_look h hL z hz
  have HB : Hid _ := hb
  clear hb h hL hz
  go_enter Tryz.func57, Tryz.ntmps57
  go_wp2
  go_ret
  exact ⟨b, HB.out, rfl, (Below.refl _ _).alloc (Nat.le_refl _) _⟩

end Go.Proofs.YtebfmcafmojlaaaGreatDoor

/-
  copse: areLive.
-/
namespace Go.Proofs.YtebfmcafmojlaaaGreatDoor
open Go.RowKit Go.Maps
set_option linter.unusedSimpArgs false
set_option linter.unusedVariables false

def liveZ (L : List (Value × Value)) (z : Int) : Prop := (Value.int .i64 z, Value.agg #[]) ∈ L

set_option maxHeartbeats 400000 in
set_option maxRecDepth 10000 in
theorem areLive1_is {w : World} {x bx lb : Nat} {L : List (Value × Value)} (hb : w.cell? ⟨bx, 0, none⟩ = some (.pointer (some ⟨x, 0, none⟩))) (hc : w.cell? ⟨x, 3, none⟩ = some (.map (some lb))) (h : MapIs Tryz.prog 80 w lb L) (hL : ∀ p ∈ L, p.2 = .agg #[]) (z : Int) (hz : i64ok z) :
    Calls Tryz.prog 73 #[.int .i64 z, .pointer (some ⟨bx, 0, none⟩)] w fun e w' => ∃ b : Bool, (b = false ↔ liveZ L z) ∧ e = .returned (.bool b) ∧ Below w.heap.size w w' := by
  have hcall := copseIsLive_is hc h hL z hz
  clear hc h hL hz
  go_enter Tryz.func73, Tryz.ntmps73
  go_wp2_with (go_at_call 57; refine hcall.mono ?_; clear hcall; rintro e w' ⟨b, hb, rfl, hbl⟩)
  go_ret
  exact ⟨!b, by cases b <;> simpa [liveZ] using hb, rfl, hbl⟩

def AllLivePost (L : List (Value × Value)) (zs : List Int) (w : World) (e : Ending) (w' : World) : Prop :=
  ∃ i : Int, e = .returned (.int .i64 i) ∧ -1 ≤ i ∧ (i < 0 ↔ ∀ z ∈ zs, liveZ L z) ∧ Below w.heap.size w w'

theorem i64_lit (z : Int) : (Value.int .i64 z) = .int .i64 z := rfl

set_option maxHeartbeats 400000 in
set_option maxRecDepth 10000 in
theorem indexFuncLive_is {w : World} {x bx lb : Nat} {L : List (Value × Value)} (hb : w.cell? ⟨bx, 0, none⟩ = some (.pointer (some ⟨x, 0, none⟩))) (hbl : bx < w.heap.size) (hc : w.cell? ⟨x, 3, none⟩ = some (.map (some lb))) (hxl : x < w.heap.size) (h : MapIs Tryz.prog 80 w lb L) (hL : ∀ p ∈ L, p.2 = .agg #[])
    {fv : Value} {zs : List Int} (hr : Reads w.heap.size w fv (zs.map (Value.int .i64))) (hz : ∀ z ∈ zs, i64ok z) (hlen : zs.length ≤ 1000000000) :
    Calls Tryz.prog 129 #[fv, .func (.func 73) #[] #[.pointer (some ⟨bx, 0, none⟩)]] w (AllLivePost L zs w) := by
  have hcl : ∀ W, Below w.heap.size w W → ∀ z, i64ok z → Calls Tryz.prog 73 #[.int .i64 z, .pointer (some ⟨bx, 0, none⟩)] W fun e w' => ∃ b : Bool, (b = false ↔ liveZ L z) ∧ e = .returned (.bool b) ∧ Below W.heap.size W w' := by
    intro W hW z hz
    exact areLive1_is (L := L) (x := x) (lb := lb) ((hW.cell (p := ⟨bx, 0, none⟩) hbl).trans hb) ((hW.cell (p := ⟨x, 3, none⟩) hxl).trans hc) (h.same (hW.block lb h.lt)) hL z hz
  have HC : Hid _ := hcl
  have HZ : Hid _ := hz
  clear hcl hb hbl hc hxl h hL hz
  rcases hr with ⟨rfl, h0⟩ | ⟨b, off, cap, rfl, hlt, hc⟩
  · have : zs = [] := by simpa using h0
    subst this
    go_enter Tryz.func129, Tryz.ntmps129
    go_wp2
    go_loop [8] (fun i => i = .int .i64 0) (fun _ => 0)
    case atStart => rfl
    case round =>
      subst hrel
      go_wp2
      go_ret
      exact ⟨-1, rfl, by omega, by simp, Below.refl _ _⟩
  · simp only [List.length_map] at hc ⊢
    have hcx : ∀ i, i < zs.length → w.cell? ⟨b, off + i, none⟩ = some (.int .i64 (zs.getD i 0)) := by
      intro i hi
      rw [hc i hi]
      simp [hi]
    have HX : Hid _ := hcx
    clear hc hcx
    go_enter Tryz.func129, Tryz.ntmps129
    go_wp2
    go_loopw [8] (fun i wr => ∃ k : Nat, k ≤ zs.length ∧ i = .int .i64 k ∧ Below w.heap.size w wr ∧ ∀ j, j < k → liveZ L (zs.getD j 0)) (fun i _ => zs.length - (intOf i).toNat)
    case atStart => exact ⟨0, Nat.zero_le _, rfl, Below.refl _ _, fun j hj => by omega⟩
    case round =>
      obtain ⟨k, hk, rfl, hbw, hn⟩ := hrel
      by_cases hkl : k < zs.length
      · have hcell := (hbw.cell (p := ⟨b, off + k, none⟩) hlt).trans (HX.out k hkl)
        have hzm : zs.getD k 0 ∈ zs := by rw [List.getD_eq_getElem?_getD, List.getElem?_eq_getElem hkl]; exact List.getElem_mem hkl
        have hcall := HC.out wr hbw (zs.getD k 0) (HZ.out _ hzm)
        have hstep : ∀ w', (¬ liveZ L (zs.getD k 0)) → Below wr.heap.size wr w' → AllLivePost L zs w (.returned (.int .i64 (k : Nat))) w' := by
          intro w' hl hb'
          refine ⟨k, rfl, by omega, ?_, hbw.trans (hb'.mono hbw.size)⟩
          constructor
          · intro h; omega
          · intro h; exact absurd (h _ hzm) hl
        have hnext : liveZ L (zs.getD k 0) → ∀ j, j < k + 1 → liveZ L (zs.getD j 0) := by
          intro hl j hj
          by_cases e : j = k
          · subst e; exact hl
          · exact hn j (by omega)
        have HS : Hid _ := hstep
        have HN : Hid _ := hnext
        have HW : Hid (Below w.heap.size w wr) := hbw
        clear hstep hnext hn hbw hzm
        obtain ⟨z, hz⟩ : ∃ z, z = zs.getD k 0 := ⟨_, rfl⟩
        rw [← hz] at hcell hcall HS HN
        clear hz
        go_upto_region 5 with (go_at_call 73; refine hcall.mono ?_; clear hcall; rintro e w' ⟨bb, hb, rfl, hbl⟩; cases bb)
        · exact ⟨⟨k + 1, by omega, congrArg (Value.int .i64) (by omega), HW.out.trans (hbl.mono HW.out.size), HN.out (hb.1 trivial)⟩, by simp [intOf]; omega⟩
        · have hnl : ¬ liveZ L z := fun h => by have := hb.2 h; simp at this
          have HQ : Hid _ := HS.out _ hnl hbl
          clear hnl hb hbl
          go_wp2
          go_ret
          exact HQ.out
      · have hk' : k = zs.length := by omega
        subst hk'
        have HW : Hid (Below w.heap.size w wr) := hbw
        have HN : Hid _ := hn
        clear hbw hn
        go_wp2
        go_ret
        refine ⟨-1, rfl, by omega, ?_, HW.out⟩
        refine ⟨fun _ z hz => ?_, fun _ => by omega⟩
        obtain ⟨j, hj, e⟩ := List.getElem_of_mem hz
        have := HN.out j hj
        rw [List.getD_eq_getElem?_getD, List.getElem?_eq_getElem hj] at this
        simpa [e] using this

set_option maxHeartbeats 400000 in
set_option maxRecDepth 10000 in
theorem containsFuncLive_is {w : World} {L : List (Value × Value)} {fv cv : Value} {zs : List Int} (hi : Calls Tryz.prog 129 #[fv, cv] w (AllLivePost L zs w)) :
    Calls Tryz.prog 72 #[fv, cv] w fun e w' => ∃ b : Bool, e = .returned (.bool b) ∧ (b = false ↔ ∀ z ∈ zs, liveZ L z) ∧ Below w.heap.size w w' := by
  go_enter Tryz.func72, Tryz.ntmps72
  go_wp2_with (go_at_call 129; refine hi.mono ?_; clear hi; rintro e w' ⟨i, rfl, h1, h2, h3⟩)
  go_ret
  exact ⟨_, rfl, by rw [← h2]; simp, h3⟩

set_option maxHeartbeats 400000 in
set_option maxRecDepth 10000 in
theorem copseAreLive_is {w : World} {x lb : Nat} {L : List (Value × Value)} (hc : w.cell? ⟨x, 3, none⟩ = some (.map (some lb))) (hxl : x < w.heap.size) (h : MapIs Tryz.prog 80 w lb L) (hL : ∀ p ∈ L, p.2 = .agg #[])
    {fv : Value} {zs : List Int} (hr : Reads w.heap.size w fv (zs.map (Value.int .i64))) (hz : ∀ z ∈ zs, i64ok z) (hlen : zs.length ≤ 1000000000) :
    Calls Tryz.prog 36 #[.pointer (some ⟨x, 0, none⟩), fv] w fun e w' => ∃ b : Bool, e = .returned (.bool b) ∧ (b = true ↔ ∀ z ∈ zs, liveZ L z) ∧ Below w.heap.size w w' := by
  obtain ⟨W0, hW0⟩ : ∃ W0, W0 = w.alloc (.cells #[.pointer (some ⟨x, 0, none⟩)] 28) := ⟨_, rfl⟩
  have hb0 : Below w.heap.size w W0 := by rw [hW0]; exact (Below.refl _ w).alloc (Nat.le_refl _) _
  have hs0 : W0.heap.size = w.heap.size + 1 := by rw [hW0]; simp
  have hcb : W0.cell? ⟨w.heap.size, 0, none⟩ = some (.pointer (some ⟨x, 0, none⟩)) := by
    have : W0.heap[w.heap.size]? = some (.cells #[.pointer (some ⟨x, 0, none⟩)] 28 (0, 0)) := by rw [hW0]; exact heap_alloc_new w _
    rw [cell_of_heap this]; rfl
  have hcall := containsFuncLive_is (indexFuncLive_is (L := L) (zs := zs) (fv := fv) hcb (by omega) ((hb0.cell (p := ⟨x, 3, none⟩) hxl).trans hc) (by omega) (h.same (hb0.block lb h.lt)) hL ((hr.below hb0 (Nat.le_refl _)).mono (by omega)) hz hlen)
  have hmf : ∀ (fn : Fn) (first cap : Array Value) (w : World), (Instr.makeFunc fn first cap).run Tryz.prog w = .ok (.func fn first cap) w := fun _ _ _ _ => rfl
  clear hc hxl h hL hr hz hlen hcb
  have HB : Hid (Below w.heap.size w W0) := hb0
  clear hb0 hs0
  go_enter Tryz.func36, Tryz.ntmps36
  go_upto_region 1 with fail
  rw [← hW0]
  clear hW0
  go_wp2_with (go_at_call 72; refine hcall.mono ?_; clear hcall; rintro e w' ⟨b, rfl, h2, h3⟩)
  go_ret
  exact ⟨!b, rfl, by rw [← h2]; simp, HB.out.trans (h3.mono HB.out.size)⟩

end Go.Proofs.YtebfmcafmojlaaaGreatDoor

/-
  copse: what a Sweep of the live handles leaves.
-/
namespace Go.Proofs.YtebfmcafmojlaaaGreatDoor
open Go.RowKit Go.Maps
set_option linter.unusedSimpArgs false
set_option linter.unusedVariables false

theorem swept_copse {names : List ByteArray} {S S' : GrS} {L : List (Value × Value)} {X : Nat → Prop} {A : List Bool} {xs : List (RefT S.g)} (h : CopMid names S L X) (hs : S.Swept S' A) (hm : MarkedAll S.g A xs) (hx : ∀ z : Int, (∃ x ∈ xs, ((x.1 : Nat) : Int) = z) ↔ ∃ r : Nat, z = r ∧ liveH L r) :
    CopMid names S' L (fun _ => False) ∧ (∀ r, S'.g.tab r = S.g.tab r) ∧ ∀ i, i ∈ S'.nums → i ∈ S.nums := by
  have hlx : ∀ r, liveH L r → ∃ x ∈ xs, x.1 = r := by
    intro r hr
    obtain ⟨x, h1, h2⟩ := (hx r).2 ⟨r, rfl, hr⟩
    exact ⟨x, h1, by omega⟩
  have hxl : ∀ x ∈ xs, liveH L x.1 := by
    intro x hx'
    obtain ⟨r, h1, h2⟩ := (hx (x.1 : Nat)).1 ⟨x, hx', rfl⟩
    have : x.1 = r := by omega
    rw [this]; exact h2
  have horder : S'.g.order = S.g.order := hs.order
  have hsem : S'.g.sem = S.g.sem := hs.sem
  have htab : ∀ r, S'.g.tab r = S.g.tab r := by intro r; unfold Gr.tab; rw [hsem]
  have hidx : ∀ v, S'.g.idx v = S.g.idx v := by intro v; unfold Gr.idx; rw [horder]
  have hM : ∀ {i n}, S'.g.node i = some n → isM A i ∧ S.g.node i = some n := by
    intro i n hn
    by_cases c : isM A i
    · exact ⟨c, by rw [← hs.kept i c]; exact hn⟩
    · rw [hs.gone i c] at hn; cases hn
  have hhas : ∀ {i}, isM A i → S'.g.has i := by
    intro i c
    obtain ⟨n, hn, _⟩ := hm.kids i c
    exact ⟨n, by rw [hs.kept i c]; exact hn⟩
  have hok : ∀ {r}, (r / 2 = 0 ∨ isM A (r / 2)) → S'.g.ok r := fun hr => hr.imp id hhas
  have hkid : ∀ {i n}, S'.g.node i = some n → S'.g.ok n.t ∧ S'.g.ok n.e := by
    intro i n hn
    obtain ⟨c, hn'⟩ := hM hn
    obtain ⟨n2, h1, h2, h3⟩ := hm.kids i c
    rw [hn'] at h1
    cases h1
    exact ⟨hok h2, hok h3⟩
  have hlev : ∀ {r}, S'.g.ok r → S'.g.lev r = S.g.lev r := by
    intro r hr
    unfold Gr.lev
    rcases hr with e | ⟨n, e⟩
    · have h0 : ¬ isM A 0 := by
        intro c
        obtain ⟨n, h1, _⟩ := hm.kids 0 c
        rw [h.k.zero] at h1; cases h1
      rw [e, h.k.zero, hs.gone 0 h0, horder]
    · rw [e, (hM e).2]
      exact hidx _
  have h0 : ¬ isM A 0 := by
    intro c
    obtain ⟨n, h1, _⟩ := hm.kids 0 c
    rw [h.k.zero] at h1; cases h1
  have k' : S'.g.Ok := by
    refine ⟨?_, ?_, hs.gone 0 h0, ?_, ?_, ?_, ?_, ?_, ?_, ?_, ?_, ?_, ?_⟩
    · rw [horder]; exact h.k.nodup
    · rw [horder]; exact h.k.lt6
    · rw [hsem]; exact h.k.sem0
    · intro i n hn; rw [horder]; exact h.k.var (hM hn).2
    · intro i n hn; exact h.k.tev (hM hn).2
    · intro i n hn; exact (hkid hn).1
    · intro i n hn; exact (hkid hn).2
    · intro i n hn; rw [hidx, hlev (hkid hn).1]; exact h.k.tlev (hM hn).2
    · intro i n hn; rw [hidx, hlev (hkid hn).2]; exact h.k.elev (hM hn).2
    · intro i n hn; exact h.k.ne (hM hn).2
    · intro i n hn; rw [hsem, htab, htab]; exact h.k.is (hM hn).2
    · intro i j n hn hn'; exact h.k.inj (hM hn).2 (hM hn').2
  refine ⟨⟨k', hs.full, ?_, h.c0, h.c1, ?_, ?_, h.n6, fun r hr => hr.elim, ?_, ?_, ?_⟩, htab, ?_⟩
  · intro p hp
    obtain ⟨r, e, _⟩ := h.ents p hp
    refine ⟨r, e, ?_⟩
    obtain ⟨x, h1, h2⟩ := hlx r (by rw [e] at hp; exact hp)
    have := hm.self x h1
    rw [h2] at this
    exact hok this
  · intro v; rw [hs.order]; exact h.order v
  · rw [hs.order]; exact h.olen
  · rintro i ⟨n, hn⟩
    obtain ⟨c, hn'⟩ := hM hn
    refine ⟨⟨n, hn⟩, fun T hT hR => ?_⟩
    have := hm.least (fun j => isM A j ∧ T j) ?_ ?_ i c
    · exact this.2
    · rintro j ⟨hj1, hj2⟩ m hmn
      have hmn' : S'.g.node j = some m := by rw [hs.kept j hj1]; exact hmn
      obtain ⟨m2, g1, g2, g3⟩ := hm.kids j hj1
      rw [hmn] at g1
      cases g1
      obtain ⟨t1, t2⟩ := hT j hj2 m hmn'
      constructor
      · rcases g2 with g2 | g2
        · exact .inl g2
        · exact t1.imp id (fun t => ⟨g2, t⟩)
      · rcases g3 with g3 | g3
        · exact .inl g3
        · exact t2.imp id (fun t => ⟨g3, t⟩)
    · intro x hx'
      rcases hm.self x hx' with e | e
      · exact .inl e
      · exact (hR x.1 (.inl (hxl x hx'))).imp id (fun t => ⟨e, t⟩)
  · rw [hs.len]; exact h.nlen
  · refine Nat.le_trans (List.Nodup.length_le_of_subset (nums_nodup S') ?_) h.cnt
    intro i hi
    obtain ⟨n, hn⟩ := GrS.mem_nums.1 hi
    exact GrS.mem_nums.2 ⟨n, (hM hn).2⟩
  · intro i hi
    obtain ⟨n, hn⟩ := GrS.mem_nums.1 hi
    exact GrS.mem_nums.2 ⟨n, (hM hn).2⟩

def LiveXs (L : List (Value × Value)) {G : Gr} (xs : List (RefT G)) : Prop := ∀ z : Int, (∃ x ∈ xs, ((x.1 : Nat) : Int) = z) ↔ ∃ r : Nat, z = r ∧ liveH L r

theorem live_len {names : List ByteArray} {S : GrS} {L : List (Value × Value)} {X : Nat → Prop} {w : World} {lb : Nat} (h : CopMid names S L X) (hm : MapIs Tryz.prog 80 w lb L) : L.length ≤ 2000 := by
  have h1 : L.length ≤ (((0 :: S.nums).flatMap (fun i => [2 * i, 2 * i + 1])).map (fun r => (natv r, Value.agg #[]))).length := by
    refine List.Nodup.length_le_of_subset hm.nodup ?_
    intro p hp
    obtain ⟨r, e, hr⟩ := h.ents p hp
    rw [e, List.mem_map]
    refine ⟨r, List.mem_flatMap.2 ⟨r / 2, ?_, ?_⟩, rfl⟩
    · rcases hr with e' | ⟨n, hn⟩
      · rw [e']; exact List.mem_cons_self ..
      · exact List.mem_cons_of_mem _ (GrS.mem_nums.2 ⟨n, hn⟩)
    · simp only [List.mem_cons, List.not_mem_nil, or_false]
      omega
  have h2 : ∀ l : List Nat, (l.flatMap (fun i => [2 * i, 2 * i + 1])).length = 2 * l.length := by
    intro l
    induction l with
    | nil => rfl
    | cons a l ih => rw [List.flatMap_cons, List.length_append, ih]; simp only [List.length_cons, List.length_nil]; omega
  rw [List.length_map, h2, List.length_cons] at h1
  have := h.cnt
  omega

set_option maxRecDepth 100000 in
theorem graphSweep_live {O Og : Nat → Prop} {w : World} {x cap : Nat} {names : List ByteArray} {S : GrS} {nv : Value} {gb lb : Nat} {L : List (Value × Value)} {X : Nat → Prop} (hm : CopMid names S L X) (hA : CopAt O w x cap names S nv gb lb L Og) {bm : Nat} (hbm : w.cell? ⟨bm, 0, none⟩ = some (.map (some lb))) (hbl : bm < w.heap.size) (hbo : ¬ Og bm) :
    Calls Tryz.prog 88 #[.pointer (some ⟨gb, 0, none⟩), .func (.func 143) #[] #[.pointer (some ⟨bm, 0, none⟩)]] w (SweepPost Og w gb S (LiveXs L)) := by
  refine graphSweep_is hA.graph hm.k ?_
  intro W ho hsz hG
  have hlb := hA.lt lb hA.ol
  have hlW : W.heap[lb]? = w.heap[lb]? := ho.block lb hlb hA.nlb
  have hbW : W.heap[bm]? = w.heap[bm]? := ho.block bm hbl hbo
  have hcW : W.cell? ⟨bm, 0, none⟩ = some (.map (some lb)) := by
    rw [← hbm]
    unfold World.cell?
    simp only [hbW]
  have hmW := hA.live.same hlW
  have hlen := live_len hm hA.live
  have hsm : ∀ {r}, S.g.ok r → r < refMax := by
    intro r hr
    have := hm.nlen
    unfold refMax
    rcases hr with e' | ⟨n, hn⟩
    · omega
    · have := GrS.node_lt hn
      omega
  obtain ⟨D, hD1, hD2⟩ := ownsMap_live hmW (fun p hp => by obtain ⟨r, e, _⟩ := hm.ents p hp; rw [e]) (fun p hp => by
    obtain ⟨r, e, hr⟩ := hm.ents p hp
    exact ⟨r, by rw [e], hsm hr⟩) (by unfold maxLen; omega)
  have hseq := keys_stops (G := S.g) 5 (by omega) bm lb L.length D W (by omega) hcW hD1 (fun z hz => by
    obtain ⟨r, e, hr⟩ := (hD2 z).1 hz
    have := hm.liveOk hr
    exact ⟨r, e, this, hsm this⟩)
  have := graphReach_is (S := { S with free := [] }) hG hm.k (gf := 143) (by intro args w; rfl) hseq (fun h1 h2 => h1.trans h2) (fun W W' h _ => h.walks) (fun W l o o' _ hl _ hw => KeepsWalks.putObj o' hl hw)
  refine this.mono ?_
  rintro e w' ⟨xs, A, rb, hxs, r⟩
  refine ⟨xs, A, rb, ?_, r⟩
  intro z
  rw [hxs z, hD2 z]
  rfl

end Go.Proofs.YtebfmcafmojlaaaGreatDoor

