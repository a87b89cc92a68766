/-
  copseref: Ordered, Size, moved, Move, Sift.
-/
import Derived.BigQuiet
import Derived.Test.YtebfmcafmojlaaaGreatDoorT07
import Derived.Test.YtebfmcafmojlaaaGreatDoorT35
namespace Go.Proofs.YtebfmcafmojlaaaGreatDoor
open Go.RowKit
set_option linter.unusedSimpArgs false
set_option linter.unusedVariables false

/-- A new order is stored. -/
theorem RefAt.setOrder {O : Nat → Prop} {w : World} {r : Nat} {S : RefS} {nv ov lv : Value} (h : RefAt O w r S nv ov lv) {B : Nat} {l : List Nat} {v : Value} (hown : w.ownsRow B 3 1 v l.length (l.map intv)) (hB : ∀ b, O b → b < B) :
    RefAt (fun b => O b ∨ v.ownBlock = some b) (w.setCell ⟨r, 2, none⟩ v) r { S with order := l } nv v lv := by
  have hrB := hB r h.self
  have hv : ∀ k, v.ownBlock = some k → B ≤ k ∧ k < w.heap.size := fun k hk => hown.lt k hk
  have hne : ∀ k, k ≠ r → (w.setCell ⟨r, 2, none⟩ v).heap[k]? = w.heap[k]? := fun k hk => Below.heap_setCell w ⟨r, 2, none⟩ v k hk
  refine ⟨?_, .inl h.self, ?_, ?_, ?_, ?_, h.nr, ?_, h.lr, ?_, h.nl⟩
  · intro b hb
    rw [show (w.setCell ⟨r, 2, none⟩ v).heap.size = w.heap.size by simp [World.setCell]]
    rcases hb with hb | hb
    · exact h.lt b hb
    · exact (hv b hb).2
  · rw [heap_setCell_at h.cells]; rfl
  · exact (h.names.same (fun k hk => hne k (fun e => h.nr (e ▸ hk)))).mono (fun b hb => .inl hb)
  · refine ⟨?_, fun k hk => .inr hk⟩
    rw [List.length_map]
    exact owns_same (ownsRow_base hown (Nat.zero_le _)) (fun k hk => hne k (fun e => by have := (hv k hk).1; omega))
  · exact (h.live.same (fun k hk => hne k (fun e => h.lr (e ▸ hk)))).mono (fun b hb => .inl hb)
  · intro e; have := (hv r e).1; omega
  · cases hn : nv.ownBlock with
    | none => exact .inl rfl
    | some k =>
      right
      intro e
      have h1 := h.names.2 k hn
      have h2 := (hv k e.symm).1
      have := hB k h1
      omega

theorem ref_c {O : Nat → Prop} {w : World} {r : Nat} {S : RefS} {nv ov lv : Value} (h : RefAt O w r S nv ov lv) : w.cell? ⟨r, 0, none⟩ = some (.int .i64 S.cap) ∧ w.cell? ⟨r, 1, none⟩ = some nv ∧ w.cell? ⟨r, 2, none⟩ = some ov ∧ w.cell? ⟨r, 3, none⟩ = some lv ∧ ∀ o, w.frozen? ⟨r, o, none⟩ = false := by
  refine ⟨?_, ?_, ?_, ?_, fun o => frozen_of_heap h.cells⟩ <;> (rw [cell_of_heap h.cells]; rfl)

set_option maxHeartbeats 1000000 in
set_option maxRecDepth 10000 in
theorem refSize {O : Nat → Prop} {w : World} {r : Nat} {S : RefS} {nv ov lv : Value} (h : RefAt O w r S nv ov lv) (ok : RefOk S) :
    Calls Tryz.prog 122 #[.pointer (some ⟨r, 0, none⟩)] w fun e w' => e = .returned (.int .i64 ((allT S.order S.live).length : Nat)) ∧ Below w.heap.size w w' := by
  obtain ⟨c0, c1, c2, c3, _⟩ := ref_c h
  obtain ⟨oao, ocap, eo⟩ := owns_form h.order.1
  obtain ⟨lao, lcap, el⟩ := owns_form h.live.1
  rw [List.length_map] at eo el
  subst eo
  subst el
  have hall := fun W (hb : Below w.heap.size w W) => refAll_any S.order ok.o6 ok.ol _ _ S.live W (h.below hb).order.reads (h.below hb).live.reads (by have := ok.ll; omega)
  have HA : Hid _ := hall
  have hrl : r < w.heap.size := h.lt r h.self
  clear hall h ok
  go_enter Tryz.func122, Tryz.ntmps122
  go_upto_region 1 with fail
  go_region_held (fun w' => w'.cell? ⟨r, 2, none⟩ = some (.slice oao S.order.length ocap) ∧ w'.cell? ⟨r, 3, none⟩ = some (.slice lao S.live.length lcap)) (go_keep) (first
    | (go_at_call 108; refine (HA.out _ (Below.refl _ _).drew).mono ?_; clear HA; rintro e w2 ⟨v2, rfl, hown2, hb2⟩; obtain ⟨ao, ac, rfl⟩ := owns_form hown2; have s2 := (hb2.cell (p := ⟨r, 2, none⟩) hrl).trans c2; have s3 := (hb2.cell (p := ⟨r, 3, none⟩) hrl).trans c3))
  all_goals
    go_wp2_with fail
    go_ret
    exact ⟨rfl, (Below.refl _ w).drew.trans hb2⟩

theorem moved_rest (o : List Nat) (v : Nat) (hd : o.Nodup) : o.filter (fun x => decide (x ≠ v)) = o.erase v := by
  rw [List.Nodup.erase_eq_filter hd]
  apply List.filter_congr
  intro x _
  simp [bne]
  by_cases e : x = v <;> simp [e]

set_option maxHeartbeats 2000000 in
set_option maxRecDepth 20000 in
theorem refOrdered {O : Nat → Prop} {w : World} {r : Nat} {S : RefS} {nv ov lv : Value} (h : RefAt O w r S nv ov lv) (ok : RefOk S) (on' : ∀ x ∈ S.order, x < S.names.length) :
    Calls Tryz.prog 121 #[.pointer (some ⟨r, 0, none⟩)] w fun e w' =>
      ∃ v', e = .returned v' ∧ w'.ownsRow w.heap.size 9 1 v' S.order.length ((namesO S.names S.order).map Value.string) ∧ Below w.heap.size w w' := by
  obtain ⟨j0, hj, gz0, gz1, gz2⟩ := info_parts Tryz.infoStrR
  have hrl : r < w.heap.size := h.lt r h.self
  obtain ⟨_, hc1, hc2, _, _⟩ := ref_c h
  have hord := h.order.reads
  have hnam := h.names.reads
  have hol := ok.ol
  unfold namesO
  rcases hord with ⟨rfl, h0⟩ | ⟨vb, vo, vcap, rfl, hvlt, hvc⟩
  · have h0' : S.order = [] := by simpa using h0
    rw [h0']
    clear h0 h0' hnam hol h ok on'
    go_enter Tryz.func121, Tryz.ntmps121
    go_wp2_with fail
    go_loop [3, 4] (fun v i => i = .int .i64 0 ∧ v = .slice none 0 0) (fun _ _ => 0)
    case atStart => exact ⟨rfl, rfl⟩
    case round =>
      obtain ⟨rfl, rfl⟩ := hrel
      go_wp2_with fail
      go_ret
      exact ⟨_, rfl, World.ownsRow_nil _ _ _ _, Below.refl _ _⟩
  · obtain ⟨V, hV⟩ : ∃ V, V = S.order := ⟨_, rfl⟩
    rw [← hV] at hvc hol on' hc2 ⊢
    simp only [List.length_map] at hvc hc2
    have hVn : ∀ i, i < V.length → V.getD i 0 < S.names.length := by
      intro i hi
      rw [List.getD_eq_getElem?_getD, List.getElem?_eq_getElem hi]
      exact on' _ (List.getElem_mem hi)
    have hvx : ∀ i, i < V.length → w.cell? ⟨vb, vo + i, none⟩ = some (.int .i64 ((V.getD i 0 : Nat) : Int)) := by
      intro i hi
      rw [hvc i hi]
      simp [intv, hi]
    clear hvc on' hV h ok
    go_enter Tryz.func121, Tryz.ntmps121
    go_wp2_with fail
    go_loopw [3, 4] (fun v i wr => ∃ k : Nat, k ≤ V.length ∧ i = .int .i64 k ∧ wr.ownsRow w.heap.size 9 1 v k (((V.take k).map (fun v => S.names.getD v ByteArray.empty)).map Value.string) ∧ Below w.heap.size w wr) (fun _ i _ => V.length - (intOf i).toNat)
    case atStart => exact ⟨0, Nat.zero_le _, rfl, World.ownsRow_nil _ _ _ _, Below.refl _ _⟩
    case round =>
      obtain ⟨k, hk, rfl, hown, hbl⟩ := hrel
      have hc2' := (hbl.cell (p := ⟨r, 2, none⟩) hrl).trans hc2
      by_cases hkl : k < V.length
      · have hvk := (hbl.cell (p := ⟨vb, vo + k, none⟩) hvlt).trans (hvx k hkl)
        have hxn := hVn k hkl
        have hn := take_map_succ V (fun v => S.names.getD v ByteArray.empty) k hkl
        obtain ⟨x, hx⟩ : ∃ x, x = V.getD k 0 := ⟨_, rfl⟩
        rw [← hx] at hvk hxn hn
        have HN : Hid _ := hn
        clear hn hx hvx
        rcases hnam with ⟨rfl, h0⟩ | ⟨nb, no, ncap, rfl, hnlt, hnc⟩
        · have : S.names = [] := by simpa using h0
          rw [this] at hxn; simp at hxn
        · simp only [List.length_map] at hnc hc1
          have hns : w.cell? ⟨nb, no + x, none⟩ = some (.string (S.names.getD x ByteArray.empty)) := by
            rw [hnc x hxn]
            simp [hxn]
          obtain ⟨y, hy⟩ : ∃ y, y = S.names.getD x ByteArray.empty := ⟨_, rfl⟩
          rw [← hy] at hns
          have hns' := (hbl.cell (p := ⟨nb, no + x, none⟩) hnlt).trans hns
          have hc1' := (hbl.cell (p := ⟨r, 1, none⟩) hrl).trans hc1
          have HY : Hid _ := hy
          clear hy hnc hns
          go_wp2
          go_region_law (refine step_append_placed rfl (.tmp 14) (.tmp 28) 39 rfl w.heap.size 9 j0 (.string ByteArray.empty) 1 16 Tryz.underlying39 hj gz0 gz1 gz2 rfl (by decide) _ k _ (by simp [Act.eval, Act.put]) (hown.drew.alloc _) _ 1 1 [Value.string y] (by simp [Act.eval, Act.put]; rfl) rfl ?_ ?_ ?_ ?_ ?_ ?_; exact cell_one_new _ _ _; exact one_cell_str _; exact le_maxLen (by omega); omega; exact Nat.le_trans hbl.size (by simp); intro v' w1 hown' hgrow _)
          all_goals
            have hb2 := hbl.drew.trans (grown_below (w := wr.drew) hgrow hown.drew hbl.size)
            clear hgrow
            go_wp2
            go_roundw
            case rel => exact ⟨k + 1, by omega, by go_num, by rw [HN.out, ← HY.out]; exact hown', hb2⟩
            case measure => simp [intOf]; omega
      · have hk' : V.take k = V := List.take_of_length_le (by omega)
        have hkv : k = V.length := by omega
        rw [hk', hkv] at hown
        obtain ⟨ao, cp, e⟩ := owns_form hown
        subst e
        have HQ : Hid (_ ∧ _) := And.intro hown hbl
        clear hown hbl hk'
        go_wp2_with fail
        go_ret
        exact ⟨_, rfl, HQ.out.1, HQ.out.2⟩

end Go.Proofs.YtebfmcafmojlaaaGreatDoor

