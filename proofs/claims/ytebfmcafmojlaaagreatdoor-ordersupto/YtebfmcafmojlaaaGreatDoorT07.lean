/-
  copseref: vars, Support.
-/
import Derived.Deep.RegionWith
import Derived.Test.YtebfmcafmojlaaaGreatDoorT06
namespace Go.Proofs.YtebfmcafmojlaaaGreatDoor
open Go.RowKit
set_option linter.unusedSimpArgs false
set_option linter.unusedVariables false

def someHangs (fs : List Tab) (v : Nat) : Bool := fs.any (fun f => hangs f v)
def varsT (o : List Nat) (fs : List Tab) : List Nat := o.filter (someHangs fs)

theorem someHangs_succ (fs : List Tab) (v k : Nat) (h : k < fs.length) : someHangs (fs.take (k + 1)) v = (someHangs (fs.take k) v || hangs (fs.getD k 0) v) := by
  unfold someHangs
  rw [List.take_succ_eq_append_getElem h, List.any_append]
  simp [List.getD_eq_getElem?_getD, List.getElem?_eq_getElem h]

theorem varsT_succ (o : List Nat) (fs : List Tab) (k : Nat) (h : k < o.length) : varsT (o.take (k + 1)) fs = if someHangs fs (o.getD k 0) then varsT (o.take k) fs ++ [o.getD k 0] else varsT (o.take k) fs := by
  unfold varsT
  rw [List.take_succ_eq_append_getElem h, List.filter_append]
  have : o.getD k 0 = o[k] := by rw [List.getD_eq_getElem?_getD, List.getElem?_eq_getElem h]; rfl
  rw [this]
  split
  · rename_i hh; simp [List.filter_cons, hh]
  · rename_i hh; simp [List.filter_cons, hh]

theorem varsT_len (o : List Nat) (fs : List Tab) : (varsT o fs).length ≤ o.length := List.length_filter_le _ _

set_option maxHeartbeats 2000000 in
set_option maxRecDepth 20000 in
theorem refVars_any (o : List Nat) (h6 : ∀ x ∈ o, x < 6) (hl : o.length ≤ 6) (fs : List Tab) (hfl : fs.length ≤ 5000000) (w : World) (b off fcap : Nat) (hlt : b < w.heap.size)
    (hcx : ∀ i, i < fs.length → w.cell? ⟨b, off + i, none⟩ = some (.int .u64 ((fs.getD i 0).toNat : Int)))
    (ob oo ocap : Nat) (holt : ob < w.heap.size) (hox : ∀ i, i < o.length → w.cell? ⟨ob, oo + i, none⟩ = some (.int .i64 ((o.getD i 0 : Nat) : Int))) :
    Calls Tryz.prog 154 #[.slice (some ⟨ob, oo, none⟩) o.length ocap, .slice (some ⟨b, off, none⟩) fs.length fcap] w fun e w' =>
      ∃ v', e = .returned v' ∧ w'.ownsRow w.heap.size 3 1 v' (varsT o fs).length ((varsT o fs).map intv) ∧ Below w.heap.size w w' := by
  obtain ⟨i0, hi, hz0, hz1, hz2⟩ := info_parts Tryz.infoInt
  go_enter Tryz.func154, Tryz.ntmps154
  go_wp2
  go_loopw [5, 6] (fun v i wr => ∃ k : Nat, k ≤ o.length ∧ i = .int .i64 k ∧ wr.ownsRow w.heap.size 3 1 v (varsT (o.take k) fs).length ((varsT (o.take k) fs).map intv) ∧ Below w.heap.size w wr) (fun _ i _ => o.length - (intOf i).toNat)
  case atStart => exact ⟨0, Nat.zero_le _, rfl, World.ownsRow_nil _ _ _ _, Below.refl _ _⟩
  case round =>
    obtain ⟨k, hk, rfl, hown, hbl⟩ := hrel
    by_cases hkl : k < o.length
    · have hn := varsT_succ o fs k hkl
      have hlen : (varsT (o.take k) fs).length ≤ 6 := by have := varsT_len (o.take k) fs; have : (o.take k).length ≤ o.length := List.length_take_le' _ _; omega
      obtain ⟨x, hx⟩ : ∃ x, x = o.getD k 0 := ⟨_, rfl⟩
      have hxo := hox k hkl
      have hx6 : x < 6 := by
        rw [hx, List.getD_eq_getElem?_getD, List.getElem?_eq_getElem hkl]
        exact h6 _ (List.getElem_mem hkl)
      rw [← hx] at hn hxo
      have HN : Hid _ := hn
      clear hn hx hox
      go_wp2
      obtain ⟨W1, hW1⟩ : ∃ W1, W1 = wr := ⟨_, rfl⟩
      subst hW1
      go_loopw [7, 8] (fun s j wq => ∃ q : Nat, q ≤ fs.length ∧ j = .int .i64 q ∧ s = .bool (someHangs (fs.take q) x) ∧ Below W1.heap.size W1 wq) (fun _ j _ => fs.length - (intOf j).toNat)
      case atStart => exact ⟨0, Nat.zero_le _, rfl, rfl, Below.refl _ _⟩
      case round =>
        obtain ⟨q, hq, rfl, rfl, hbq⟩ := hrel
        by_cases hql : q < fs.length
        · have hs := someHangs_succ fs x q hql
          obtain ⟨g, hg⟩ : ∃ g, g = fs.getD q 0 := ⟨_, rfl⟩
          have hgc := (hbq.cell (p := ⟨b, off + q, none⟩) (by show b < _; have := hbl.size; omega)).trans ((hbl.cell (p := ⟨b, off + q, none⟩) hlt).trans (hcx q hql))
          have hoc := (hbq.cell (p := ⟨ob, oo + k, none⟩) (by show ob < _; have := hbl.size; omega)).trans ((hbl.cell (p := ⟨ob, oo + k, none⟩) holt).trans hxo)
          rw [← hg] at hs hgc
          have HS : Hid _ := hs
          clear hs hg hcx hxo
          cases hsb : someHangs (fs.take q) x
          · rw [hsb] at HS
            go_wp2
            go_region_with (go_at_call 170; refine (refHangs_any _ _ hx6 _).mono ?_; rintro e w1 ⟨rfl, hb1⟩)
            all_goals go_wp2
            all_goals
              go_roundw
              case rel => exact ⟨q + 1, by omega, by go_num, by rw [HS.out]; rfl, hbq.drew.trans (hb1.mono hbq.size)⟩
              case measure => simp [intOf]; omega
          · rw [hsb] at HS
            go_wp2
            go_region_with (go_at_call 170; refine (refHangs_any _ _ hx6 _).mono ?_; rintro e w1 ⟨rfl, hb1⟩)
            all_goals go_wp2
            all_goals
              go_roundw
              case rel => exact ⟨q + 1, by omega, by go_num, by rw [HS.out]; rfl, hbq.drew.trans (hb1.mono hbq.size)⟩
              case measure => simp [intOf]; omega
        · have hq' : fs.take q = fs := List.take_of_length_le (by omega)
          have hoc := (hbq.cell (p := ⟨ob, oo + k, none⟩) (by show ob < _; have := hbl.size; omega)).trans ((hbl.cell (p := ⟨ob, oo + k, none⟩) holt).trans hxo)
          rw [hq']
          clear hq' hcx hxo
          have hown2 := owns_below hown hbq (Nat.le_refl _)
          have hbl2 := hbl.trans (hbq.mono hbl.size)
          clear hown hbl hbq
          cases hsb : someHangs fs x
          · rw [hsb, if_neg (by decide)] at HN
            go_wp2_with fail
            go_roundw
            case rel => exact ⟨k + 1, by omega, by go_num, by rw [HN.out]; exact hown2, hbl2⟩
            case measure => simp [intOf]; omega
          · rw [hsb, if_pos rfl] at HN
            go_wp2_with (at_builtin; refine wpList_append_own _ rfl _ _ 25 rfl w.heap.size 3 i0 (.int .i64 0) 1 8 Tryz.underlying25 hi hz0 hz1 hz2 rfl (by decide) _ _ _ rfl (hown2.alloc _) _ 1 1 [intv x] rfl rfl ?_ ?_ ?_ ?_ ?_ ?_; exact cell_one_new _ _ _; exact one_cell_int _; exact le_maxLen (by omega); omega; exact Nat.le_trans hbl2.size (by simp); intro v' w1 hown' hgrow _; replace hbl2 := hbl2.trans (grown_below hgrow hown2 hbl2.size); clear hgrow hown2)
            go_roundw
            case rel => exact ⟨k + 1, by omega, by go_num, by rw [HN.out]; simpa using hown', hbl2⟩
            case measure => simp [intOf]; omega
    · have hk' : o.take k = o := List.take_of_length_le (by omega)
      rw [hk'] at hown
      clear hk' hcx hox
      go_wp2_with fail
      go_ret
      exact ⟨_, rfl, hown, hbl⟩

set_option maxHeartbeats 400000 in
theorem refVars_nil (fv : Value) (w : World) :
    Calls Tryz.prog 154 #[.slice none 0 0, fv] w fun e w' => e = .returned (.slice none 0 0) ∧ w' = w := by
  go_enter Tryz.func154, Tryz.ntmps154
  go_wp2
  go_loop [5, 6] (fun v i => i = .int .i64 0 ∧ v = .slice none 0 0) (fun _ _ => 0)
  case atStart => exact ⟨rfl, rfl⟩
  case round =>
    obtain ⟨rfl, rfl⟩ := hrel
    go_wp2_with fail
    go_ret
    exact ⟨rfl, rfl⟩

end Go.Proofs.YtebfmcafmojlaaaGreatDoor

/-
  copseref: Support.
-/
namespace Go.Proofs.YtebfmcafmojlaaaGreatDoor
open Go.RowKit
set_option linter.unusedSimpArgs false
set_option linter.unusedVariables false

def supportR (S : RefS) (f : Tab) : List ByteArray := (varsT S.order [f]).map (fun v => S.names.getD v ByteArray.empty)

theorem take_map_succ (l : List Nat) (g : Nat → ByteArray) (k : Nat) (h : k < l.length) : ((l.take (k + 1)).map g).map Value.string = ((l.take k).map g).map Value.string ++ [Value.string (g (l.getD k 0))] := by
  rw [List.take_succ_eq_append_getElem h]
  have : l.getD k 0 = l[k] := by rw [List.getD_eq_getElem?_getD, List.getElem?_eq_getElem h]; rfl
  rw [this, List.map_append, List.map_append]
  rfl

set_option maxHeartbeats 2000000 in
set_option maxRecDepth 20000 in
theorem refSupport {O : Nat → Prop} {w : World} {r : Nat} {S : RefS} {nv ov lv : Value} (h : RefAt O w r S nv ov lv) (ok : RefOk S) (on' : ∀ x ∈ S.order, x < S.names.length) (f : Tab) :
    Calls Tryz.prog 116 #[.pointer (some ⟨r, 0, none⟩), .int .u64 (f.toNat : Int)] w fun e w' =>
      ∃ v', e = .returned v' ∧ w'.ownsRow w.heap.size 9 1 v' (supportR S f).length ((supportR S f).map Value.string) ∧ Below w.heap.size w w' := by
  obtain ⟨j0, hj, gz0, gz1, gz2⟩ := info_parts Tryz.infoStrR
  have hbel := Below.refl w.heap.size w
  have hrl : r < w.heap.size := h.lt r h.self
  have hc1 : w.cell? ⟨r, 1, none⟩ = some nv := by rw [cell_of_heap h.cells]; rfl
  have hc2 : w.cell? ⟨r, 2, none⟩ = some ov := by rw [cell_of_heap h.cells]; rfl
  have hord := h.order.reads
  have hnam := h.names.reads
  have hol := ok.ol
  have ho6 := ok.o6
  rcases hord with ⟨rfl, h0⟩ | ⟨ob, oo, ocap, rfl, holt, hoc⟩
  · have h0' : S.order = [] := by simpa using h0
    have hsr : supportR S f = [] := by simp [supportR, varsT, h0']
    rw [hsr]
    clear hsr h0 h0'
    go_enter Tryz.func116, Tryz.ntmps116
    go_wp2_with (go_at_call 154; refine (refVars_nil _ _).mono ?_; rintro e w1 ⟨rfl, hq⟩; replace hq := hq.symm; subst hq)
    go_loop [5, 7] (fun v i => i = .int .i64 0 ∧ v = .slice none 0 0) (fun _ _ => 0)
    case atStart => exact ⟨rfl, rfl⟩
    case round =>
      obtain ⟨rfl, rfl⟩ := hrel
      go_wp2_with fail
      go_ret
      exact ⟨_, rfl, World.ownsRow_nil _ _ _ _, hbel.alloc (Nat.le_refl _) _⟩
  · simp only [List.length_map] at hoc hc2
    have hox : ∀ i, i < S.order.length → w.cell? ⟨ob, oo + i, none⟩ = some (.int .i64 ((S.order.getD i 0 : Nat) : Int)) := by
      intro i hi
      rw [hoc i hi]
      simp [intv, hi]
    clear hoc
    obtain ⟨V, hV⟩ : ∃ V, V = varsT S.order [f] := ⟨_, rfl⟩
    have hVl : V.length ≤ 6 := by rw [hV]; have := varsT_len S.order [f]; omega
    have hVn : ∀ i, i < V.length → V.getD i 0 < S.names.length := by
      intro i hi
      rw [List.getD_eq_getElem?_getD, List.getElem?_eq_getElem hi]
      have hm := List.getElem_mem hi
      have hm2 : ∀ x, x ∈ V → x < S.names.length := by
        intro x hx
        rw [hV] at hx
        exact on' _ (List.mem_filter.1 hx).1
      exact hm2 _ hm
    have hsr : supportR S f = V.map (fun v => S.names.getD v ByteArray.empty) := by rw [hV]; rfl
    rw [hsr]
    have hcall : ∀ (wa : World) (q : Nat), Below w.heap.size w wa → q = wa.heap.size → Calls Tryz.prog 154 #[.slice (some ⟨ob, oo, none⟩) S.order.length ocap, .slice (some ⟨q, 0, none⟩) 1 1] (wa.alloc (.cells #[.int .u64 (f.toNat : Int)] 111)) fun e w' =>
      ∃ v', e = .returned v' ∧ w'.ownsRow w.heap.size 3 1 v' V.length (V.map intv) ∧ Below w.heap.size w w' := by
      intro wa q hb hq
      subst hq
      have hb2 : Below w.heap.size w (wa.alloc (.cells #[.int .u64 (f.toNat : Int)] 111)) := hb.alloc hb.size _
      refine (refVars_any S.order ho6 hol [f] (by simp) _ wa.heap.size 0 1 (by simp) ?_ ob oo ocap ?_ ?_).mono ?_
      · intro i hi
        have : i = 0 := by simp at hi; exact hi
        subst this
        simp
      · have := hb2.size; omega
      · intro i hi
        rw [hb2.cell (p := ⟨ob, oo + i, none⟩) holt]
        exact hox i hi
      · rintro e w' ⟨v', rfl, ho, hbb⟩
        rw [hV]
        exact ⟨v', rfl, ownsRow_base ho hb2.size, hb2.trans (hbb.mono hb2.size)⟩
    have HC : Hid _ := hcall
    clear hcall hsr hV hox ho6 on'
    go_enter Tryz.func116, Tryz.ntmps116
    go_wp2_with (go_at_call 154; refine (HC.out _ _ hbel rfl).mono ?_; rintro e w1 ⟨v1, rfl, hv1, hb1⟩)
    have hrv := reads_of_owns hv1
    obtain ⟨W1, hW1⟩ : ∃ W1, W1 = w1 := ⟨_, rfl⟩
    subst hW1
    rcases hrv with ⟨rfl, h0⟩ | ⟨vb, vo, vcap, rfl, hvlt, hvc⟩
    · have h0' : V = [] := by simpa using h0
      subst h0'
      go_loop [5, 7] (fun v i => i = .int .i64 0 ∧ v = .slice none 0 0) (fun _ _ => 0)
      case atStart => exact ⟨rfl, rfl⟩
      case round =>
        obtain ⟨rfl, rfl⟩ := hrel
        go_wp2_with fail
        go_ret
        exact ⟨_, rfl, World.ownsRow_nil _ _ _ _, hb1⟩
    · simp only [List.length_map] at hvc ⊢
      have hvx : ∀ i, i < V.length → W1.cell? ⟨vb, vo + i, none⟩ = some (.int .i64 ((V.getD i 0 : Nat) : Int)) := by
        intro i hi
        rw [hvc i hi]
        simp [intv, hi]
      clear hvc
      go_loopw [5, 7] (fun v i wr => ∃ k : Nat, k ≤ V.length ∧ i = .int .i64 k ∧ wr.ownsRow W1.heap.size 9 1 v k (((V.take k).map (fun v => S.names.getD v ByteArray.empty)).map Value.string) ∧ Below W1.heap.size W1 wr) (fun _ i _ => V.length - (intOf i).toNat)
      case atStart => exact ⟨0, Nat.zero_le _, rfl, World.ownsRow_nil _ _ _ _, Below.refl _ _⟩
      case round =>
        obtain ⟨k, hk, rfl, hown, hbl⟩ := hrel
        by_cases hkl : k < V.length
        · have hvk := (hbl.cell (p := ⟨vb, vo + k, none⟩) hvlt).trans (hvx k hkl)
          have hxn := hVn k hkl
          have hn := take_map_succ V (fun v => S.names.getD v ByteArray.empty) k hkl
          obtain ⟨x, hx⟩ : ∃ x, x = V.getD k 0 := ⟨_, rfl⟩
          rw [← hx] at hvk hxn hn
          have HN : Hid _ := hn
          clear hn hx hvx
          rcases hnam with ⟨rfl, h0⟩ | ⟨nb, no, ncap, rfl, hnlt, hnc⟩
          · have : S.names = [] := by simpa using h0
            rw [this] at hxn; simp at hxn
          · simp only [List.length_map] at hnc hc1
            have hns : w.cell? ⟨nb, no + x, none⟩ = some (.string (S.names.getD x ByteArray.empty)) := by
              rw [hnc x hxn]
              simp [hxn]
            obtain ⟨y, hy⟩ : ∃ y, y = S.names.getD x ByteArray.empty := ⟨_, rfl⟩
            rw [← hy] at hns
            have hns' := (hbl.cell (p := ⟨nb, no + x, none⟩) (by show nb < _; have := hb1.size; omega)).trans ((hb1.cell (p := ⟨nb, no + x, none⟩) hnlt).trans hns)
            have hc1' := (hbl.cell (p := ⟨r, 1, none⟩) (by show r < _; have := hb1.size; omega)).trans ((hb1.cell (p := ⟨r, 1, none⟩) hrl).trans hc1)
            have HY : Hid _ := hy
            clear hy hnc hns
            go_wp2
            go_region_law (refine step_append_placed rfl (.tmp 21) (.tmp 32) 39 rfl W1.heap.size 9 j0 (.string ByteArray.empty) 1 16 Tryz.underlying39 hj gz0 gz1 gz2 rfl (by decide) _ k _ (by simp [Act.eval, Act.put]) (hown.drew.alloc _) _ 1 1 [Value.string y] (by simp [Act.eval, Act.put]; rfl) rfl ?_ ?_ ?_ ?_ ?_ ?_; exact cell_one_new _ _ _; exact one_cell_str _; exact le_maxLen (by omega); omega; exact Nat.le_trans hbl.size (by simp); intro v' w1 hown' hgrow _)
            all_goals
              have hb2 := hbl.drew.trans (grown_below (w := wr.drew) hgrow hown.drew hbl.size)
              clear hgrow
              go_wp2
              go_roundw
              case rel => exact ⟨k + 1, by omega, by go_num, by rw [HN.out, ← HY.out]; exact hown', hb2⟩
              case measure => simp [intOf]; omega
        · have hk' : V.take k = V := List.take_of_length_le (by omega)
          have hkv : k = V.length := by omega
          rw [hk', hkv] at hown
          clear hk' hvx
          go_wp2_with fail
          go_ret
          exact ⟨_, rfl, by simpa using ownsRow_base hown hb1.size, hb1.trans (hbl.mono hb1.size)⟩

end Go.Proofs.YtebfmcafmojlaaaGreatDoor

