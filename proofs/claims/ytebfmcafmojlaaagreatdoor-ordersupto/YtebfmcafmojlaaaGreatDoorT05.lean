/-
  copseref: New, with, Tell.
-/
import Derived.Laws.AppendOwnNone
import Derived.Test.YtebfmcafmojlaaaGreatDoorT04
namespace Go.Proofs.YtebfmcafmojlaaaGreatDoor
open Go.RowKit
set_option linter.unusedSimpArgs false
set_option linter.unusedVariables false

theorem withT_take_succ (l fs : List Tab) (k : Nat) (h : k < fs.length) : withT l (fs.take (k + 1)) = addT (withT l (fs.take k)) (fs.getD k 0) := by
  unfold withT
  rw [List.take_succ_eq_append_getElem h, List.foldl_append]
  simp [List.getD_eq_getElem?_getD, List.getElem?_eq_getElem h]

theorem oneCells_tabs (l : List Tab) : ∀ u ∈ l.map tabv, u.oneCell' = true := by
  intro u hu
  obtain ⟨f, _, rfl⟩ := List.mem_map.1 hu
  rfl

set_option maxHeartbeats 1000000 in
set_option maxRecDepth 10000 in
theorem refWith_any (fs : List Tab) (live : List Tab) (hfl : fs.length ≤ 100) (hll : live.length ≤ 4000000)
    {O : Nat → Prop} {w : World} {r : Nat} {S : RefS} {nv ov lv : Value} (h : RefAt O w r S nv ov lv) (hS : S.live = live) (b off fcap : Nat) (hlt : b < w.heap.size)
    (hcx : ∀ i, i < fs.length → w.cell? ⟨b, off + i, none⟩ = some (.int .u64 ((fs.getD i 0).toNat : Int))) :
    Calls Tryz.prog 107 #[.pointer (some ⟨r, 0, none⟩), .slice (some ⟨b, off, none⟩) fs.length fcap] w fun e w' => ∃ v', e = .returned v' ∧ w'.ownsRow w.heap.size 111 1 v' (withT live fs).length ((withT live fs).map tabv) ∧ Below w.heap.size w w' := by
  obtain ⟨i0, hi, hz0, hz1, hz2⟩ := info_parts Tryz.infoFunc
  have hL : w.cell? ⟨r, 3, none⟩ = some lv := by rw [cell_of_heap h.cells]; rfl
  have hlive := h.live.1
  rw [hS] at hlive
  clear h hS
  have hbel := Below.refl w.heap.size w
  rw [List.length_map] at hlive
  rcases hlive.2 with ⟨rfl, hn⟩ | ⟨g, cap, cur, rfl, hb, hg, hnc, hcm, hcs, htake⟩
  · have : live = [] := List.eq_nil_of_length_eq_zero hn
    subst this
    clear hlive hn
    have hown' := World.ownsRow_nil w w.heap.size 111 1
    go_enter Tryz.func107, Tryz.ntmps107
    go_wp2_with fail
    go_loopw [5, 6] (fun v i wr => ∃ k : Nat, k ≤ fs.length ∧ i = .int .i64 k ∧ wr.ownsRow w.heap.size 111 1 v (withT [] (fs.take k)).length ((withT [] (fs.take k)).map tabv) ∧ Below w.heap.size w wr) (fun _ i _ => fs.length - (intOf i).toNat)
    case atStart => exact ⟨0, Nat.zero_le _, rfl, hown', hbel⟩
    case round =>
      obtain ⟨k, hk, rfl, hown, hbl⟩ := hrel
      clear hown' hbel
      by_cases hkl : k < fs.length
      · have hcell : wr.cell? ⟨b, off + k, none⟩ = some (.int .u64 ((fs.getD k 0).toNat : Int)) := (hbl.cell (p := ⟨b, off + k, none⟩) hlt).trans (hcx k hkl)
        have hn := withT_take_succ [] fs k hkl
        have hlen := withT_len [] (fs.take k)
        have htl : (fs.take k).length ≤ 100 := by rw [List.length_take]; omega
        obtain ⟨x, hx⟩ : ∃ x, x = fs.getD k 0 := ⟨_, rfl⟩
        obtain ⟨l, hl⟩ : ∃ l, l = withT [] (fs.take k) := ⟨_, rfl⟩
        rw [← hx] at hcell hn
        rw [← hl] at hown hlen hn
        have hl5 : l.length ≤ 4000100 := by simp at hlen; omega
        have hrd := reads_of_owns hown
        have HN : Hid _ := hn
        clear hn hx hl hcx hlen htl
        by_cases hm : x ∈ l
        · have hp := placeI_mem hm
          have ha : addT l x = l := by simp [addT, hm]
          rw [ha] at HN
          clear ha
          go_wp2_with (go_at_call 150; refine (refPlace_any _ l _ _ hrd (by omega)).mono ?_; rintro e w1 ⟨rfl, hq⟩; replace hq := hq.symm; subst hq)
          go_roundw
          case rel => exact ⟨k + 1, by omega, by go_num, by rw [HN.out]; exact hown, hbl⟩
          case measure => simp [intOf]; omega
        · have hp := placeI_not hm
          have ha : addT l x = l ++ [x] := by simp [addT, hm]
          rw [ha] at HN
          clear ha
          go_wp2_with (first | (go_at_call 150; refine (refPlace_any _ l _ _ hrd (by omega)).mono ?_; rintro e w1 ⟨rfl, hq⟩; replace hq := hq.symm; subst hq) | (at_builtin; refine wpList_append_own _ rfl _ _ 175 rfl w.heap.size 111 i0 (.int .u64 0) 1 8 Tryz.underlying175 hi hz0 hz1 hz2 rfl (by decide) _ _ _ rfl (hown.alloc _) _ 1 1 [tabv x] rfl rfl ?_ ?_ ?_ ?_ ?_ ?_; exact cell_one_new _ _ _; exact one_cell_tab _; exact le_maxLen (by omega); omega; exact Nat.le_trans hbl.size (by simp); intro v' w1 hown' hgrow _; replace hbl := hbl.trans (grown_below hgrow hown hbl.size); clear hgrow hown))
          go_roundw
          case rel => exact ⟨k + 1, by omega, by go_num, by rw [HN.out]; simpa using hown', hbl⟩
          case measure => simp [intOf]; omega
      · clear hcx
        have hk' : fs.take k = fs := List.take_of_length_le (by omega)
        rw [hk'] at hown
        clear hk'
        go_wp2_with fail
        go_ret
        exact ⟨_, rfl, hown, hbl⟩
  · have hcl := hlive.cells (g := g) rfl
    clear hlive hg hnc hcm hcs htake
    go_enter Tryz.func107, Tryz.ntmps107
    go_wp2_with (at_builtin; refine wpList_append_own _ rfl _ _ 175 rfl w.heap.size 111 i0 (.int .u64 0) 1 8 Tryz.underlying175 hi hz0 hz1 hz2 rfl (by decide) _ _ _ rfl (World.ownsRow_nil _ _ _ _) _ _ _ (live.map tabv) rfl ?_ hcl (oneCells_tabs live) ?_ ?_ (Nat.le_refl _) ?_; simp; exact le_maxLen (by omega); omega; intro v' w1 hown' hgrow _; replace hbel := hbel.trans (grown_nil hgrow); clear hgrow; simp only [Nat.zero_add, List.nil_append] at hown')
    go_loopw [5, 6] (fun v i wr => ∃ k : Nat, k ≤ fs.length ∧ i = .int .i64 k ∧ wr.ownsRow w.heap.size 111 1 v (withT live (fs.take k)).length ((withT live (fs.take k)).map tabv) ∧ Below w.heap.size w wr) (fun _ i _ => fs.length - (intOf i).toNat)
    case atStart => exact ⟨0, Nat.zero_le _, rfl, hown', hbel⟩
    case round =>
      obtain ⟨k, hk, rfl, hown, hbl⟩ := hrel
      clear hown' hbel hcl
      by_cases hkl : k < fs.length
      · have hcell : wr.cell? ⟨b, off + k, none⟩ = some (.int .u64 ((fs.getD k 0).toNat : Int)) := (hbl.cell (p := ⟨b, off + k, none⟩) hlt).trans (hcx k hkl)
        have hn := withT_take_succ live fs k hkl
        have hlen := withT_len live (fs.take k)
        have htl : (fs.take k).length ≤ 100 := by rw [List.length_take]; omega
        obtain ⟨x, hx⟩ : ∃ x, x = fs.getD k 0 := ⟨_, rfl⟩
        obtain ⟨l, hl⟩ : ∃ l, l = withT live (fs.take k) := ⟨_, rfl⟩
        rw [← hx] at hcell hn
        rw [← hl] at hown hlen hn
        have hl5 : l.length ≤ 4000100 := by omega
        have hrd := reads_of_owns hown
        have HN : Hid _ := hn
        clear hn hx hl hcx hlen htl
        by_cases hm : x ∈ l
        · have hp := placeI_mem hm
          have ha : addT l x = l := by simp [addT, hm]
          rw [ha] at HN
          clear ha
          go_wp2_with (go_at_call 150; refine (refPlace_any _ l _ _ hrd (by omega)).mono ?_; rintro e w1 ⟨rfl, hq⟩; replace hq := hq.symm; subst hq)
          go_roundw
          case rel => exact ⟨k + 1, by omega, by go_num, by rw [HN.out]; exact hown, hbl⟩
          case measure => simp [intOf]; omega
        · have hp := placeI_not hm
          have ha : addT l x = l ++ [x] := by simp [addT, hm]
          rw [ha] at HN
          clear ha
          go_wp2_with (first | (go_at_call 150; refine (refPlace_any _ l _ _ hrd (by omega)).mono ?_; rintro e w1 ⟨rfl, hq⟩; replace hq := hq.symm; subst hq) | (at_builtin; refine wpList_append_own _ rfl _ _ 175 rfl w.heap.size 111 i0 (.int .u64 0) 1 8 Tryz.underlying175 hi hz0 hz1 hz2 rfl (by decide) _ _ _ rfl (hown.alloc _) _ 1 1 [tabv x] rfl rfl ?_ ?_ ?_ ?_ ?_ ?_; exact cell_one_new _ _ _; exact one_cell_tab _; exact le_maxLen (by omega); omega; exact Nat.le_trans hbl.size (by simp); intro v' w1 hown' hgrow _; replace hbl := hbl.trans (grown_below hgrow hown hbl.size); clear hgrow hown))
          go_roundw
          case rel => exact ⟨k + 1, by omega, by go_num, by rw [HN.out]; simpa using hown', hbl⟩
          case measure => simp [intOf]; omega
      · clear hcx
        have hk' : fs.take k = fs := List.take_of_length_le (by omega)
        rw [hk'] at hown
        clear hk'
        go_wp2_with fail
        go_ret
        exact ⟨_, rfl, hown, hbl⟩

end Go.Proofs.YtebfmcafmojlaaaGreatDoor

/-
  copseref: Tell.
-/
namespace Go.Proofs.YtebfmcafmojlaaaGreatDoor
open Go.RowKit
set_option linter.unusedSimpArgs false
set_option linter.unusedVariables false

structure RefOk (S : RefS) : Prop where
  ol : S.order.length ≤ 6
  o6 : ∀ x ∈ S.order, x < 6
  ll : S.live.length ≤ 4000000
  nl : S.names.length ≤ 6
  on : S.order.length = S.names.length

def fullT (S : RefS) (fs : List Tab) : Prop := S.cap < ((allT S.order (withT S.live fs)).length : Int)

theorem Row.below {O : Nat → Prop} {w w' : World} {e : TypeId} {v : Value} {xs : List Value} (h : Row O w e v xs) (hb : Below w.heap.size w w') : Row O w' e v xs :=
  h.same (fun k hk => hb.block k (h.lt k hk))

/-- A new list of live functions is stored. -/
theorem RefAt.setLive {O : Nat → Prop} {w : World} {r : Nat} {S : RefS} {nv ov lv : Value} (h : RefAt O w r S nv ov lv) {B : Nat} {l : List Tab} {v : Value} (hown : w.ownsRow B 111 1 v l.length (l.map tabv)) (hB : ∀ b, O b → b < B) :
    RefAt (fun b => O b ∨ v.ownBlock = some b) (w.setCell ⟨r, 3, none⟩ v) r { S with live := l } nv ov v := by
  have hrB := hB r h.self
  have hv : ∀ k, v.ownBlock = some k → B ≤ k ∧ k < w.heap.size := fun k hk => hown.lt k hk
  have hne : ∀ k, k ≠ r → (w.setCell ⟨r, 3, none⟩ v).heap[k]? = w.heap[k]? := fun k hk => Below.heap_setCell w ⟨r, 3, none⟩ v k hk
  refine ⟨?_, .inl h.self, ?_, ?_, ?_, ?_, h.nr, h.or, ?_, h.no, ?_⟩
  · intro b hb
    rw [show (w.setCell ⟨r, 3, none⟩ v).heap.size = w.heap.size by simp [World.setCell]]
    rcases hb with hb | hb
    · exact h.lt b hb
    · exact (hv b hb).2
  · rw [heap_setCell_at h.cells]; rfl
  · exact (h.names.same (fun k hk => hne k (fun e => h.nr (e ▸ hk)))).mono (fun b hb => .inl hb)
  · exact (h.order.same (fun k hk => hne k (fun e => h.or (e ▸ hk)))).mono (fun b hb => .inl hb)
  · refine ⟨?_, fun k hk => .inr hk⟩
    rw [List.length_map]
    exact owns_same (ownsRow_base hown (Nat.zero_le _)) (fun k hk => hne k (fun e => by have := (hv k hk).1; omega))
  · intro e; have := (hv r e).1; omega
  · cases hn : nv.ownBlock with
    | none => exact .inl rfl
    | some k =>
      right
      intro e
      have h1 := h.names.2 k hn
      have h2 := (hv k e.symm).1
      have := hB k h1
      omega

set_option maxHeartbeats 1000000 in
set_option maxRecDepth 10000 in
theorem refTell_any (fs : List Tab) (hfl : fs.length ≤ 100)
    {O : Nat → Prop} {w : World} {r : Nat} {S : RefS} {nv ov lv : Value} (h : RefAt O w r S nv ov lv) (ok : RefOk S) (b off fcap : Nat) (hlt : b < w.heap.size)
    (hcx : ∀ i, i < fs.length → w.cell? ⟨b, off + i, none⟩ = some (.int .u64 ((fs.getD i 0).toNat : Int))) :
    Calls Tryz.prog 111 #[.pointer (some ⟨r, 0, none⟩), .slice (some ⟨b, off, none⟩) fs.length fcap] w fun e w' =>
      ((fullT S fs ∧ e = .returned (.int .i64 5) ∧ Below w.heap.size w w') ∨
       (¬ fullT S fs ∧ e = .returned (.int .i64 0) ∧ Only O w w' ∧ ∃ O' lv', RefAt O' w' r { S with live := withT S.live fs } nv ov lv' ∧ Grows w O O')) := by
  have hbel := Below.refl w.heap.size w
  have hL := withT_len S.live fs
  have hlen : (withT S.live fs).length ≤ 5000000 := by have := ok.ll; omega
  clear hL
  have hR := h
  have hc0 : w.cell? ⟨r, 0, none⟩ = some (.int .i64 S.cap) := by rw [cell_of_heap h.cells]; rfl
  have hc2 : w.cell? ⟨r, 2, none⟩ = some ov := by rw [cell_of_heap h.cells]; rfl
  by_cases hf : fullT S fs
  · have HF : Hid _ := hf
    have hf' : S.cap < ((allT S.order (withT S.live fs)).length : Int) := hf
    clear hf
    go_enter Tryz.func111, Tryz.ntmps111
    go_wp2_with (first | (go_at_call 107; refine (refWith_any fs S.live hfl ok.ll h rfl b off fcap hlt hcx).mono ?_; rintro e w1 ⟨v1, rfl, hown1, hb1⟩; obtain ⟨ao1, ac1, rfl⟩ := owns_form hown1; replace hbel := hbel.trans hb1; replace hR := hR.below hb1; replace hc0 := (hb1.cell (p := ⟨r, 0, none⟩) (h.lt r h.self)).trans hc0; replace hc2 := (hb1.cell (p := ⟨r, 2, none⟩) (h.lt r h.self)).trans hc2) | (go_at_call 108; refine (refAll_any S.order ok.o6 ok.ol _ _ (withT S.live fs) _ hR.order.reads (reads_of_owns hown1) hlen).mono ?_; rintro e w2 ⟨v2, rfl, hown2, hb2⟩; obtain ⟨ao, ac, rfl⟩ := owns_form hown2; replace hc0 := (hb2.cell (p := ⟨r, 0, none⟩) (hR.lt r h.self)).trans hc0; have hfz := frozen_of_heap (o := 3) (hR.below hb2).cells; have hc3 : w2.cell? ⟨r, 3, none⟩ = some lv := by rw [cell_of_heap (hR.below hb2).cells]; rfl))
    go_ret
    exact .inl ⟨HF.out, rfl, hbel.trans (hb2.mono hbel.size)⟩
  · have HF : Hid _ := hf
    have hf' : ¬ S.cap < ((allT S.order (withT S.live fs)).length : Int) := hf
    clear hf
    go_enter Tryz.func111, Tryz.ntmps111
    go_wp2_with (first | (go_at_call 107; refine (refWith_any fs S.live hfl ok.ll h rfl b off fcap hlt hcx).mono ?_; rintro e w1 ⟨v1, rfl, hown1, hb1⟩; obtain ⟨ao1, ac1, rfl⟩ := owns_form hown1; replace hbel := hbel.trans hb1; replace hR := hR.below hb1; replace hc0 := (hb1.cell (p := ⟨r, 0, none⟩) (h.lt r h.self)).trans hc0; replace hc2 := (hb1.cell (p := ⟨r, 2, none⟩) (h.lt r h.self)).trans hc2) | (go_at_call 108; refine (refAll_any S.order ok.o6 ok.ol _ _ (withT S.live fs) _ hR.order.reads (reads_of_owns hown1) hlen).mono ?_; rintro e w2 ⟨v2, rfl, hown2, hb2⟩; obtain ⟨ao, ac, rfl⟩ := owns_form hown2; replace hc0 := (hb2.cell (p := ⟨r, 0, none⟩) (hR.lt r h.self)).trans hc0; have hfz := frozen_of_heap (o := 3) (hR.below hb2).cells; have hc3 : w2.cell? ⟨r, 3, none⟩ = some lv := by rw [cell_of_heap (hR.below hb2).cells]; rfl))
    go_ret
    refine .inr ⟨HF.out, rfl, ?_, ?_⟩
    · exact (only_of_below (hbel.trans (hb2.mono hbel.size)) O).setCell (.inl h.self) _
    · refine ⟨_, _, (hR.below hb2).setLive (B := w.heap.size) (owns_below hown1 hb2 (Nat.le_refl _)) h.lt, ?_⟩
      intro k hk
      rcases hk with hk | hk
      · exact .inl hk
      · exact .inr (hown1.lt k hk).1

end Go.Proofs.YtebfmcafmojlaaaGreatDoor

/-
  copseref: IsName, New.
-/
namespace Go.Proofs.YtebfmcafmojlaaaGreatDoor
open Go.RowKit
set_option linter.unusedSimpArgs false
set_option linter.unusedVariables false


set_option maxHeartbeats 1000000 in
set_option maxRecDepth 10000 in
theorem refIsName_any (s : ByteArray) (w : World) (hs : s.size ≤ maxLen) :
    Calls Tryz.prog 104 #[.string s] w fun e w' => e = .returned (.bool (isNameB s)) ∧ w' = w := by
  unfold maxLen at hs
  by_cases hsh : s.size < 1 ∨ 8 < s.size
  · rw [isName_short s hsh]
    rcases hsh with h | h
    · go_enter Tryz.func104, Tryz.ntmps104
      go_wp2
      go_ret
      exact ⟨rfl, rfl⟩
    · have h1 : ¬ s.size < 1 := by omega
      go_enter Tryz.func104, Tryz.ntmps104
      go_wp2
      go_ret
      exact ⟨rfl, rfl⟩
  · have h1 : 1 ≤ s.size := by omega
    have h8 : s.size ≤ 8 := by omega
    clear hsh
    go_enter Tryz.func104, Tryz.ntmps104
    go_wp2
    go_loop [3] (fun i => ∃ k : Nat, k ≤ s.size ∧ i = .int .i64 k ∧ ∀ j, j < k → nameCh j (byteN s j) = true) (fun i => s.size - (intOf i).toNat)
    case atStart => exact ⟨0, Nat.zero_le _, rfl, fun j hj => by omega⟩
    case round =>
      obtain ⟨k, hk, rfl, hn⟩ := hrel
      have HN : Hid (∀ j, j < k → nameCh j (byteN s j) = true) := hn
      clear hn
      by_cases hlt : k < s.size
      · obtain ⟨c, hc⟩ : ∃ c, c = (s[k]'hlt).toNat := ⟨_, rfl⟩
        have hbc : byteN s k = c := by rw [hc, byteN_get]
        have HB : Hid _ := hbc
        clear hbc
        have hstep : nameCh k c = true → ∀ j, j < k + 1 → nameCh j (byteN s j) = true := by
          intro h j hj
          by_cases hjk : j < k
          · exact HN.out j hjk
          · have : j = k := by omega
            subst this; rw [HB.out]; exact h
        have HS : Hid _ := hstep
        clear hstep
        by_cases h97 : 97 ≤ c
        · by_cases h122 : c ≤ 122
          · have e1 : 97 ≤ (s[k]'hlt).toNat := by omega
            have e2 : (s[k]'hlt).toNat ≤ 122 := by omega
            have HC : Hid _ := hc
            clear hc
            go_wp2
            go_round
            case rel => exact ⟨k + 1, by omega, by go_num, HS.out (nameCh_letter k c h97 h122)⟩
            case measure => simp [intOf]; omega
          · have e1 : 97 ≤ (s[k]'hlt).toNat := by omega
            have e2 : ¬ (s[k]'hlt).toNat ≤ 122 := by omega
            have HC : Hid _ := hc
            clear hc
            have hno := nameCh_no k c (by omega) (by omega)
            have HD : Hid _ := hno
            clear hno
            have e3 : ¬ (s[k]'hlt).toNat ≤ 57 := by omega
            have e4 : 48 ≤ (s[k]'hlt).toNat := by omega
            by_cases hk0 : k = 0
            · go_wp2
              all_goals first | (go_ret; exact ⟨ret_bool (isName_not s k hlt (by rw [HB.out]; exact HD.out)).symm, rfl⟩) | (exfalso; simp_all; done) | (exfalso; simp_all; omega)
            · go_wp2
              all_goals first | (go_ret; exact ⟨ret_bool (isName_not s k hlt (by rw [HB.out]; exact HD.out)).symm, rfl⟩) | (exfalso; simp_all; done) | (exfalso; simp_all; omega)
        · have e1 : ¬ 97 ≤ (s[k]'hlt).toNat := by omega
          by_cases hd : k ≠ 0 ∧ 48 ≤ c ∧ c ≤ 57
          · obtain ⟨hk0, h48, h57⟩ := hd
            have e2 : 48 ≤ (s[k]'hlt).toNat := by omega
            have e3 : (s[k]'hlt).toNat ≤ 57 := by omega
            have e4 : decide (((s[k]'hlt).toNat : Int) ≤ 57) = true := decide_eq_true (by omega)
            have e5 : ((k : Int) == 0) = false := by simp; omega
            have HC : Hid _ := hc
            clear hc
            go_wp2
            all_goals first
              | (go_round
                 case rel => exact ⟨k + 1, by omega, by go_num, HS.out (nameCh_digit k c hk0 h48 h57)⟩
                 case measure => simp [intOf]; omega)
              | (exfalso; simp_all; done)
              | (exfalso; simp_all; omega)
          · have hno := nameCh_no k c (by omega) hd
            have HD : Hid _ := hno
            clear hno
            have HC : Hid _ := hc
            clear hc
            by_cases hk0 : k = 0
            · by_cases h48 : 48 ≤ (s[k]'hlt).toNat
              · by_cases h57 : (s[k]'hlt).toNat ≤ 57
                · go_wp2
                  all_goals first | (go_ret; exact ⟨ret_bool (isName_not s k hlt (by rw [HB.out]; exact HD.out)).symm, rfl⟩) | (exfalso; simp_all; done) | (exfalso; simp_all; omega)
                · go_wp2
                  all_goals first | (go_ret; exact ⟨ret_bool (isName_not s k hlt (by rw [HB.out]; exact HD.out)).symm, rfl⟩) | (exfalso; simp_all; done) | (exfalso; simp_all; omega)
              · go_wp2
                all_goals first | (go_ret; exact ⟨ret_bool (isName_not s k hlt (by rw [HB.out]; exact HD.out)).symm, rfl⟩) | (exfalso; simp_all; done) | (exfalso; simp_all; omega)
            · have hd' : ¬ (48 ≤ c ∧ c ≤ 57) := fun h => hd ⟨hk0, h.1, h.2⟩
              by_cases h48 : 48 ≤ (s[k]'hlt).toNat
              · have h57 : ¬ (s[k]'hlt).toNat ≤ 57 := by rw [HC.out] at hd'; omega
                go_wp2
                all_goals first | (go_ret; exact ⟨ret_bool (isName_not s k hlt (by rw [HB.out]; exact HD.out)).symm, rfl⟩) | (exfalso; simp_all; done) | (exfalso; simp_all; omega)
              · go_wp2
                all_goals first | (go_ret; exact ⟨ret_bool (isName_not s k hlt (by rw [HB.out]; exact HD.out)).symm, rfl⟩) | (exfalso; simp_all; done) | (exfalso; simp_all; omega)
      · go_wp2
        go_ret
        exact ⟨ret_bool (isName_all s h1 h8 (fun j hj => HN.out j (by omega))).symm, rfl⟩

end Go.Proofs.YtebfmcafmojlaaaGreatDoor

/-
  copseref: New, Tell (by its answer), Restrict, Eval.
-/
namespace Go.Proofs.YtebfmcafmojlaaaGreatDoor
open Go.RowKit
set_option linter.unusedSimpArgs false
set_option linter.unusedVariables false

def RefIs (O : Nat → Prop) (w : World) (r : Nat) (S : RefS) : Prop := ∃ nv ov lv, RefAt O w r S nv ov lv

/-- Behind a call the copse is S', of the old blocks only those of O have turned. -/
def RefStep (O : Nat → Prop) (w : World) (r : Nat) (w' : World) (S' : RefS) : Prop := Only O w w' ∧ ∃ O', RefIs O' w' r S' ∧ Grows w O O'

theorem RefIs.below {O : Nat → Prop} {w w' : World} {r : Nat} {S : RefS} (h : RefIs O w r S) (hb : Below w.heap.size w w') : RefIs O w' r S := by
  obtain ⟨nv, ov, lv, h⟩ := h
  exact ⟨nv, ov, lv, h.below hb⟩

theorem RefIs.step {O : Nat → Prop} {w w' : World} {r : Nat} {S : RefS} (h : RefIs O w r S) (hb : Below w.heap.size w w') : RefStep O w r w' S :=
  ⟨only_of_below hb O, O, h.below hb, Grows.refl w O⟩

theorem RefStep.pre {O : Nat → Prop} {w w1 w' : World} {r : Nat} {S' : RefS} (hb : Below w.heap.size w w1) (h : RefStep O w1 r w' S') : RefStep O w r w' S' := by
  obtain ⟨h1, O', h2, h3⟩ := h
  refine ⟨below_then_only hb h1, O', h2, ?_⟩
  intro b hb'
  rcases h3 b hb' with h | h
  · exact .inl h
  · exact .inr (Nat.le_trans hb.size h)

def tellR (S : RefS) (fs : List Tab) : Int × RefS := if S.cap < ((allT S.order (withT S.live fs)).length : Int) then (5, S) else (0, { S with live := withT S.live fs })

theorem refTell (fs : List Tab) (hfl : fs.length ≤ 100)
    {O : Nat → Prop} {w : World} {r : Nat} {S : RefS} (h : RefIs O w r S) (ok : RefOk S) (b off fcap : Nat) (hlt : b < w.heap.size)
    (hcx : ∀ i, i < fs.length → w.cell? ⟨b, off + i, none⟩ = some (.int .u64 ((fs.getD i 0).toNat : Int))) :
    Calls Tryz.prog 111 #[.pointer (some ⟨r, 0, none⟩), .slice (some ⟨b, off, none⟩) fs.length fcap] w fun e w' =>
      e = .returned (.int .i64 (tellR S fs).1) ∧ RefStep O w r w' (tellR S fs).2 := by
  obtain ⟨nv, ov, lv, h⟩ := h
  refine (refTell_any fs hfl h ok b off fcap hlt hcx).mono ?_
  rintro e w' (⟨hf, rfl, hb⟩ | ⟨hf, rfl, ho, O', lv', hr, hg⟩)
  · have hf' : S.cap < ((allT S.order (withT S.live fs)).length : Int) := hf
    simp only [tellR, if_pos hf']
    exact ⟨trivial, RefIs.step ⟨nv, ov, lv, h⟩ hb⟩
  · have hf' : ¬ S.cap < ((allT S.order (withT S.live fs)).length : Int) := hf
    simp only [tellR, if_neg hf']
    exact ⟨trivial, ho, O', ⟨nv, ov, lv', hr⟩, hg⟩

theorem refTell_one (f : Tab) {O : Nat → Prop} {w : World} {r : Nat} {S : RefS} (h : RefIs O w r S) (ok : RefOk S) :
    Calls Tryz.prog 111 #[.pointer (some ⟨r, 0, none⟩), .slice (some ⟨w.heap.size, 0, none⟩) 1 1] (w.alloc (.cells #[.int .u64 (f.toNat : Int)] 111)) fun e w' =>
      e = .returned (.int .i64 (tellR S [f]).1) ∧ RefStep O w r w' (tellR S [f]).2 := by
  have hb : Below w.heap.size w (w.alloc (.cells #[.int .u64 (f.toNat : Int)] 111)) := (Below.refl _ _).alloc (Nat.le_refl _) _
  refine (refTell [f] (by simp) (h.below hb) ok w.heap.size 0 1 (by simp) ?_).mono ?_
  · intro i hi
    have : i = 0 := by simp at hi; exact hi
    subst this
    simp
  · rintro e w' ⟨rfl, hs⟩
    exact ⟨rfl, hs.pre hb⟩

def newR (cap : Int) : Prop := 1 ≤ cap ∧ cap ≤ 300

set_option maxHeartbeats 400000 in
theorem refNew_no (cap : Int) (w : World) (h : cap < 1 ∨ 300 < cap) :
    Calls Tryz.prog 102 #[.int .i64 cap] w fun e w' => e = .returned (.tuple #[.pointer none, .int .i64 1]) ∧ w' = w := by
  rcases h with h | h
  · go_enter Tryz.func102, Tryz.ntmps102
    go_wp2
    go_ret2
    exact ⟨rfl, rfl⟩
  · have h' : ¬ cap < 1 := by omega
    go_enter Tryz.func102, Tryz.ntmps102
    go_wp2
    go_ret2
    exact ⟨rfl, rfl⟩

set_option maxHeartbeats 400000 in
theorem refNew_yes (cap : Int) (w : World) (h1 : 1 ≤ cap) (h2 : cap ≤ 300) :
    Calls Tryz.prog 102 #[.int .i64 cap] w fun e w' => e = .returned (.tuple #[.pointer (some ⟨w.heap.size, 0, none⟩), .int .i64 0]) ∧ w' = w.alloc (.cells #[.int .i64 cap, .slice none 0 0, .slice none 0 0, .slice none 0 0] 177) := by
  go_enter Tryz.func102, Tryz.ntmps102
  go_wp2
  go_ret2
  exact ⟨rfl, rfl⟩

theorem refIs_new (cap : Int) (w : World) : RefIs (fun b => b = w.heap.size) (w.alloc (.cells #[.int .i64 cap, .slice none 0 0, .slice none 0 0, .slice none 0 0] 177)) w.heap.size ⟨cap, [], [], []⟩ := by
  refine ⟨.slice none 0 0, .slice none 0 0, .slice none 0 0, ?_⟩
  have hrow : ∀ (O : Nat → Prop) (w : World) (e : TypeId), Row O w e (.slice none 0 0) [] := fun O w e => ⟨World.ownsRow_nil _ _ _ _, fun k hk => by simp [Value.ownBlock] at hk⟩
  refine ⟨?_, rfl, heap_alloc_new w _, hrow _ _ _, hrow _ _ _, hrow _ _ _, ?_, ?_, ?_, ?_, ?_⟩
  · intro b hb; subst hb; simp
  · simp [Value.ownBlock]
  · simp [Value.ownBlock]
  · simp [Value.ownBlock]
  · exact .inl rfl
  · exact .inl rfl

def restrictR (S : RefS) (f : Tab) (name : ByteArray) (b : Bool) : Tab × Int × RefS :=
  match S.names.findIdx? (fun x => x.toList == name.toList) with
  | none => (0, 2, S)
  | some v => let t := tellR S [given f v b]; if t.1 = 0 then (given f v b, 0, t.2) else (0, t.1, t.2)

theorem findIdx?_lt {l : List ByteArray} {p : ByteArray → Bool} {v : Nat} (h : l.findIdx? p = some v) : v < l.length := by
  rw [List.findIdx?_eq_some_iff_getElem] at h
  exact h.1

set_option maxHeartbeats 400000 in
theorem refRestrict {O : Nat → Prop} {w : World} {r : Nat} {S : RefS} (h : RefIs O w r S) (ok : RefOk S) (f : Tab) (name : ByteArray) (b : Bool) :
    Calls Tryz.prog 113 #[.pointer (some ⟨r, 0, none⟩), .int .u64 (f.toNat : Int), .string name, .bool b] w fun e w' =>
      e = .returned (.tuple #[tabv (restrictR S f name b).1, .int .i64 (restrictR S f name b).2.1]) ∧ RefStep O w r w' (restrictR S f name b).2.2 := by
  have hn : ∀ w', RefIs O w' r S → Calls Tryz.prog 105 #[.pointer (some ⟨r, 0, none⟩), .string name] w' fun e w'' => e = .returned (.int .i64 (namedI S.names name)) ∧ w'' = w' := by
    rintro w' ⟨nv, ov, lv, h⟩
    exact refNamed_any h name ok.nl
  have hN := hn w h
  clear hn
  cases hf : S.names.findIdx? (fun x => x.toList == name.toList) with
  | none =>
    have e1 : namedI S.names name = -1 := by simp only [namedI, hf]
    have e2 : restrictR S f name b = (0, 2, S) := by simp only [restrictR, hf]
    rw [e1] at hN
    rw [e2]
    clear e1 e2
    go_enter Tryz.func113, Tryz.ntmps113
    go_wp2_with (go_at_call 105; refine hN.mono ?_; rintro e w1 ⟨rfl, hq⟩; replace hq := hq.symm; subst hq)
    go_ret2
    exact ⟨rfl, h.step (Below.refl _ _)⟩
  | some v =>
    have e1 : namedI S.names name = v := by simp only [namedI, hf]
    have hv6 : v < 6 := by have := findIdx?_lt hf; have := ok.nl; omega
    have e2 : restrictR S f name b = if (tellR S [given f v b]).1 = 0 then (given f v b, 0, (tellR S [given f v b]).2) else (0, (tellR S [given f v b]).1, (tellR S [given f v b]).2) := by simp only [restrictR, hf]
    rw [e1] at hN
    by_cases ht : (tellR S [given f v b]).1 = 0
    · rw [if_pos ht] at e2
      rw [e2]
      clear e1 e2 hf
      go_enter Tryz.func113, Tryz.ntmps113
      go_wp2_with (first | (go_at_call 105; refine hN.mono ?_; rintro e w1 ⟨rfl, hq⟩; replace hq := hq.symm; subst hq) | (go_at_call 152; refine (refGiven_any _ _ _ hv6 _).mono ?_; rintro e w1 ⟨rfl, hb1⟩; replace h := h.below hb1) | (go_at_call 111; refine (refTell_one _ h ok).mono ?_; rintro e w2 ⟨rfl, hs⟩; rw [ht]))
      go_ret2
      exact ⟨rfl, hs.pre hb1⟩
    · rw [if_neg ht] at e2
      rw [e2]
      clear e1 e2 hf
      have ht' : ((tellR S [given f v b]).1 != 0) = true := by simpa using ht
      clear ht
      go_enter Tryz.func113, Tryz.ntmps113
      go_wp2_with (first | (go_at_call 105; refine hN.mono ?_; rintro e w1 ⟨rfl, hq⟩; replace hq := hq.symm; subst hq) | (go_at_call 152; refine (refGiven_any _ _ _ hv6 _).mono ?_; rintro e w1 ⟨rfl, hb1⟩; replace h := h.below hb1) | (go_at_call 111; refine (refTell_one _ h ok).mono ?_; rintro e w2 ⟨rfl, hs⟩))
      go_ret2
      exact ⟨rfl, hs.pre hb1⟩


theorem bit_test (f : Tab) (a : Nat) (ha : a < 64) : (bits .and .u64 (f.toNat : Int) ((bitT a).toNat : Int) != 0) = f.getLsbD a := by
  rw [bits_and_tab]
  have : (((f &&& bitT a).toNat : Int) != 0) = ((f &&& bitT a) != 0#64) := neq_tab (f &&& bitT a) 0#64
  rw [this]
  have hb : ∀ i, i < 64 → (f &&& bitT a).getLsbD i = (f.getLsbD i && decide (i = a)) := by
    intro i hi
    rw [BitVec.getLsbD_and]
    congr 1
    unfold bitT
    rw [BitVec.getLsbD_shiftLeft]
    by_cases h : i = a
    · subst h; simp [hi]
    · by_cases h2 : i < a
      · simp [h2, h]
      · have h3 : i - a ≠ 0 := by omega
        have : (1#64).getLsbD (i - a) = false := by
          rw [BitVec.getLsbD_one]; simp [h3]
        simp [this, h]
  cases hf : f.getLsbD a
  · have : f &&& bitT a = 0#64 := by
      apply tab_ext
      intro i hi
      rw [hb i hi, BitVec.getLsbD_zero]
      by_cases h : i = a
      · subst h; rw [hf]; rfl
      · simp [h]
    rw [this]; rfl
  · rw [bne_iff_ne]
    intro e
    have := hb a ha
    rw [e, hf] at this
    simp at this

set_option maxHeartbeats 1000000 in
set_option maxRecDepth 10000 in
theorem refEval {O : Nat → Prop} {w : World} {r : Nat} {S : RefS} (h : RefIs O w r S) (ok : RefOk S) (f : Tab) (a : Int) :
    Calls Tryz.prog 114 #[.pointer (some ⟨r, 0, none⟩), .int .u64 (f.toNat : Int), .int .i64 a] w fun e w' =>
      e = .returned (.tuple #[.bool (evalR S.names.length f a).1, .int .i64 (evalR S.names.length f a).2]) ∧ w' = w := by
  obtain ⟨nv, ov, lv, h⟩ := h
  have hN : w.cell? ⟨r, 1, none⟩ = some nv := by rw [cell_of_heap h.cells]; rfl
  obtain ⟨ao, cap, rfl⟩ := owns_form h.names.1
  rw [List.length_map] at hN
  have hnl := ok.nl
  obtain ⟨n, hn⟩ : ∃ n, n = S.names.length := ⟨_, rfl⟩
  rw [← hn] at hN hnl ⊢
  clear h ok hn
  by_cases h0 : a < 0
  · have e : evalR n f a = (false, 1) := by unfold evalR; rw [if_pos (.inl h0)]
    rw [e]
    clear e
    go_enter Tryz.func114, Tryz.ntmps114
    go_wp2
    go_ret2
    exact ⟨rfl, rfl⟩
  · have hn7 : n = 0 ∨ n = 1 ∨ n = 2 ∨ n = 3 ∨ n = 4 ∨ n = 5 ∨ n = 6 := by omega
    by_cases h1 : (2 : Int) ^ n ≤ a
    · have e : evalR n f a = (false, 1) := by unfold evalR; rw [if_pos (.inr h1)]
      rw [e]
      clear e
      rcases hn7 with h | h | h | h | h | h | h <;> subst h
      all_goals
        simp only [Int.reducePow] at h1
        go_enter Tryz.func114, Tryz.ntmps114
        go_wp2
        go_ret2
        exact ⟨rfl, rfl⟩
    · have e : evalR n f a = (f.getLsbD a.toNat, 0) := by unfold evalR; rw [if_neg (by omega)]
      rw [e]
      clear e
      obtain ⟨k, rfl⟩ : ∃ k : Nat, a = k := ⟨a.toNat, by omega⟩
      simp only [Int.toNat_natCast]
      have hk : k < 64 := by
        rcases hn7 with h | h | h | h | h | h | h <;> subst h <;> simp only [Int.reducePow] at h1 <;> omega
      have hbt := bit_test f k hk
      clear h0
      rcases hn7 with h | h | h | h | h | h | h <;> subst h
      all_goals
        simp only [Int.reducePow] at h1
        go_enter Tryz.func114, Tryz.ntmps114
        go_wp2_with (go_at_call 153; refine (refBit_any _ hk _).mono ?_; rintro e w' ⟨rfl, hq⟩; replace hq := hq.symm; subst hq)
        go_ret2
        exact ⟨rfl, rfl⟩

end Go.Proofs.YtebfmcafmojlaaaGreatDoor

