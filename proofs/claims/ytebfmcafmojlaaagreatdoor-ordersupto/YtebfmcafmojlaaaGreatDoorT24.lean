/-
  script.IsName; strings.Clone.
-/
import Derived.Lib.ConvBytes
import Derived.Lib.Strings
import Derived.Lib.Walk
import Derived.Lib.BufferWrite
import Derived.Lib.UnsafeStr
import Derived.Lib.Hide
import Derived.Laws.MakeOwn
import Derived.Test.YtebfmcafmojlaaaGreatDoorT23
namespace Go.Proofs.YtebfmcafmojlaaaGreatDoor
open Go.RowKit Go.Maps
set_option linter.unusedSimpArgs false
set_option linter.unusedVariables false

def letB (c : Nat) : Bool := decide (97 ≤ c) && decide (c ≤ 122)
def digB (c : Nat) : Bool := decide (48 ≤ c) && decide (c ≤ 57)

theorem isLetter_is (c : Nat) (w : World) : Calls Tryz.prog 94 #[.int .u8 (c : Int)] w fun e w' => e = .returned (.bool (letB c)) ∧ w' = w := by
  unfold letB
  by_cases h1 : 97 ≤ c
  · have e1 : (97 : Int) ≤ (c : Int) := by omega
    by_cases h2 : c ≤ 122
    · have e2 : (c : Int) ≤ 122 := by omega
      rw [decide_eq_true h1, decide_eq_true h2]
      go_enter Tryz.func94, Tryz.ntmps94
      go_wp2
      go_ret
      exact ⟨by simp [h2], rfl⟩
    · have e2 : ¬ (c : Int) ≤ 122 := by omega
      rw [decide_eq_true h1, decide_eq_false h2]
      go_enter Tryz.func94, Tryz.ntmps94
      go_wp2
      go_ret
      exact ⟨by simp [h2], rfl⟩
  · have e1 : ¬ (97 : Int) ≤ (c : Int) := by omega
    rw [decide_eq_false h1]
    go_enter Tryz.func94, Tryz.ntmps94
    go_wp2
    go_ret
    exact ⟨by simp [h1], rfl⟩

theorem isDigit_is (c : Nat) (w : World) : Calls Tryz.prog 95 #[.int .u8 (c : Int)] w fun e w' => e = .returned (.bool (digB c)) ∧ w' = w := by
  unfold digB
  by_cases h1 : 48 ≤ c
  · have e1 : (48 : Int) ≤ (c : Int) := by omega
    by_cases h2 : c ≤ 57
    · have e2 : (c : Int) ≤ 57 := by omega
      rw [decide_eq_true h1, decide_eq_true h2]
      go_enter Tryz.func95, Tryz.ntmps95
      go_wp2
      go_ret
      exact ⟨by simp [h2], rfl⟩
    · have e2 : ¬ (c : Int) ≤ 57 := by omega
      rw [decide_eq_true h1, decide_eq_false h2]
      go_enter Tryz.func95, Tryz.ntmps95
      go_wp2
      go_ret
      exact ⟨by simp [h2], rfl⟩
  · have e1 : ¬ (48 : Int) ≤ (c : Int) := by omega
    rw [decide_eq_false h1]
    go_enter Tryz.func95, Tryz.ntmps95
    go_wp2
    go_ret
    exact ⟨by simp [h1], rfl⟩

theorem nameCh_first (c : Nat) : nameCh 0 c = letB c := by unfold nameCh letB; simp
theorem nameCh_rest (k c : Nat) (hk : k ≠ 0) : nameCh k c = (letB c || digB c) := by unfold nameCh letB digB; simp [hk]

set_option maxHeartbeats 1000000 in
set_option maxRecDepth 10000 in
theorem isName_is (s : ByteArray) (w : World) (hs : s.size ≤ maxLen) :
    Calls Tryz.prog 52 #[.string s] w fun e w' => e = .returned (.bool (isNameB s)) ∧ Below w.heap.size w w' := by
  unfold maxLen at hs
  by_cases hsh : s.size < 1 ∨ 8 < s.size
  · rw [isName_short s hsh]
    rcases hsh with h | h
    · go_enter Tryz.func52, Tryz.ntmps52
      go_wp2
      go_ret
      exact ⟨rfl, Below.refl _ _⟩
    · have h1 : ¬ s.size < 1 := by omega
      go_enter Tryz.func52, Tryz.ntmps52
      go_wp2
      go_ret
      exact ⟨rfl, Below.refl _ _⟩
  · have h1 : 1 ≤ s.size := by omega
    have h0 : 0 < s.size := by omega
    have h8 : s.size ≤ 8 := by omega
    clear hsh
    have hlet : Calls Tryz.prog 94 #[.int .u8 ((s[0]'h0).toNat : Int)] w fun e w' => e = .returned (.bool (letB (byteN s 0))) ∧ w' = w := by
      have := isLetter_is (s[0]'h0).toNat w
      rw [byteN_get] at this ⊢
      exact this
    cases hb0 : letB (byteN s 0)
    · have hn : isNameB s = false := isName_not s 0 h0 (by rw [nameCh_first]; exact hb0)
      rw [hn]
      rw [hb0] at hlet
      go_enter Tryz.func52, Tryz.ntmps52
      go_wp2_with (go_at_call 94; refine hlet.mono ?_; clear hlet; rintro e w' ⟨rfl, rfl⟩)
      go_ret
      exact ⟨rfl, Below.refl _ _⟩
    · rw [hb0] at hlet
      have hfirst : nameCh 0 (byteN s 0) = true := by rw [nameCh_first]; exact hb0
      have hconv := Lib.run_convert_string_bytes (P := Tryz.prog) w 9 55 5 s Tryz.underlying9 Tryz.underlying55 Tryz.underlying5
      obtain ⟨W, hW⟩ : ∃ W, W = Lib.bytesWorld w 5 s := ⟨_, rfl⟩
      have hcells : ∀ j, j < s.size → W.cell? ⟨w.heap.size, j, none⟩ = some (.int .u8 (byteN s j)) := fun j hj => by rw [hW]; exact Lib.bytesWorld_cell w _ s j hj
      have hbW : Below w.heap.size w W := by
        rw [hW]
        exact ⟨rfl, rfl, rfl, by rw [Lib.bytesWorld_size]; omega, fun k hk => Lib.bytesWorld_at_old w _ s k hk⟩
      rw [← hW] at hconv
      obtain ⟨gc, hgc⟩ : ∃ gc, gc = grownCap w s.size 0 5 := ⟨_, rfl⟩
      rw [← hgc] at hconv
      clear hW hgc hb0
      have HC : Hid _ := hcells
      have HF : Hid _ := hfirst
      have HB : Hid _ := hbW
      clear hcells hfirst hbW
      have hl := fun c => isLetter_is c W
      have hd := fun c => isDigit_is c W
      go_enter Tryz.func52, Tryz.ntmps52
      go_wp2_with (go_at_call 94; refine hlet.mono ?_; clear hlet; rintro e w' ⟨rfl, rfl⟩)
      go_loop [22] (fun i => ∃ k : Nat, k ≤ s.size ∧ i = .int .i64 k ∧ ∀ j, j < k → nameCh j (byteN s j) = true) (fun i => s.size - (intOf i).toNat)
      case atStart => exact ⟨0, Nat.zero_le _, rfl, fun j hj => by omega⟩
      case round =>
        obtain ⟨k, hk, rfl, hn⟩ := hrel
        have HN : Hid (∀ j, j < k → nameCh j (byteN s j) = true) := hn
        clear hn
        by_cases hlt : k < s.size
        · have hcell := HC.out k hlt
          have hnext : nameCh k (byteN s k) = true → ∀ j, j < k + 1 → nameCh j (byteN s j) = true := by
            intro h j hj
            by_cases hjk : j < k
            · exact HN.out j hjk
            · have : j = k := by omega
              subst this; exact h
          have hstop : nameCh k (byteN s k) = false → isNameB s = false := isName_not s k hlt
          have HS : Hid _ := hnext
          have HT : Hid _ := hstop
          clear hnext hstop
          have hin : nameCh k (byteN s k) = (letB (byteN s k) || digB (byteN s k)) ∨ k = 0 := by
            by_cases h0 : k = 0
            · exact .inr h0
            · exact .inl (nameCh_rest k _ h0)
          have hz : k = 0 → letB (byteN s k) = true := by
            intro h0; subst h0; rw [← nameCh_first]; exact HF.out
          have HI : Hid _ := hin
          have HZ : Hid _ := hz
          clear hin hz
          obtain ⟨c, hc⟩ : ∃ c, c = byteN s k := ⟨_, rfl⟩
          rw [← hc] at hcell HS HT HI HZ
          have hl' := hl c
          have hd' := hd c
          clear hc hl hd
          cases hcl : letB c
          · have hk0 : k ≠ 0 := fun h0 => by have := HZ.out h0; rw [hcl] at this; cases this
            have hnm : nameCh k c = digB c := by rcases HI.out with h | h; rw [h, hcl]; rfl; exact absurd h hk0
            rw [hcl] at hl'
            cases hcd : digB c
            · rw [hcd] at hd'
              have HQ : Hid (isNameB s = false) := HT.out (by rw [hnm]; exact hcd)
              clear hnm hcl hcd
              go_wp2_with (first | (go_at_call 94; refine hl'.mono ?_; clear hl'; rintro e w' ⟨rfl, rfl⟩) | (go_at_call 95; refine hd'.mono ?_; clear hd'; rintro e w' ⟨rfl, rfl⟩))
              go_ret
              exact ⟨by rw [HQ.out]; rfl, HB.out⟩
            · rw [hcd] at hd'
              have HQ : Hid _ := HS.out (by rw [hnm]; exact hcd)
              clear hnm hcl hcd
              go_wp2_with (first | (go_at_call 94; refine hl'.mono ?_; clear hl'; rintro e w' ⟨rfl, rfl⟩) | (go_at_call 95; refine hd'.mono ?_; clear hd'; rintro e w' ⟨rfl, rfl⟩))
              go_round
              case rel => exact ⟨k + 1, by omega, by go_num, HQ.out⟩
              case measure => simp [intOf]; omega
          · have hnm : nameCh k c = true := by
              rcases HI.out with h | h
              · rw [h, hcl]; rfl
              · subst h; rw [nameCh_first]; exact hcl
            rw [hcl] at hl'
            have HQ : Hid _ := HS.out hnm
            clear hnm hcl hd'
            go_wp2_with (first | (go_at_call 94; refine hl'.mono ?_; clear hl'; rintro e w' ⟨rfl, rfl⟩))
            go_round
            case rel => exact ⟨k + 1, by omega, by go_num, HQ.out⟩
            case measure => simp [intOf]; omega
        · have hk' : k = s.size := by omega
          subst hk'
          go_wp2
          go_ret
          exact ⟨by rw [isName_all s h1 h8 HN.out]; rfl, HB.out⟩

end Go.Proofs.YtebfmcafmojlaaaGreatDoor

/-
  strings.Clone.
-/
namespace Go.Proofs.YtebfmcafmojlaaaGreatDoor
open Go.RowKit Go.Maps
set_option linter.unusedSimpArgs false
set_option linter.unusedVariables false

theorem Tryz.infoByte : (Tryz.prog.info? 5).map (fun i => (i.zero, i.size, i.bytes)) = some (some (.int .u8 0), 1, 1) := by kernel_rfl

set_option maxHeartbeats 1000000 in
set_option maxRecDepth 100000 in
theorem liteClone_is (s : ByteArray) (w : World) (h0 : s.size ≠ 0) (hlim : s.size ≤ 1000) :
    Calls Tryz.prog 96 #[.string s] w fun e w' => e = .returned (.string s) ∧ Below w.heap.size w w' := by
  obtain ⟨i0, hi, hz0, hz1, hz2⟩ := info_parts Tryz.infoByte
  have hinfo : (Tryz.prog.info? 5).map (·.size) = some 1 := by rw [hi]; simp [hz1]
  have hco : Tryz.prog.cellsOf 5 = 1 := by simp [Program.cellsOf, hi, hz1]
  obtain ⟨M, hM⟩ : ∃ M, M = madeCells (Value.int .u8 0).cells (((s.size : Nat) : Int).toNat * i0.size) := ⟨_, rfl⟩
  have hMs : M.size = s.size := by rw [hM, size_madeCells, hz1]; simp
  have hmk : ∀ W : World, (Instr.makeSlice 55 (.int .i64 (s.size : Int)) (.int .i64 (s.size : Int))).run Tryz.prog W = .ok (.slice (some ⟨W.heap.size, 0, none⟩) s.size s.size) (W.alloc (.cells M 5)) := fun W => by
    have h := run_make (P := Tryz.prog) W 55 5 i0 (.int .u8 0) Tryz.underlying55 hi hz0 .i64 .i64 (s.size : Int) (s.size : Int) (by omega) (by omega) (by rw [hz2]; omega) (by omega)
    rw [← hM] at h
    simpa using h
  clear hM
  have hcp := Lib.run_copy_row_string (P := Tryz.prog) (w.alloc (.cells M 5)) 55 9 3 5 w.heap.size 0 s.size s.size s M 5 Tryz.underlying55 hinfo (heap_alloc_new w _) (Nat.le_refl _) (by omega)
  obtain ⟨Y, hY⟩ : ∃ Y, Y = (M.toList.take 0 ++ Lib.byteCells s.data.toList ++ M.toList.drop (0 + s.size)).toArray := ⟨_, rfl⟩
  rw [← hY] at hcp
  have hYl : Y.toList = Lib.byteCells s.data.toList := by
    rw [hY, List.toList_toArray, List.take_zero, List.nil_append, List.drop_of_length_le (by rw [Array.length_toList]; omega), List.append_nil]
  have hYs : Y.size = s.size := by rw [← Array.length_toList, hYl, Lib.byteCells_length, ← Lib.size_eq]
  have hgY : ((w.alloc (.cells M 5)).setRow w.heap.size Y).heap[w.heap.size]? = some (.cells Y 5 (0, 0)) := setRow_heap _ _ M _ 5 (0, 0) (heap_alloc_new w _)
  have hne : s.data.toList ≠ [] := fun e => h0 (by rw [Lib.size_eq, e]; rfl)
  have hUS := Lib.run_unsafeString_row (P := Tryz.prog) ((w.alloc (.cells M 5)).setRow w.heap.size Y) 228 3 9 5 Tryz.underlying228 hco w.heap.size Y.size (by unfold World.shape?; rw [hgY]) s.data.toList hne (by rw [← Lib.size_eq]; omega) (by rw [← Lib.size_eq]; omega)
    (fun j x hx => Lib.cells_of_row hgY Y.size j _ (by rw [List.take_of_length_le (by rw [Array.length_toList]; exact Nat.le_refl _), hYl]; simp [Lib.byteCells, hx]))
  rw [← Lib.size_eq] at hUS
  clear hY
  go_enter Tryz.func96, Tryz.ntmps96
  go_wp2
  go_ret
  have hb1 : Below w.heap.size w (w.alloc (.cells M 5)) := (Below.refl _ w).alloc (Nat.le_refl _) _
  have hb2 : Below w.heap.size (w.alloc (.cells M 5)) ((w.alloc (.cells M 5)).setRow w.heap.size Y) := ⟨rfl, rfl, rfl, by simp, fun k hk => setRow_other _ _ _ _ (by omega)⟩
  exact ⟨rfl, Lib.below_freeze (hb1.trans hb2) (p := ⟨w.heap.size, 0, none⟩) (Nat.le_refl _) _⟩

theorem stringsClone_is (s : ByteArray) (w : World) (h0 : s.size ≠ 0) (hlim : s.size ≤ 1000) :
    Calls Tryz.prog 54 #[.string s] w fun e w' => e = .returned (.string s) ∧ Below w.heap.size w w' := by
  have h := liteClone_is s w h0 hlim
  clear h0 hlim
  go_enter Tryz.func54, Tryz.ntmps54
  go_wp2_with (go_at_call 96; refine h.mono ?_; clear h; rintro e w' ⟨rfl, hb⟩)
  go_ret
  exact ⟨rfl, hb⟩

end Go.Proofs.YtebfmcafmojlaaaGreatDoor

/-
  copse: Var (what it makes).
-/
namespace Go.Proofs.YtebfmcafmojlaaaGreatDoor
open Go.RowKit Go.Maps
set_option linter.unusedSimpArgs false
set_option linter.unusedVariables false

theorem mask_of_join (n : Nat) : iteT (mask n) onesT 0 = mask n := by
  apply tab_ext
  intro a ha
  rw [iteT_bit _ _ _ _ ha, onesT_bit a ha]
  cases (mask n).getLsbD a <;> simp

theorem CopOk.vary {cap : Nat} {names : List ByteArray} {S : GrS} {L : List (Value × Value)} (h : CopOk cap names S L) (h6 : names.length < 6) (name : ByteArray) (v' : Value) : CopOk cap (names ++ [name]) (S.vary v') L := by
  have hol := h.mid.olen
  have hn : S.order.length ∉ S.order := fun e => by have := (h.mid.order _).1 e; omega
  refine ⟨⟨GrS.vary_ok h.mid.k v' hn (by omega), h.mid.full, h.mid.ents, h.mid.c0, h.mid.c1, ?_, ?_, ?_, h.mid.xok, h.mid.reach, h.mid.nlen, h.mid.cnt⟩, h.c1, h.c300, h.size⟩
  · intro v
    show v ∈ S.order ++ [S.order.length] ↔ v < (names ++ [name]).length
    rw [List.mem_append, h.mid.order, List.length_append, hol]
    simp
    omega
  · show (S.order ++ [S.order.length]).length = (names ++ [name]).length
    simp
    omega
  · simp
    omega

theorem copC_vary {cap : Nat} {names : List ByteArray} {S : GrS} {L : List (Value × Value)} (name : ByteArray) (v' : Value) : (copC cap (names ++ [name]) (S.vary v') L).T = (copC cap names S L).T := copT_ext (fun r f => by
  rw [copC_T, copC_T]
  exact Iff.rfl)

theorem CopMid.listed {cap : Nat} {names : List ByteArray} {S : GrS} {L : List (Value × Value)} {X : Nat → Prop} (h : CopMid names S L X) {Lt : List Tab} (hL : Lists (copC cap names S L) Lt) :
    (∀ r, liveH L r → r / 2 = 0 ∨ S.g.tab r ∈ Lt) ∧ ∀ f ∈ Lt, ∃ r, liveH L r ∧ S.g.tab r = f := by
  constructor
  · intro r hr
    by_cases h0 : r / 2 = 0
    · exact .inl h0
    · right
      rcases (hL (S.g.tab r)).1 ⟨r, copC_T.2 ⟨hr, rfl⟩⟩ with e | e | e
      · exact e
      · exfalso
        have := h.k.same (h.liveOk hr) (.inl rfl : S.g.ok 1) (e.trans h.k.tab1.symm)
        omega
      · exfalso
        have := h.k.same (h.liveOk hr) (.inl rfl : S.g.ok 0) (e.trans h.k.tab0.symm)
        omega
  · intro f hf
    obtain ⟨r, hr⟩ := (hL f).2 (.inl hf)
    obtain ⟨h1, h2⟩ := copC_T.1 hr
    exact ⟨r, h1, h2⟩

/-- A new variable has one node. -/
theorem CopOk.var_count {cap : Nat} {names : List ByteArray} {S : GrS} {L : List (Value × Value)} (h : CopOk cap names S L) (h6 : names.length < 6) (Lt : List Tab) (hL : Lists (copC cap names S L) Lt) :
    (allT (S.order ++ [names.length]) (withT Lt [mask names.length])).length = S.nums.length + 1 := by
  have hol := h.mid.olen
  have hn : S.order.length ∉ S.order := fun e => by have := (h.mid.order _).1 e; omega
  have hk := h.mid.k
  have k1 := GrS.vary_ok hk (.slice none 0 0) hn (by omega)
  obtain ⟨G, hG⟩ : ∃ G, G = (S.vary (.slice none 0 0)).g := ⟨_, rfl⟩
  have hGn : G.node = S.g.node := by rw [hG]; rfl
  have hGs : G.sem = S.g.sem := by rw [hG]; rfl
  have hGo : G.order = S.order ++ [names.length] := by rw [hG, ← hol]; rfl
  have hGt : ∀ r, G.tab r = S.g.tab r := fun r => by unfold Gr.tab; rw [hGs]
  have hGk : ∀ r, G.ok r ↔ S.g.ok r := fun r => by unfold Gr.ok; rw [hGn]
  rw [← hG] at k1
  clear hG
  obtain ⟨i, hi⟩ : ∃ i, i = S.nl.length + 1 := ⟨_, rfl⟩
  have hnone : G.node i = none := by
    rw [hGn]
    cases c : S.g.node i with
    | none => rfl
    | some n => have := GrS.node_lt c; omega
  have hnew : ∀ j, G.node j ≠ some (joinN names.length 0 1) := by
    intro j e
    rw [hGn] at e
    have := hk.var e
    have h2 : (joinN names.length 0 1).v = names.length := rfl
    rw [h2] at this
    have := (h.mid.order _).1 this
    omega
  have hv : names.length ∈ G.order := by rw [hGo]; simp
  have hidx : G.idx names.length < G.order.length := List.idxOf_lt_length_of_mem hv
  obtain ⟨m, htab, kadd, hx⟩ := Gr.Made.join_new (v := names.length) (Gr.Made.refl k1 (r := 0) (.inl rfl)) (Gr.Made.refl k1 (r := 1) (.inl rfl)) (by decide) hv (by rw [Gr.lev_const k1 rfl]; exact hidx) (by rw [Gr.lev_const k1 rfl]; exact hidx) (by omega : i ≠ 0) hnone hnew
  rw [tl_even _ _ rfl] at m htab
  rw [k1.tab0, k1.tab1, mask_of_join] at htab
  obtain ⟨l1, l2⟩ := h.mid.listed hL
  have hlok : ∀ {r}, liveH L r → G.ok r := fun hr => (hGk _).2 (h.mid.liveOk hr)
  have hadd : ∀ j, (G.add i (joinN names.length 0 1)).has j ↔ j = i ∨ S.g.has j := by
    intro j
    constructor
    · rintro ⟨n, hn⟩
      by_cases c : j = i
      · exact .inl c
      · right
        refine ⟨n, ?_⟩
        rw [← hGn, ← hn]
        simp [Gr.add, c]
    · rintro (e | ⟨n, e⟩)
      · subst e; exact ⟨_, G.add_node _ _⟩
      · exact ⟨n, hx.node (by rw [hGn]; exact e)⟩
  have := kadd.count_tabs (R := fun r => liveH L r ∨ r = 2 * i) (withT Lt [mask names.length]) ?_ ?_ (N := i :: S.nums) ?_ ?_
  · have ho : (G.add i (joinN names.length 0 1)).order = G.order := rfl
    rw [ho, hGo] at this
    rw [this]
    rfl
  · rintro r (hr | hr)
    · refine ⟨hx.ok (hlok hr), ?_⟩
      rw [withT_one, hx.tab (hlok hr), hGt]
      exact (l1 r hr).imp id .inl
    · subst hr
      exact ⟨m.ok, .inr (by rw [withT_one, htab]; exact .inr rfl)⟩
  · intro f hf
    rw [withT_one] at hf
    rcases hf with e | e
    · obtain ⟨r, h1, h2⟩ := l2 f e
      exact ⟨r, hx.ok (hlok h1), .inr (.inl h1), by rw [hx.tab (hlok h1), hGt]; exact h2⟩
    · exact ⟨2 * i, m.ok, .inr (.inr rfl), by rw [htab, e]⟩
  · rw [List.nodup_cons]
    refine ⟨?_, S.nums_nodup⟩
    intro hmem
    obtain ⟨n, hn⟩ := GrS.mem_nums.1 hmem
    have := GrS.node_lt hn
    omega
  · intro j
    rw [List.mem_cons, GrS.mem_nums]
    constructor
    · rintro (e | e)
      · subst e
        have h2 : 2 * j / 2 = j := by omega
        have := Gr.Reach.self (G := G.add j (joinN names.length 0 1)) (s := 2 * j) (by rw [h2]; exact (hadd j).2 (.inl rfl)) kadd.zero
        rw [h2] at this
        exact this.mono (fun r hr => .inr hr)
      · have hr := h.mid.reach j e
        refine ⟨(hadd j).2 (.inr e), fun T hT hR => hr.2 T ?_ ?_⟩
        · intro a ha n hn'
          exact hT a ha n (hx.node (by rw [hGn]; exact hn'))
        · rintro r (hr' | hr')
          · exact hR r (.inl hr')
          · exact hr'.elim
    · intro hr
      exact (hadd j).1 hr.1

/-- A tell of a new variable, as the callers see it. -/
theorem var_post {O O1 Og1 : Nat → Prop} {w w1 w' : World} {x cap : Nat} {names : List ByteArray} {S0 S : GrS} {nv v' : Value} {gb lb : Nat} {L : List (Value × Value)} {r d : Nat} {e : Ending} {name : ByteArray}
    (hok : CopOk cap names S0 L) (h6 : names.length < 6) (hroom : S0.nums.length ≠ cap) (hw : (S0.vary v').Went S r (mask names.length) d) (ho : Only O w w1) (hg : Grows w O O1) (h : TellPost O1 w1 x cap (names ++ [name]) S nv gb lb L Og1 r e w') (Lt : List Tab) (hL : Lists (copC cap names S0 L) Lt) :
    PostTell CopI O w x (copC cap names S0 L) (fullV (copC cap names S0 L) Lt) (varC (copC cap names S0 L) name) (mask names.length) e w' := by
  have hok' := hok.vary h6 name v'
  have hT := copC_vary (cap := cap) (names := names) (S := S0) (L := L) name v'
  have hL' : Lists (copC cap (names ++ [name]) (S0.vary v') L) Lt := by
    intro f
    rw [hT]
    exact hL f
  have hp := told_post hok' hw ho hg h Lt hL'
  have hcnt := hok.var_count h6 Lt hL
  have hol := hok.mid.olen
  have hsz := hok.size
  have hnf : ¬ fullV (copC cap names S0 L) Lt := by
    unfold fullV
    show ¬ ((cap : Nat) : Int) < ((allT (S0.order ++ [names.length]) (withT Lt [mask names.length])).length : Int)
    rw [hcnt]
    omega
  have hfe : fullC (copC cap (names ++ [name]) (S0.vary v') L) Lt (mask names.length) ↔ fullV (copC cap names S0 L) Lt := by
    unfold fullC fullV
    show ((cap : Nat) : Int) < ((allT (S0.order ++ [S0.order.length]) (withT Lt [mask names.length])).length : Int) ↔ ((cap : Nat) : Int) < ((allT (S0.order ++ [names.length]) (withT Lt [mask names.length])).length : Int)
    rw [hol]
  rcases hp with ⟨h1, _⟩ | ⟨h1, hd, h2, h3, h4, h5⟩
  · exact absurd (hfe.1 h1) hnf
  · refine .inr ⟨hnf, hd, h2, fun f hf => h3 f (by rw [hT]; exact hf), h4, ?_⟩
    have e : toldC (copC cap (names ++ [name]) (S0.vary v') L) (mask names.length) hd = varC (copC cap names S0 L) name hd := by
      unfold toldC varC
      rw [hT]
      show CopS.mk _ _ _ _ = CopS.mk _ _ _ _
      simp only [CopS.mk.injEq, true_and, and_true]
      refine ⟨rfl, rfl, ?_, rfl⟩
      show S0.order ++ [S0.order.length] = S0.order ++ [names.length]
      rw [hol]
    rw [← e]
    exact h5

/-- The copse when a name has been appended. -/
theorem CopAt.named {O : Nat → Prop} {w w1 w3 : World} {x cap : Nat} {names : List ByteArray} {S : GrS} {nv v' : Value} {gb lb : Nat} {L : List (Value × Value)} {Og : Nat → Prop} (h : CopAt O w x cap names S nv gb lb L Og) {o : Obj} {name : ByteArray}
    (ho : w1.ownsRow 0 9 1 v' (names.length + 1) (names.map Value.string ++ [Value.string name])) (hg : (w.alloc o).grownBy w1 nv.ownBlock) (hp : Placed (w.alloc o) nv v') (h3 : w3 = w1.setCell ⟨x, 1, none⟩ v') :
    Only O w w3 ∧ ∃ O', CopAt O' w3 x cap (names ++ [name]) S v' gb lb L Og ∧ Grows w O O' := by
  obtain ⟨n1, n2, n3⟩ := h.ne
  have hb0 : Below w.heap.size w (w.alloc o) := (Below.refl _ _).alloc (Nat.le_refl _) _
  have ho1 : Only O w w1 := (only_of_below hb0 O).grown hg (fun k hk => .inl (h.names.2 k hk))
  have ho3 : Only O w w3 := by rw [h3]; exact ho1.setCell (p := ⟨x, 1, none⟩) (.inl h.self) _
  have hs1 : w.heap.size < w1.heap.size := by have := hg.size; simp at this; omega
  have hs3 : w3.heap.size = w1.heap.size := by rw [h3]; simp [World.setCell]
  have hb1 : ∀ b, b < w.heap.size → nv.ownBlock ≠ some b → w1.heap[b]? = w.heap[b]? := fun b hb hne => (hg.block b (by simp; omega) (fun e => hne e.symm)).trans (hb0.block b hb)
  have hb3 : ∀ b, b ≠ x → w3.heap[b]? = w1.heap[b]? := fun b hb => by rw [h3, Below.heap_setCell _ _ _ _ hb]
  have hx1 : w1.heap[x]? = _ := (hb1 x (h.lt x h.self) n2).trans h.cells
  have hpl : ∀ b, v'.ownBlock = some b → nv.ownBlock = some b ∨ w.heap.size ≤ b := fun b hb => (hp b hb).imp id (fun e => by simp at e; omega)
  have hv'x : v'.ownBlock ≠ some x := by
    intro e
    rcases hpl x e with h1 | h1
    · exact n2 h1
    · have := h.lt x h.self; omega
  have keep : ∀ b, b < w.heap.size → b ≠ x → nv.ownBlock ≠ some b → w3.heap[b]? = w.heap[b]? := fun b h1 h2 h4 => (hb3 b h2).trans (hb1 b h1 h4)
  refine ⟨ho3, fun b => O b ∨ v'.ownBlock = some b, ?_, ?_⟩
  · refine ⟨?_, .inl h.self, .inl h.ol, fun b hb => .inl (h.og b hb), ?_, ⟨?_, fun k hk => .inr hk⟩, ?_, ?_, h.nx, h.nlb, ?_⟩
    · rintro b (hb | hb)
      · have := h.lt b hb; omega
      · obtain ⟨cur, hc⟩ := row_block ho hb
        have := (Array.getElem?_eq_some_iff.1 hc).1
        omega
    · rw [h3, heap_setCell_at hx1]; rfl
    · rw [List.map_append, List.length_append, List.length_map]
      exact owns_same ho (fun k hk => hb3 k (fun e => hv'x (by rw [← e]; exact hk)))
    · exact h.graph.keep (by rw [hs3]; omega) (fun k hk => keep k (h.lt k (h.og k hk)) (by intro e; subst e; exact h.nx hk) (fun e => h.nn k e hk))
    · exact h.live.same (keep lb (h.lt lb h.ol) n1.symm n3)
    · intro b hb hb'
      rcases hpl b hb with h1 | h1
      · exact h.nn b h1 hb'
      · have := h.lt b (h.og b hb'); omega
  · rintro b (hb | hb)
    · exact .inl hb
    · rcases hpl b hb with h1 | h1
      · exact .inl (h.names.2 b h1)
      · exact .inr h1

end Go.Proofs.YtebfmcafmojlaaaGreatDoor

