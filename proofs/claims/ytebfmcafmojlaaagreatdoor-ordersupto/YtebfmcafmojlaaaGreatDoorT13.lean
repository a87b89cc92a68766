/-
  MAPS BY THEIR ENTRIES: block b is a map whose entries are those of a list of pairs (their order is not looked at).
-/
import Derived.Maps.OwnSet
import Derived.Test.YtebfmcafmojlaaaGreatDoorT03
namespace Go.Proofs.YtebfmcafmojlaaaGreatDoor
open Go.RowKit Go.MapKept
open Go.ChangeMaps (setBlock)
open Go.Maps (Keyed)
set_option linter.unusedSimpArgs false
set_option linter.unusedVariables false

def KeyOk (P : Program) (k : TypeId) (v : Value) : Prop := ∃ l, keyOf P k v = some l

def MapIs (P : Program) (k : TypeId) (w : World) (b : Nat) (L : List (Value × Value)) : Prop :=
  ∃ es clock, w.heap[b]? = some (.map es clock) ∧ Stamped es clock ∧ (∀ x ∈ es.toList, KeyOk P k x.key) ∧ L = es.toList.map (fun e => (e.key, e.val))

theorem MapIs.lt {P : Program} {k : TypeId} {w : World} {b : Nat} {L : List (Value × Value)} (h : MapIs P k w b L) : b < w.heap.size := by
  obtain ⟨es, clock, hb, _⟩ := h
  exact (Array.getElem?_eq_some_iff.1 hb).1

theorem MapIs.same {P : Program} {k : TypeId} {w w' : World} {b : Nat} {L : List (Value × Value)} (h : MapIs P k w b L) (hb : w'.heap[b]? = w.heap[b]?) : MapIs P k w' b L := by
  obtain ⟨es, clock, h1, r⟩ := h
  exact ⟨es, clock, hb.trans h1, r⟩

theorem MapIs.made (P : Program) (k : TypeId) (w : World) : MapIs P k (w.alloc (.map #[] 0)) w.heap.size [] :=
  ⟨#[], 0, (MapKept.heap_alloc w _).1, stamped_empty 0, by simp, rfl⟩

theorem MapIs.keys {P : Program} {k : TypeId} {w : World} {b : Nat} {L : List (Value × Value)} (h : MapIs P k w b L) : ∀ p ∈ L, KeyOk P k p.1 := by
  obtain ⟨es, clock, h1, h2, h3, rfl⟩ := h
  intro p hp
  obtain ⟨x, hx, rfl⟩ := List.mem_map.1 hp
  exact h3 x hx

theorem MapIs.one {P : Program} {k : TypeId} {w : World} {b : Nat} {L : List (Value × Value)} (h : MapIs P k w b L) : L.Pairwise (fun p q => p.1 ≠ q.1) := by
  obtain ⟨es, clock, h1, h2, h3, rfl⟩ := h
  rw [List.pairwise_map]
  exact ((stamped_iff es clock).1 h2).2.2

theorem MapIs.uniq {P : Program} {k : TypeId} {w : World} {b : Nat} {L : List (Value × Value)} (h : MapIs P k w b L) {a u v : Value} (h1 : (a, u) ∈ L) (h2 : (a, v) ∈ L) : u = v := by
  have := h.one
  clear h
  induction L with
  | nil => simp at h1
  | cons p L ih =>
    obtain ⟨p1, p2⟩ := List.pairwise_cons.1 this
    rcases List.mem_cons.1 h1 with e | e <;> rcases List.mem_cons.1 h2 with e' | e'
    · rw [← e] at e'; cases e'; rfl
    · exact absurd rfl (p1 (a, v) e' |> fun h => by rw [← e] at h; exact h)
    · exact absurd rfl (p1 (a, u) e |> fun h => by rw [← e'] at h; exact h)
    · exact ih e e' p2

theorem MapIs.nodup {P : Program} {k : TypeId} {w : World} {b : Nat} {L : List (Value × Value)} (h : MapIs P k w b L) : L.Nodup :=
  h.one.imp (fun h e => h (by rw [e]))

def mapTold (commaOk : Bool) (v : Value) (ok : Bool) : Value := if commaOk then .tuple #[v, .bool ok] else v

/-- 'm[k]', 'v, ok := m[k]'. -/
theorem MapIs.look {P : Program} {k : TypeId} {w : World} {b : Nat} {L : List (Value × Value)} (h : MapIs P k w b L) (K : Keyed P k) {t e : TypeId} (ht : P.underlying t = some (.map k e)) {z : Value} (hz : (zeroValue e).run P w = .ok z w) (c : Bool) {key : Value} (hkey : KeyOk P k key) :
    (∃ v, (key, v) ∈ L ∧ (Instr.lookup t (.map (some b)) key c).run P w = .ok (mapTold c v true) w) ∨ ((∀ v, (key, v) ∉ L) ∧ (Instr.lookup t (.map (some b)) key c).run P w = .ok (mapTold c z false) w) := by
  obtain ⟨es, clock, hb, hs, hk, rfl⟩ := h
  obtain ⟨kl, hkey⟩ := hkey
  rcases K.find w hkey es.toList hk with ⟨h1, h2⟩ | ⟨j, e0, h1, h2, h3⟩
  · right
    refine ⟨?_, ?_⟩
    · intro v hv
      obtain ⟨x, hx, ex⟩ := List.mem_map.1 hv
      exact h2 x hx (congrArg Prod.fst ex)
    · simp [Instr.lookup, run_underlying ht, MapKept.run_getObj_map hb, K.check w _ hkey, h1, hz, Result.andThen, mapTold]
  · left
    refine ⟨e0.val, List.mem_map.2 ⟨e0, List.mem_of_getElem? h2, by rw [h3]⟩, ?_⟩
    simp [Instr.lookup, run_underlying ht, MapKept.run_getObj_map hb, K.check w _ hkey, h1, Result.andThen, mapTold]

/-- 'len(m)'. -/
theorem MapIs.len {P : Program} {k : TypeId} {w : World} {b : Nat} {L : List (Value × Value)} (h : MapIs P k w b L) {t e : TypeId} (ht : P.underlying t = some (.map k e)) (ty : TypeId) : (Builtin.len_ #[t] ty #[.map (some b)]).run P w = .ok (.int .i64 (L.length : Nat)) w := by
  obtain ⟨es, clock, hb, hs, hk, rfl⟩ := h
  simp [Builtin.len_, run_underlying ht, MapKept.run_getObj_map hb, goInt, Result.andThen]

/-- What has turned is the map alone. -/
def MapTurn (w w' : World) (b : Nat) : Prop := w.grownBy w' (some b) ∧ w'.heap.size = w.heap.size

theorem mapTurn_set {w : World} {b : Nat} {es : Array MapEntry} {clock : Nat} (hb : w.heap[b]? = some (.map es clock)) (es' : Array MapEntry) (clock' : Nat) : MapTurn w (setBlock w b (.map es' clock')) b :=
  ⟨⟨rfl, rfl, rfl, by simp [setBlock], fun i _ hi => ChangeMaps.heap_setBlock_other hb _ (fun e => hi (by rw [e]))⟩, by simp [setBlock]⟩

/-- 'm[k] = v'. -/
theorem MapIs.store {P : Program} {k : TypeId} {w : World} {b : Nat} {L : List (Value × Value)} (h : MapIs P k w b L) (K : Keyed P k) {t e : TypeId} (ht : P.underlying t = some (.map k e)) {key val : Value} (hkey : KeyOk P k key) :
    ∃ w' L', (Instr.mapUpdate t (.map (some b)) key val).run P w = .ok () w' ∧ MapIs P k w' b L' ∧ MapTurn w w' b ∧ (∀ p, p ∈ L' ↔ p = (key, val) ∨ (p ∈ L ∧ p.1 ≠ key)) ∧
      ((∀ v, (key, v) ∉ L) → L'.length = L.length + 1) ∧ ((∃ v, (key, v) ∈ L) → L'.length = L.length) := by
  obtain ⟨es, clock, hb, hs, hk, rfl⟩ := h
  obtain ⟨kl, hkey⟩ := hkey
  rcases K.find w hkey es.toList hk with ⟨h1, h2⟩ | ⟨j, e0, h1, h2, h3⟩
  · refine ⟨setBlock w b (.map (es.push ⟨key, val, clock⟩) (clock + 1)), _, ?_, ⟨es.push ⟨key, val, clock⟩, clock + 1, ChangeMaps.heap_setBlock_same hb _, stamped_push hs h2, ?_, rfl⟩, mapTurn_set hb _ _, ?_, ?_, ?_⟩
    · simp [Instr.mapUpdate, run_underlying ht, MapKept.run_getObj_map hb, K.check w false hkey, h1, MapKept.run_setObj_map _ hb, Result.andThen, setBlock]
    · intro x hx
      simp only [Array.toList_push, List.mem_append, List.mem_singleton] at hx
      rcases hx with hx | rfl
      · exact hk x hx
      · exact ⟨kl, hkey⟩
    · intro p
      simp only [Array.toList_push, List.map_append, List.map_cons, List.map_nil, List.mem_append, List.mem_singleton]
      constructor
      · rintro (hp | hp)
        · obtain ⟨x, hx, rfl⟩ := List.mem_map.1 hp
          exact .inr ⟨hp, h2 x hx⟩
        · exact .inl hp
      · rintro (hp | hp)
        · exact .inr hp
        · exact .inl hp.1
    · intro _; simp
    · rintro ⟨v, hv⟩
      obtain ⟨x, hx, ex⟩ := List.mem_map.1 hv
      exact absurd (congrArg Prod.fst ex) (h2 x hx)
  · have hj : es[j]? = some e0 := by simpa using h2
    have hlist : (es.modify j (fun e' => { e' with key := key, val := val })).toList = es.toList.set j { e0 with key := key, val := val } := by rw [Array.toList_modify, ChangeMaps.modify_eq_set _ _ _ _ h2]
    have hjl : j < es.toList.length := (List.getElem?_eq_some_iff.1 h2).1
    have hone := ((stamped_iff es clock).1 hs).2.2
    have hoth : ∀ i x, i ≠ j → es.toList[i]? = some x → x.key ≠ key := by
      intro i x hij hx
      rw [← h3]
      have hil := (List.getElem?_eq_some_iff.1 hx).1
      have ex := (List.getElem?_eq_some_iff.1 hx).2
      have e0' := (List.getElem?_eq_some_iff.1 h2).2
      rw [← ex, ← e0']
      rw [List.pairwise_iff_getElem] at hone
      rcases Nat.lt_or_gt_of_ne hij with hl | hl
      · exact hone i j hil hjl hl
      · exact (hone j i hjl hil hl).symm
    have hmem : ∀ x, x ∈ es.toList.set j { e0 with key := key, val := val } ↔ x = { e0 with key := key, val := val } ∨ (x ∈ es.toList ∧ x.key ≠ key) := by
      intro x
      constructor
      · intro hx
        obtain ⟨i, hi, ex⟩ := List.getElem_of_mem hx
        rw [List.getElem_set] at ex
        split at ex
        · exact .inl ex.symm
        · rename_i hne
          have hi' : i < es.toList.length := by simpa using hi
          exact .inr ⟨ex ▸ List.getElem_mem hi', hoth i x (fun e => hne e.symm) (by rw [List.getElem?_eq_getElem hi', ex])⟩
      · rintro (rfl | ⟨hx, hne⟩)
        · exact List.mem_iff_getElem.2 ⟨j, by simpa using hjl, by simp⟩
        · obtain ⟨i, hi, ex⟩ := List.getElem_of_mem hx
          have hij : i ≠ j := by
            intro e
            subst e
            have e0' := (List.getElem?_eq_some_iff.1 h2).2
            rw [ex] at e0'
            rw [e0'] at hne
            exact hne h3
          exact List.mem_iff_getElem.2 ⟨i, by simpa using hi, by rw [List.getElem_set_ne (fun e => hij e.symm)]; exact ex⟩
    refine ⟨setBlock w b (.map (es.modify j (fun e' => { e' with key := key, val := val })) clock), _, ?_, ⟨es.modify j (fun e' => { e' with key := key, val := val }), clock, ChangeMaps.heap_setBlock_same hb _, stamped_modify hs _ _ (fun _ _ => rfl) (fun e' _ he' => by rw [hj] at he'; cases he'; exact h3.symm), ?_, rfl⟩, mapTurn_set hb _ _, ?_, ?_, ?_⟩
    · simp [Instr.mapUpdate, run_underlying ht, MapKept.run_getObj_map hb, K.check w false hkey, h1, hj, h3, K.stays w hkey, MapKept.run_setObj_map _ hb, Result.andThen, setBlock]
    · intro x hx
      rw [hlist, hmem] at hx
      rcases hx with rfl | ⟨hx, _⟩
      · exact ⟨kl, hkey⟩
      · exact hk x hx
    · intro p
      rw [hlist, List.mem_map]
      constructor
      · rintro ⟨x, hx, rfl⟩
        rcases (hmem x).1 hx with rfl | ⟨hx, hne⟩
        · exact .inl rfl
        · exact .inr ⟨List.mem_map.2 ⟨x, hx, rfl⟩, hne⟩
      · rintro (rfl | ⟨hp, hne⟩)
        · exact ⟨_, (hmem _).2 (.inl rfl), rfl⟩
        · obtain ⟨x, hx, rfl⟩ := List.mem_map.1 hp
          exact ⟨x, (hmem x).2 (.inr ⟨hx, hne⟩), rfl⟩
    · intro hno
      exact absurd (List.mem_map.2 ⟨e0, List.mem_of_getElem? h2, by rw [h3]⟩) (hno e0.val)
    · intro _; rw [hlist]; simp

/-- 'delete(m, k)'. -/
theorem MapIs.drop {P : Program} {k : TypeId} {w : World} {b : Nat} {L : List (Value × Value)} (h : MapIs P k w b L) (K : Keyed P k) {t e : TypeId} (ht : P.underlying t = some (.map k e)) {key : Value} (hkey : KeyOk P k key) (ty : TypeId) :
    ∃ w' L', (Builtin.delete_ #[t, k] ty #[.map (some b), key]).run P w = .ok (.tuple #[]) w' ∧ MapIs P k w' b L' ∧ MapTurn w w' b ∧ (∀ p, p ∈ L' ↔ p ∈ L ∧ p.1 ≠ key) := by
  obtain ⟨es, clock, hb, hs, hk, rfl⟩ := h
  obtain ⟨kl, hkey⟩ := hkey
  rcases K.find w hkey es.toList hk with ⟨h1, h2⟩ | ⟨j, e0, h1, h2, h3⟩
  · refine ⟨setBlock w b (.map es clock), _, ?_, ⟨es, clock, ChangeMaps.heap_setBlock_same hb _, hs, hk, rfl⟩, mapTurn_set hb _ _, ?_⟩
    · simp [Builtin.delete_, run_underlying ht, MapKept.run_getObj_map hb, K.check w _ hkey, h1, MapKept.run_setObj_map _ hb, Result.andThen, setBlock]
    · intro p
      constructor
      · intro hp
        obtain ⟨x, hx, rfl⟩ := List.mem_map.1 hp
        exact ⟨hp, h2 x hx⟩
      · exact fun h => h.1
  · have hjl : j < es.toList.length := (List.getElem?_eq_some_iff.1 h2).1
    have hjs : j < es.size := by simpa using hjl
    have hone := ((stamped_iff es clock).1 hs).2.2
    have hlist : (es.eraseIdxIfInBounds j).toList = es.toList.eraseIdx j := by
      unfold Array.eraseIdxIfInBounds
      rw [dif_pos hjs]
      simp
    have hoth : ∀ i x, i ≠ j → es.toList[i]? = some x → x.key ≠ key := by
      intro i x hij hx
      rw [← h3]
      have hil := (List.getElem?_eq_some_iff.1 hx).1
      have ex := (List.getElem?_eq_some_iff.1 hx).2
      have e0' := (List.getElem?_eq_some_iff.1 h2).2
      rw [← ex, ← e0']
      rw [List.pairwise_iff_getElem] at hone
      rcases Nat.lt_or_gt_of_ne hij with hl | hl
      · exact hone i j hil hjl hl
      · exact (hone j i hjl hil hl).symm
    have hmem : ∀ x, x ∈ es.toList.eraseIdx j ↔ x ∈ es.toList ∧ x.key ≠ key := by
      intro x
      rw [List.mem_eraseIdx_iff_getElem?]
      constructor
      · rintro ⟨i, hij, hx⟩
        exact ⟨List.mem_of_getElem? hx, hoth i x hij hx⟩
      · rintro ⟨hx, hne⟩
        obtain ⟨i, hi, ex⟩ := List.getElem_of_mem hx
        refine ⟨i, ?_, by rw [List.getElem?_eq_getElem hi, ex]⟩
        intro e
        subst e
        have e0' := (List.getElem?_eq_some_iff.1 h2).2
        rw [ex] at e0'
        rw [e0'] at hne
        exact hne h3
    refine ⟨setBlock w b (.map (es.eraseIdxIfInBounds j) clock), _, ?_, ⟨es.eraseIdxIfInBounds j, clock, ChangeMaps.heap_setBlock_same hb _, stamped_erase hs j, ?_, rfl⟩, mapTurn_set hb _ _, ?_⟩
    · simp [Builtin.delete_, run_underlying ht, MapKept.run_getObj_map hb, K.check w _ hkey, h1, MapKept.run_setObj_map _ hb, Result.andThen, setBlock]
    · intro x hx
      rw [hlist, hmem] at hx
      exact hk x hx.1
    · intro p
      rw [hlist, List.mem_map, List.mem_map]
      constructor
      · rintro ⟨x, hx, rfl⟩
        have := (hmem x).1 hx
        exact ⟨⟨x, this.1, rfl⟩, this.2⟩
      · rintro ⟨⟨x, hx, rfl⟩, hne⟩
        exact ⟨x, (hmem x).2 ⟨hx, hne⟩, rfl⟩

/-- 'clear(m)'. -/
theorem MapIs.clear {P : Program} {k : TypeId} {w : World} {b : Nat} {L : List (Value × Value)} (h : MapIs P k w b L) {t e : TypeId} (ht : P.underlying t = some (.map k e)) (ty : TypeId) :
    ∃ w', (Builtin.clear_ #[t] ty #[.map (some b)]).run P w = .ok (.tuple #[]) w' ∧ MapIs P k w' b [] ∧ MapTurn w w' b := by
  obtain ⟨es, clock, hb, hs, hk, rfl⟩ := h
  refine ⟨setBlock w b (.map #[] clock), ?_, ⟨#[], clock, ChangeMaps.heap_setBlock_same hb _, stamped_empty _, by simp, rfl⟩, mapTurn_set hb _ _⟩
  simp [Builtin.clear_, run_underlying ht, MapKept.run_getObj_map hb, MapKept.run_setObj_map _ hb, Result.andThen, setBlock]

end Go.Proofs.YtebfmcafmojlaaaGreatDoor

