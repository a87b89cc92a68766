/-
  TABLES: functions of six variables as 64 truth values. Plain mathematics: nothing of the program.
-/
import Derived.WalkKit
namespace Go.Proofs.Ytebfmcafmojlaaa
set_option linter.unusedSimpArgs false
set_option linter.unusedVariables false

abbrev Tab := BitVec 64

def mask : Nat → Tab
  | 0 => 0xaaaaaaaaaaaaaaaa#64
  | 1 => 0xcccccccccccccccc#64
  | 2 => 0xf0f0f0f0f0f0f0f0#64
  | 3 => 0xff00ff00ff00ff00#64
  | 4 => 0xffff0000ffff0000#64
  | _ => 0xffffffff00000000#64

def given (f : Tab) (v : Nat) (b : Bool) : Tab :=
  if b then (f &&& mask v) ||| ((f &&& mask v) >>> (2 ^ v))
  else (f &&& ~~~ mask v) ||| ((f &&& ~~~ mask v) <<< (2 ^ v))

/-- The assignment a with variable v set to b. -/
def setb (a v : Nat) (b : Bool) : Nat := if a.testBit v = b then a else a ^^^ 2 ^ v

def hangs (f : Tab) (v : Nat) : Bool := given f v true != given f v false

theorem mask_bit (v a : Nat) (hv : v < 6) (ha : a < 64) : (mask v).getLsbD a = a.testBit v := by
  have h : ∀ (v : Fin 6) (a : Fin 64), (mask v.1).getLsbD a.1 = a.1.testBit v.1 := by decide
  exact h ⟨v, hv⟩ ⟨a, ha⟩

theorem setb_lt (a v : Nat) (b : Bool) (hv : v < 6) (ha : a < 64) : setb a v b < 64 := by
  have h : ∀ (v : Fin 6) (a : Fin 64) (b : Bool), setb a.1 v.1 b < 64 := by decide
  exact h ⟨v, hv⟩ ⟨a, ha⟩ b

theorem setb_self (a v : Nat) (b : Bool) (hv : v < 6) (ha : a < 64) : (setb a v b).testBit v = b := by
  have h : ∀ (v : Fin 6) (a : Fin 64) (b : Bool), (setb a.1 v.1 b).testBit v.1 = b := by decide
  exact h ⟨v, hv⟩ ⟨a, ha⟩ b

theorem setb_other (a v u : Nat) (b : Bool) (hv : v < 6) (hu : u < 6) (ha : a < 64) (h : u ≠ v) : (setb a v b).testBit u = a.testBit u := by
  have h' : ∀ (v u : Fin 6) (a : Fin 64) (b : Bool), u ≠ v → (setb a.1 v.1 b).testBit u.1 = a.1.testBit u.1 := by decide +kernel
  exact h' ⟨v, hv⟩ ⟨u, hu⟩ ⟨a, ha⟩ b (by intro e; exact h (Fin.mk.inj e))

theorem setb_setb (a v : Nat) (b c : Bool) (hv : v < 6) (ha : a < 64) : setb (setb a v b) v c = setb a v c := by
  have h : ∀ (v : Fin 6) (a : Fin 64) (b c : Bool), setb (setb a.1 v.1 b) v.1 c = setb a.1 v.1 c := by decide +kernel
  exact h ⟨v, hv⟩ ⟨a, ha⟩ b c

theorem setb_comm (a v u : Nat) (b c : Bool) (hv : v < 6) (hu : u < 6) (ha : a < 64) (h : u ≠ v) : setb (setb a v b) u c = setb (setb a u c) v b := by
  have h' : ∀ (v u : Fin 6) (a : Fin 64) (b c : Bool), u ≠ v → setb (setb a.1 v.1 b) u.1 c = setb (setb a.1 u.1 c) v.1 b := by decide +kernel
  exact h' ⟨v, hv⟩ ⟨u, hu⟩ ⟨a, ha⟩ b c (by intro e; exact h (Fin.mk.inj e))

theorem setb_same (a v : Nat) : setb a v (a.testBit v) = a := by simp [setb]

theorem given_bit (f : Tab) (v : Nat) (b : Bool) (a : Nat) (hv : v < 6) (ha : a < 64) : (given f v b).getLsbD a = f.getLsbD (setb a v b) := by
  have k1 : ∀ (v : Fin 6) (a : Fin 64), a.1.testBit v.1 = false → a.1 + 2 ^ v.1 < 64 ∧ (a.1 + 2 ^ v.1).testBit v.1 = true ∧ a.1 ^^^ 2 ^ v.1 = a.1 + 2 ^ v.1 := by decide
  have k2 : ∀ (v : Fin 6) (a : Fin 64), a.1.testBit v.1 = true → 2 ^ v.1 ≤ a.1 ∧ (a.1 - 2 ^ v.1).testBit v.1 = false ∧ a.1 ^^^ 2 ^ v.1 = a.1 - 2 ^ v.1 := by decide
  have k3 : ∀ (v : Fin 6) (a : Fin 64), a.1.testBit v.1 = true → 64 ≤ a.1 + 2 ^ v.1 ∨ (a.1 + 2 ^ v.1).testBit v.1 = false := by decide
  have k4 : ∀ (v : Fin 6) (a : Fin 64), a.1.testBit v.1 = false → a.1 < 2 ^ v.1 ∨ (a.1 - 2 ^ v.1).testBit v.1 = true := by decide
  have hm := mask_bit v a hv ha
  have hmm := fun a ha => mask_bit v a hv ha
  have kk1 := k1 ⟨v, hv⟩ ⟨a, ha⟩
  have kk2 := k2 ⟨v, hv⟩ ⟨a, ha⟩
  have kk3 := k3 ⟨v, hv⟩ ⟨a, ha⟩
  have kk4 := k4 ⟨v, hv⟩ ⟨a, ha⟩
  simp only at kk1 kk2 kk3 kk4
  clear k1 k2 k3 k4
  unfold given setb
  generalize 2 ^ v = d at *
  cases b
  · rw [if_neg (by decide)]
    simp only [BitVec.getLsbD_or, BitVec.getLsbD_and, BitVec.getLsbD_not, BitVec.getLsbD_shiftLeft, hm, ha, decide_true, Bool.true_and]
    cases ht : a.testBit v
    · rw [if_pos rfl]
      by_cases hl : a < d
      · simp [hl]
      · rw [hmm (a - d) (by omega), (kk4 ht).resolve_left hl]
        simp
    · obtain ⟨h1, h2, h3⟩ := kk2 ht
      have hl : ¬ a < d := by omega
      have hl2 : a - d < 64 := by omega
      rw [hmm (a - d) (by omega), h2, h3, if_neg (by decide)]
      simp [hl, hl2]
  · rw [if_pos rfl]
    simp only [BitVec.getLsbD_or, BitVec.getLsbD_and, BitVec.getLsbD_ushiftRight, hm]
    cases ht : a.testBit v
    · obtain ⟨h1, h2, h3⟩ := kk1 ht
      rw [Nat.add_comm d a, hmm (a + d) h1, h2, h3, if_neg (by decide)]
      simp
    · rw [if_pos rfl, Nat.add_comm d a]
      by_cases hl : a + d < 64
      · rw [hmm (a + d) hl, (kk3 ht).resolve_left (by omega)]
        simp
      · rw [BitVec.getLsbD_of_ge f (a + d) (by omega)]
        simp

theorem tab_ext {f g : Tab} (h : ∀ a, a < 64 → f.getLsbD a = g.getLsbD a) : f = g :=
  BitVec.eq_of_getLsbD_eq fun i hi => h i hi

end Go.Proofs.Ytebfmcafmojlaaa

/-
  TABLES: what 'given' and 'hangs' do to one another.
-/
namespace Go.Proofs.Ytebfmcafmojlaaa
set_option linter.unusedSimpArgs false
set_option linter.unusedVariables false

theorem given_not (f : Tab) (v : Nat) (b : Bool) (hv : v < 6) : given (~~~ f) v b = ~~~ given f v b := by
  apply tab_ext
  intro a ha
  rw [given_bit _ _ _ _ hv ha, BitVec.getLsbD_not, BitVec.getLsbD_not, given_bit _ _ _ _ hv ha]
  simp only [ha, setb_lt a v b hv ha]

theorem given_same (f : Tab) (v : Nat) (b c : Bool) (hv : v < 6) : given (given f v b) v c = given f v b := by
  apply tab_ext
  intro a ha
  rw [given_bit _ _ _ _ hv ha, given_bit _ _ _ _ hv (setb_lt a v c hv ha), given_bit _ _ _ _ hv ha, setb_setb a v c b hv ha]

theorem given_comm (f : Tab) (v u : Nat) (b c : Bool) (hv : v < 6) (hu : u < 6) : u ≠ v → given (given f v b) u c = given (given f u c) v b := by
  intro h
  apply tab_ext
  intro a ha
  rw [given_bit _ _ _ _ hu ha, given_bit _ _ _ _ hv (setb_lt a u c hu ha), given_bit _ _ _ _ hv ha, given_bit _ _ _ _ hu (setb_lt a v b hv ha), setb_comm a v u b c hv hu ha h]

theorem hangs_false_iff (f : Tab) (v : Nat) : hangs f v = false ↔ given f v true = given f v false := by
  unfold hangs
  simp only [bne_eq_false_iff_eq]

theorem hangs_true_iff (f : Tab) (v : Nat) : hangs f v = true ↔ given f v true ≠ given f v false := by
  unfold hangs
  simp only [bne_iff_ne]

theorem hangs_not (f : Tab) (v : Nat) (hv : v < 6) : hangs (~~~ f) v = hangs f v := by
  rw [Bool.eq_iff_iff, hangs_true_iff, hangs_true_iff, given_not _ _ _ hv, given_not _ _ _ hv]
  constructor
  · intro h e; exact h (by rw [e])
  · intro h e; exact h (by have := congrArg (fun x => ~~~ x) e; simpa using this)

theorem hangs_given_self (f : Tab) (v : Nat) (b : Bool) (hv : v < 6) : hangs (given f v b) v = false := by
  rw [hangs_false_iff, given_same _ _ _ _ hv, given_same _ _ _ _ hv]

theorem hangs_given (f : Tab) (v u : Nat) (b : Bool) (hv : v < 6) (hu : u < 6) (h : hangs (given f v b) u = true) : hangs f u = true := by
  by_cases e : u = v
  · subst e
    rw [hangs_given_self _ _ _ hv] at h
    cases h
  · rw [hangs_true_iff] at h ⊢
    intro hh
    apply h
    rw [given_comm _ _ _ _ _ hv hu e, given_comm _ _ _ _ _ hv hu e, hh]

theorem given_of_not_hangs (f : Tab) (v : Nat) (b : Bool) (hv : v < 6) (h : hangs f v = false) : given f v b = f := by
  rw [hangs_false_iff] at h
  apply tab_ext
  intro a ha
  have h1 : ∀ c d, given f v c = given f v d := by intro c d; cases c <;> cases d <;> simp [h]
  rw [h1 b (a.testBit v), given_bit _ _ _ _ hv ha, setb_same]

def onesT : Tab := BitVec.allOnes 64
theorem onesT_bit (a : Nat) (ha : a < 64) : onesT.getLsbD a = true := by
  unfold onesT
  rw [BitVec.getLsbD_allOnes]
  simp only [ha, decide_true]

/-- A function by its halves. -/
def iteT (f g h : Tab) : Tab := (f &&& g) ||| (~~~ f &&& h)

theorem iteT_bit (f g h : Tab) (a : Nat) (ha : a < 64) : (iteT f g h).getLsbD a = if f.getLsbD a then g.getLsbD a else h.getLsbD a := by
  unfold iteT
  rw [BitVec.getLsbD_or, BitVec.getLsbD_and, BitVec.getLsbD_and, BitVec.getLsbD_not]
  cases f.getLsbD a <;> simp [ha]

theorem given_iteT (f g h : Tab) (v : Nat) (b : Bool) (hv : v < 6) : given (iteT f g h) v b = iteT (given f v b) (given g v b) (given h v b) := by
  apply tab_ext
  intro a ha
  rw [given_bit _ _ _ _ hv ha, iteT_bit _ _ _ _ (setb_lt a v b hv ha), iteT_bit _ _ _ _ ha, given_bit _ _ _ _ hv ha, given_bit _ _ _ _ hv ha, given_bit _ _ _ _ hv ha]

theorem halves (f : Tab) (v : Nat) (hv : v < 6) : iteT (mask v) (given f v true) (given f v false) = f := by
  apply tab_ext
  intro a ha
  rw [iteT_bit _ _ _ _ ha, mask_bit v a hv ha, given_bit _ _ _ _ hv ha, given_bit _ _ _ _ hv ha]
  cases h : a.testBit v
  · have := setb_same a v; rw [h] at this; simp [this]
  · have := setb_same a v; rw [h] at this; simp [this]

theorem given_mask (v : Nat) (b : Bool) (hv : v < 6) : given (mask v) v b = if b then onesT else 0#64 := by
  apply tab_ext
  intro a ha
  rw [given_bit _ _ _ _ hv ha, mask_bit _ _ hv (setb_lt a v b hv ha), setb_self a v b hv ha]
  cases b
  · simp
  · rw [if_pos rfl, onesT_bit a ha]

theorem given_mask_ne (v u : Nat) (b : Bool) (hv : v < 6) (hu : u < 6) (h : u ≠ v) : given (mask v) u b = mask v := by
  apply tab_ext
  intro a ha
  rw [given_bit _ _ _ _ hu ha, mask_bit _ _ hv (setb_lt a u b hu ha), mask_bit _ _ hv ha, setb_other a u v b hu hv ha (fun e => h e.symm)]

theorem iteT_ones (g h : Tab) : iteT onesT g h = g := by
  apply tab_ext
  intro a ha
  rw [iteT_bit _ _ _ _ ha, onesT_bit a ha, if_pos rfl]

theorem iteT_zero (g h : Tab) : iteT 0#64 g h = h := by
  apply tab_ext
  intro a ha
  rw [iteT_bit _ _ _ _ ha]
  simp

theorem given_join (g h : Tab) (v : Nat) (b : Bool) (hv : v < 6) (hg : hangs g v = false) (hh : hangs h v = false) : given (iteT (mask v) g h) v b = if b then g else h := by
  rw [given_iteT _ _ _ _ _ hv, given_of_not_hangs g v b hv hg, given_of_not_hangs h v b hv hh, given_mask _ _ hv]
  cases b
  · exact iteT_zero g h
  · exact iteT_ones g h

theorem filter_len_lt {p q : Nat → Bool} {l : List Nat} (himp : ∀ x ∈ l, q x = true → p x = true) {x : Nat} (hx : x ∈ l) (hp : p x = true) (hq : q x = false) : (l.filter q).length < (l.filter p).length := by
  have hle : ∀ l' : List Nat, (∀ x ∈ l', q x = true → p x = true) → (l'.filter q).length ≤ (l'.filter p).length := by
    intro l'
    induction l' with
    | nil => simp
    | cons y l' ih =>
      intro h
      have := ih (fun z hz => h z (List.mem_cons_of_mem _ hz))
      have hy := h y (List.mem_cons_self)
      rw [List.filter_cons, List.filter_cons]
      cases hqy : q y <;> cases hpy : p y <;> simp_all <;> omega
  induction l with
  | nil => simp at hx
  | cons y l ih =>
    rw [List.filter_cons, List.filter_cons]
    rcases List.mem_cons.1 hx with h | h
    · subst h
      rw [hp, hq]
      have := hle l (fun z hz => himp z (List.mem_cons_of_mem _ hz))
      simp; omega
    · have := ih (fun z hz => himp z (List.mem_cons_of_mem _ hz)) h
      have hy := himp y (List.mem_cons_self)
      cases hqy : q y <;> cases hpy : p y <;> simp_all <;> omega

/-- Of a function and its opposite the one that is true when all variables are. -/
def writtenT (f : Tab) : Tab := if f.getLsbD 63 then f else ~~~ f

theorem hangs_written (f : Tab) (v : Nat) (hv : v < 6) : hangs (writtenT f) v = hangs f v := by
  unfold writtenT
  split
  · rfl
  · exact hangs_not f v hv

/-- How many of the variables of an order a function hangs on. -/
def hangsOn (o : List Nat) (f : Tab) : Nat := (o.filter (hangs f)).length

theorem hangsOn_le (o : List Nat) (f : Tab) : hangsOn o f ≤ o.length := List.length_filter_le _ _

theorem hangsOn_written (o : List Nat) (f : Tab) (h6 : ∀ x ∈ o, x < 6) : hangsOn o (writtenT f) = hangsOn o f := by
  unfold hangsOn
  rw [List.filter_congr (fun x hx => hangs_written f x (h6 x hx))]

theorem hangsOn_given (o : List Nat) (f : Tab) (v : Nat) (b : Bool) (h6 : ∀ x ∈ o, x < 6) (hv : v ∈ o) (hh : hangs f v = true) : hangsOn o (given f v b) < hangsOn o f :=
  filter_len_lt (fun x hx h => hangs_given f v x b (h6 v hv) (h6 x hx) h) hv hh (hangs_given_self f v b (h6 v hv))

end Go.Proofs.Ytebfmcafmojlaaa

/-
  TABLES: the first variable on which a function hangs; the nodes that come out.
-/
namespace Go.Proofs.Ytebfmcafmojlaaa
set_option linter.unusedSimpArgs false
set_option linter.unusedVariables false

def topO (order : List Nat) (f : Tab) : Option Nat := order.find? (hangs f)

/-- The nodes of f behind those that there are already. -/
def nodesT (o : List Nat) : Nat → List Tab → Tab → List Tab
  | 0, l, _ => l
  | n + 1, l, f =>
    if writtenT f ∈ l then l else
    match topO o (writtenT f) with
    | none => l
    | some v => nodesT o n (nodesT o n l (given (writtenT f) v true)) (given (writtenT f) v false) ++ [writtenT f]

/-- The nodes of some functions. -/
def allT (o : List Nat) (fs : List Tab) : List Tab := fs.foldl (nodesT o (o.length + 1)) []

end Go.Proofs.Ytebfmcafmojlaaa

/-
  TABLES: how many nodes some functions of six variables can have.
-/
namespace Go.Proofs.Ytebfmcafmojlaaa
set_option linter.unusedSimpArgs false
set_option linter.unusedVariables false

theorem written_hangsOn (o : List Nat) (f : Tab) (h6 : ∀ x ∈ o, x < 6) : hangsOn o (writtenT f) = hangsOn o f := hangsOn_written o f h6

theorem topO_some {o : List Nat} {f : Tab} {v : Nat} (h : topO o f = some v) : v ∈ o ∧ hangs f v = true := ⟨List.mem_of_find?_eq_some h, List.find?_some h⟩

/-- What comes out hangs on no more. -/
theorem nodes_hangs {o : List Nat} (h6 : ∀ x ∈ o, x < 6) : ∀ (m : Nat) (l : List Tab) (f t : Tab), t ∈ nodesT o m l f → t ∈ l ∨ hangsOn o t ≤ hangsOn o f := by
  intro m
  induction m with
  | zero => intro l f t h; exact .inl h
  | succ m ih =>
    intro l f t h
    unfold nodesT at h
    split at h
    · exact .inl h
    · split at h
      · exact .inl h
      · rename_i v hv
        obtain ⟨hvo, hh⟩ := topO_some hv
        have g1 := hangsOn_given o (writtenT f) v true h6 hvo hh
        have g2 := hangsOn_given o (writtenT f) v false h6 hvo hh
        have g3 := hangsOn_written o f h6
        rcases List.mem_append.1 h with h | h
        · rcases ih _ _ _ h with h | h
          · rcases ih _ _ _ h with h | h
            · exact .inl h
            · right; omega
          · right; omega
        · simp at h
          subst h
          right; omega

theorem nodes_nodup {o : List Nat} (h6 : ∀ x ∈ o, x < 6) : ∀ (m : Nat) (l : List Tab) (f : Tab), l.Nodup → (nodesT o m l f).Nodup := by
  intro m
  induction m with
  | zero => intro l f h; exact h
  | succ m ih =>
    intro l f h
    unfold nodesT
    split
    · exact h
    · rename_i hn
      split
      · exact h
      · rename_i v hv
        obtain ⟨hvo, hh⟩ := topO_some hv
        have g1 := hangsOn_given o (writtenT f) v true h6 hvo hh
        have g2 := hangsOn_given o (writtenT f) v false h6 hvo hh
        rw [List.nodup_append]
        refine ⟨ih _ _ (ih _ _ h), by simp, ?_⟩
        intro a ha b hb e
        simp at hb
        subst hb; subst e
        rcases nodes_hangs h6 _ _ _ _ ha with h1 | h1
        · rcases nodes_hangs h6 _ _ _ _ h1 with h2 | h2
          · exact hn h2
          · omega
        · omega

theorem all_nodup {o : List Nat} (h6 : ∀ x ∈ o, x < 6) (fs : List Tab) : (allT o fs).Nodup := by
  unfold allT
  have : ∀ (fs : List Tab) (l : List Tab), l.Nodup → (fs.foldl (nodesT o (o.length + 1)) l).Nodup := by
    intro fs
    induction fs with
    | nil => intro l h; exact h
    | cons f fs ih => intro l h; exact ih _ (nodes_nodup h6 _ _ _ h)
  exact this fs [] (by simp)

/-- The functions that are left of f when the first i variables of the order have values. -/
def lv (o : List Nat) (f : Tab) : Nat → List Tab
  | 0 => [f]
  | i + 1 => (lv o f i).flatMap (fun g => [given g (o.getD i 0) true, given g (o.getD i 0) false])

theorem lv_len (o : List Nat) (f : Tab) (i : Nat) : (lv o f i).length = 2 ^ i := by
  induction i with
  | zero => rfl
  | succ i ih =>
    unfold lv
    have : ∀ l : List Tab, (l.flatMap (fun g => [given g (o.getD i 0) true, given g (o.getD i 0) false])).length = l.length * 2 := by
      intro l
      induction l with
      | nil => rfl
      | cons a l ih => rw [List.flatMap_cons, List.length_append, ih]; simp; omega
    rw [this, ih, Nat.pow_succ]

theorem written_not (f : Tab) : writtenT (~~~ f) = writtenT f := by
  unfold writtenT
  rw [BitVec.getLsbD_not]
  cases h : f.getLsbD 63
  · simp [h]
  · simp [h]

theorem written_cases (f : Tab) : writtenT f = f ∨ writtenT f = ~~~ f := by
  unfold writtenT
  split
  · exact .inl rfl
  · exact .inr rfl

theorem written_written (f : Tab) : writtenT (writtenT f) = writtenT f := by
  rcases written_cases f with h | h
  · rw [h, h]
  · rw [h, written_not, h]

/-- The same, or the opposite: so what is left of them. -/
theorem given_written {f g : Tab} (h : writtenT f = writtenT g) (v : Nat) (b : Bool) (hv : v < 6) : writtenT (given f v b) = writtenT (given g v b) := by
  have hh : f = g ∨ f = ~~~ g := by
    rcases written_cases f with h1 | h1 <;> rcases written_cases g with h2 | h2
    · exact .inl (by rw [← h1, ← h2, h])
    · exact .inr (by rw [← h1, ← h2, h])
    · right
      have : ~~~ f = g := by rw [← h1, ← h2, h]
      rw [← this]; simp
    · left
      have : ~~~ f = ~~~ g := by rw [← h1, ← h2, h]
      have h3 := congrArg (fun x => ~~~ x) this
      simpa using h3
  rcases hh with h | h
  · rw [h]
  · rw [h, given_not _ _ _ hv, written_not]

/-- t is what is left of f at level i, or its opposite; and it hangs on none of the variables ahead. -/
def AtLv (o : List Nat) (f : Tab) (i : Nat) (t : Tab) : Prop := (∃ g ∈ lv o f i, writtenT t = writtenT g) ∧ ∀ j, j < i → hangs t (o.getD j 0) = false

theorem AtLv.down {o : List Nat} (h6 : ∀ j, o.getD j 0 < 6) {f t : Tab} {i : Nat} (h : AtLv o f i t) (hn : hangs t (o.getD i 0) = false) : AtLv o f (i + 1) t := by
  obtain ⟨⟨g, hg, hw⟩, hj⟩ := h
  refine ⟨⟨given g (o.getD i 0) true, List.mem_flatMap.2 ⟨g, hg, by simp⟩, ?_⟩, ?_⟩
  · rw [← given_written hw _ _ (h6 i), given_of_not_hangs _ _ _ (h6 i) hn]
  · intro j hj'
    by_cases c : j = i
    · subst c; exact hn
    · exact hj j (by omega)

theorem AtLv.kid {o : List Nat} (h6 : ∀ j, o.getD j 0 < 6) {f t : Tab} {i : Nat} (h : AtLv o f i t) (b : Bool) : AtLv o f (i + 1) (given t (o.getD i 0) b) := by
  obtain ⟨⟨g, hg, hw⟩, hj⟩ := h
  refine ⟨⟨given g (o.getD i 0) b, List.mem_flatMap.2 ⟨g, hg, by cases b <;> simp⟩, given_written hw _ _ (h6 i)⟩, ?_⟩
  intro j hj'
  by_cases c : j = i
  · subst c; exact hangs_given_self _ _ _ (h6 j)
  · cases hc : hangs (given t (o.getD i 0) b) (o.getD j 0)
    · rfl
    · have := hangs_given _ _ _ _ (h6 i) (h6 j) hc
      rw [hj j (by omega)] at this
      cases this

theorem AtLv.written {o : List Nat} (h6 : ∀ j, o.getD j 0 < 6) {f t : Tab} {i : Nat} (h : AtLv o f i t) : AtLv o f i (writtenT t) := by
  obtain ⟨⟨g, hg, hw⟩, hj⟩ := h
  exact ⟨⟨g, hg, by rw [written_written]; exact hw⟩, fun j hj' => by rw [hangs_written _ _ (h6 j)]; exact hj j hj'⟩

theorem AtLv.to {o : List Nat} (h6 : ∀ j, o.getD j 0 < 6) {f t : Tab} {i k : Nat} (h : AtLv o f i t) (hk : i ≤ k) (hn : ∀ j, j < k → hangs t (o.getD j 0) = false) : AtLv o f k t := by
  induction k with
  | zero => have : i = 0 := by omega
            subst this; exact h
  | succ k ih =>
    by_cases c : i = k + 1
    · rw [← c]; exact h
    · exact (ih (by omega) (fun j hj => hn j (by omega))).down h6 (hn k (by omega))

/-- Where a node is: at the level of its first variable. -/
theorem nodes_at {o : List Nat} (h6 : ∀ j, o.getD j 0 < 6) {f0 : Tab} : ∀ (m : Nat) (l : List Tab) (f t : Tab) (i : Nat), AtLv o f0 i f → t ∈ nodesT o m l f → t ∈ l ∨ ∃ k, k < o.length ∧ AtLv o f0 k t ∧ topO o t = some (o.getD k 0) ∧ writtenT t = t := by
  intro m
  induction m with
  | zero => intro l f t i _ h; exact .inl h
  | succ m ih =>
    intro l f t i hat h
    unfold nodesT at h
    split at h
    · exact .inl h
    · split at h
      · exact .inl h
      · rename_i v hv
        have hv' := hv
        unfold topO at hv'
        rw [List.find?_eq_some_iff_getElem] at hv'
        obtain ⟨hh, k, hk, hvk, hbef⟩ := hv'
        have hvd : o.getD k 0 = v := by rw [List.getD_eq_getElem?_getD, List.getElem?_eq_getElem hk]; exact hvk
        have hat' := hat.written h6
        have hnh : ∀ j, j < k → hangs (writtenT f) (o.getD j 0) = false := by
          intro j hj
          have := hbef j hj
          rw [List.getD_eq_getElem?_getD, List.getElem?_eq_getElem (by omega)]
          simpa using this
        have hik : i ≤ k := by
          apply Nat.le_of_not_lt
          intro hlt
          have := hat'.2 k hlt
          rw [hvd, hh] at this
          cases this
        have hatk : AtLv o f0 k (writtenT f) := hat'.to h6 hik hnh
        rcases List.mem_append.1 h with h | h
        · rcases ih _ _ _ (k + 1) (by rw [← hvd]; exact hatk.kid h6 false) h with h | h
          · rcases ih _ _ _ (k + 1) (by rw [← hvd]; exact hatk.kid h6 true) h with h | h
            · exact .inl h
            · exact .inr h
          · exact .inr h
        · simp at h
          subst h
          exact .inr ⟨k, hk, hatk, by rw [hvd]; exact hv, written_written f⟩

end Go.Proofs.Ytebfmcafmojlaaa

/-
  TABLES: some functions of six variables have at most 15 nodes each, and 14 more.
-/
namespace Go.Proofs.Ytebfmcafmojlaaa
set_option linter.unusedSimpArgs false
set_option linter.unusedVariables false

def o6 : List Nat := [0, 1, 2, 3, 4, 5]
theorem o6_lt : ∀ x ∈ o6, x < 6 := by decide
theorem o6_get (j : Nat) : o6.getD j 0 < 6 := by
  by_cases h : j < 6
  · have : ∀ j : Fin 6, o6.getD j.1 0 < 6 := by decide
    exact this ⟨j, h⟩
  · have : o6.getD j 0 = 0 := by
      rw [List.getD_eq_getElem?_getD, List.getElem?_eq_none (by simp [o6]; omega)]; rfl
    omega
theorem o6_at (j : Nat) (h : j < 6) : o6.getD j 0 = j := by
  have : ∀ j : Fin 6, o6.getD j.1 0 = j.1 := by decide
  exact this ⟨j, h⟩

theorem set_all (a : Nat) (h : a < 64) : setb (setb (setb (setb (setb (setb a 0 true) 1 true) 2 true) 3 true) 4 true) 5 true = 63 := by
  have : ∀ a : Fin 64, setb (setb (setb (setb (setb (setb a.1 0 true) 1 true) 2 true) 3 true) 4 true) 5 true = 63 := by decide
  exact this ⟨a, h⟩

theorem bit_keep {t : Tab} {v : Nat} (hv : v < 6) (h : hangs t v = false) (a : Nat) (ha : a < 64) : t.getLsbD a = t.getLsbD (setb a v true) := by
  have := given_of_not_hangs t v true hv h
  have h2 := given_bit t v true a hv ha
  rw [this] at h2
  exact h2

/-- What hangs on nothing is a constant. -/
theorem const_tab (t : Tab) (h : ∀ v, v < 6 → hangs t v = false) : t = 0 ∨ t = onesT := by
  have hb : ∀ a, a < 64 → t.getLsbD a = t.getLsbD 63 := by
    intro a ha
    have l0 := setb_lt a 0 true (by omega) ha
    have l1 := setb_lt _ 1 true (by omega) l0
    have l2 := setb_lt _ 2 true (by omega) l1
    have l3 := setb_lt _ 3 true (by omega) l2
    have l4 := setb_lt _ 4 true (by omega) l3
    rw [bit_keep (v := 0) (by omega) (h 0 (by omega)) a ha, bit_keep (v := 1) (by omega) (h 1 (by omega)) _ l0, bit_keep (v := 2) (by omega) (h 2 (by omega)) _ l1, bit_keep (v := 3) (by omega) (h 3 (by omega)) _ l2, bit_keep (v := 4) (by omega) (h 4 (by omega)) _ l3, bit_keep (v := 5) (by omega) (h 5 (by omega)) _ l4, set_all a ha]
  cases c : t.getLsbD 63
  · left
    apply tab_ext
    intro a ha
    rw [hb a ha, c]; simp
  · right
    apply tab_ext
    intro a ha
    rw [hb a ha, c, onesT_bit a ha]

def low8 : List Tab := [0, onesT].flatMap (fun c2 => [0, onesT].flatMap (fun c1 => [0, onesT].map (fun c0 => iteT (mask 5) (iteT (mask 4) onesT c2) (iteT (mask 4) c1 c0))))
theorem low8_len : low8.length = 8 := rfl

theorem hangs_part {t : Tab} {v u : Nat} (b : Bool) (hv : v < 6) (hu : u < 6) (h : hangs t u = false) : hangs (given t v b) u = false := by
  cases c : hangs (given t v b) u
  · rfl
  · rw [hangs_given t v u b hv hu c] at h; cases h

theorem written_bit {t : Tab} (h : writtenT t = t) : t.getLsbD 63 = true := by
  cases c : t.getLsbD 63
  · exfalso
    unfold writtenT at h
    rw [c] at h
    simp only [Bool.false_eq_true, if_false] at h
    have := congrArg (fun x : Tab => x.getLsbD 63) h
    simp only [BitVec.getLsbD_not, c] at this
    simp at this
  · rfl

theorem low_mem (t : Tab) (h : ∀ v, v < 4 → hangs t v = false) (hw : writtenT t = t) : t ∈ low8 := by
  have hc : ∀ b b' : Bool, given (given t 5 b) 4 b' = 0 ∨ given (given t 5 b) 4 b' = onesT := by
    intro b b'
    apply const_tab
    intro v hv
    by_cases h4 : v = 4
    · subst h4; exact hangs_given_self _ _ _ (by omega)
    · by_cases h5 : v = 5
      · subst h5; exact hangs_part b' (by omega) (by omega) (hangs_given_self _ _ _ (by omega))
      · exact hangs_part b' (by omega) hv (hangs_part b (by omega) hv (h v (by omega)))
  have hb := written_bit hw
  have h3 : given (given t 5 true) 4 true = onesT := by
    rcases hc true true with e | e
    · exfalso
      have h1 := given_bit (given t 5 true) 4 true 63 (by omega) (by omega)
      have h2 : setb 63 4 true = 63 := by decide
      have h3 : setb 63 5 true = 63 := by decide
      rw [h2, given_bit t 5 true 63 (by omega) (by omega), h3, hb, e] at h1
      simp at h1
    · exact e
  have e5 := halves t 5 (by omega)
  have e41 := halves (given t 5 true) 4 (by omega)
  have e40 := halves (given t 5 false) 4 (by omega)
  rw [h3] at e41
  rw [← e5, ← e41, ← e40]
  unfold low8
  rw [List.mem_flatMap]
  refine ⟨given (given t 5 true) 4 false, by rcases hc true false with e | e <;> simp [e], ?_⟩
  rw [List.mem_flatMap]
  refine ⟨given (given t 5 false) 4 true, by rcases hc false true with e | e <;> simp [e], ?_⟩
  rw [List.mem_map]
  exact ⟨given (given t 5 false) 4 false, by rcases hc false false with e | e <;> simp [e], rfl⟩

theorem ones_hangs (v : Nat) (h : v < 6) : hangs onesT v = false := by
  have : ∀ v : Fin 6, hangs onesT v.1 = false := by decide
  exact this ⟨v, h⟩
theorem written_ones : writtenT onesT = onesT := by decide
theorem written_zero : writtenT 0 = onesT := by decide
theorem top_ones {o : List Nat} (h6 : ∀ x ∈ o, x < 6) : topO o onesT = none := by
  unfold topO
  rw [List.find?_eq_none]
  intro x hx
  rw [ones_hangs x (h6 x hx)]
  simp

theorem nodes_const {o : List Nat} (h6 : ∀ x ∈ o, x < 6) (m : Nat) (l : List Tab) (f : Tab) (hf : f = 0 ∨ f = onesT) : nodesT o m l f = l := by
  cases m with
  | zero => rfl
  | succ m =>
    have hw : writtenT f = onesT := by rcases hf with e | e <;> subst e; exact written_zero; exact written_ones
    unfold nodesT
    rw [hw, top_ones h6]
    simp

theorem mask_written (v : Nat) (h : v < 6) : writtenT (mask v) = mask v := by
  have : ∀ v : Fin 6, writtenT (mask v.1) = mask v.1 := by decide
  exact this ⟨v, h⟩
theorem mask_hangs (v u : Nat) (h : v < 6) (hu : u < 6) : hangs (mask v) u = decide (u = v) := by
  have : ∀ v u : Fin 6, hangs (mask v.1) u.1 = decide (u.1 = v.1) := by decide
  exact this ⟨v, h⟩ ⟨u, hu⟩

theorem nodes_mask {o : List Nat} (h6 : ∀ x ∈ o, x < 6) (m : Nat) (l : List Tab) (v : Nat) (hv : v < 6) : nodesT o m l (mask v) = l ∨ nodesT o m l (mask v) = l ++ [mask v] := by
  cases m with
  | zero => exact .inl rfl
  | succ m =>
    unfold nodesT
    rw [mask_written v hv]
    split
    · exact .inl rfl
    · split
      · exact .inl rfl
      · rename_i u hu
        obtain ⟨huo, hh⟩ := topO_some hu
        rw [mask_hangs v u hv (h6 u huo)] at hh
        have : u = v := of_decide_eq_true hh
        subst this
        right
        rw [nodes_const h6 m l _ (by rw [given_mask _ _ hv]; right; rfl), nodes_const h6 m l _ (by rw [given_mask _ _ hv]; left; rfl)]

theorem fold_at {o : List Nat} {m : Nat} : ∀ (fs : List Tab) (l : List Tab) (t : Tab), t ∈ fs.foldl (nodesT o m) l → t ∈ l ∨ ∃ f ∈ fs, ∃ l', t ∈ nodesT o m l' f ∧ t ∉ l' := by
  intro fs
  induction fs with
  | nil => intro l t h; exact .inl h
  | cons f fs ih =>
    intro l t h
    rcases ih _ _ h with h | ⟨g, hg, l', h1, h2⟩
    · by_cases c : t ∈ l
      · exact .inl c
      · exact .inr ⟨f, by simp, l, h, c⟩
    · exact .inr ⟨g, List.mem_cons_of_mem _ hg, l', h1, h2⟩

def upper (f : Tab) : List Tab := (lv o6 f 0 ++ lv o6 f 1 ++ lv o6 f 2 ++ lv o6 f 3).map writtenT
theorem upper_len (f : Tab) : (upper f).length = 15 := by
  unfold upper
  rw [List.length_map, List.length_append, List.length_append, List.length_append, lv_len, lv_len, lv_len, lv_len]
theorem uppers_len (F : List Tab) : (F.flatMap upper).length = 15 * F.length := by
  induction F with
  | nil => rfl
  | cons a l ih => rw [List.flatMap_cons, List.length_append, ih, upper_len, List.length_cons]; omega

/-- A variable, a constant, or one of F. -/
def FewOf (F : List Tab) (f : Tab) : Prop := (∃ v, v < 6 ∧ f = mask v) ∨ f ∈ F ∨ f = 0 ∨ f = onesT

theorem all_le (F fs : List Tab) (h : ∀ f ∈ fs, FewOf F f) : (allT o6 fs).length ≤ 15 * F.length + 14 := by
  have hsub : ∀ t ∈ allT o6 fs, t ∈ F.flatMap upper ++ (o6.map mask ++ low8) := by
    intro t ht
    unfold allT at ht
    rcases fold_at fs [] t ht with h0 | ⟨f, hf, l', h1, h2⟩
    · simp at h0
    · rcases h f hf with ⟨v, hv, rfl⟩ | hF | hc
      · apply List.mem_append_right
        apply List.mem_append_left
        rw [List.mem_map]
        refine ⟨v, ?_, ?_⟩
        · have : ∀ v : Fin 6, v.1 ∈ o6 := by decide
          exact this ⟨v, hv⟩
        · rcases nodes_mask o6_lt (o6.length + 1) l' v hv with e | e
          · rw [e] at h1; exact absurd h1 h2
          · rw [e] at h1
            rcases List.mem_append.1 h1 with e | e
            · exact absurd e h2
            · simp at e; exact e.symm
      · rcases nodes_at o6_get (f0 := f) _ _ _ _ 0 ⟨⟨f, by simp [lv], rfl⟩, fun j hj => by omega⟩ h1 with e | ⟨k, hk, hat, htop, hw⟩
        · exact absurd e h2
        · by_cases hk4 : k < 4
          · apply List.mem_append_left
            rw [List.mem_flatMap]
            refine ⟨f, hF, ?_⟩
            obtain ⟨⟨g, hg, hgw⟩, _⟩ := hat
            unfold upper
            rw [List.mem_map]
            refine ⟨g, ?_, by rw [← hgw]; exact hw⟩
            have : k = 0 ∨ k = 1 ∨ k = 2 ∨ k = 3 := by omega
            rcases this with rfl | rfl | rfl | rfl <;> simp [hg]
          · apply List.mem_append_right
            apply List.mem_append_right
            apply low_mem t ?_ hw
            intro v hv
            have := hat.2 v (by omega)
            rw [o6_at v (by omega)] at this
            exact this
      · rw [nodes_const o6_lt _ _ _ hc] at h1
        exact absurd h1 h2
  have := List.Nodup.length_le_of_subset (all_nodup o6_lt fs) hsub
  rw [List.length_append, List.length_append, uppers_len, List.length_map, low8_len] at this
  have h6 : o6.length = 6 := rfl
  omega

/-- Of variables alone there are no more nodes than variables. -/
theorem all_masks {o : List Nat} (h6 : ∀ x ∈ o, x < 6) (fs : List Tab) (h : ∀ f ∈ fs, FewOf [] f) : (allT o fs).length ≤ fs.length := by
  unfold allT
  have : ∀ (fs : List Tab) (l : List Tab), (∀ f ∈ fs, FewOf [] f) → (fs.foldl (nodesT o (o.length + 1)) l).length ≤ l.length + fs.length := by
    intro fs
    induction fs with
    | nil => intro l _; simp
    | cons f fs ih =>
      intro l h
      have h1 := ih (nodesT o (o.length + 1) l f) (fun g hg => h g (List.mem_cons_of_mem _ hg))
      have h2 : (nodesT o (o.length + 1) l f).length ≤ l.length + 1 := by
        rcases h f (by simp) with ⟨v, hv, rfl⟩ | hF | hc
        · rcases nodes_mask h6 (o.length + 1) l v hv with e | e <;> rw [e] <;> simp
        · simp at hF
        · rw [nodes_const h6 _ _ _ hc]; omega
      simp only [List.foldl_cons, List.length_cons]
      omega
  have := this fs [] h
  simpa using this

end Go.Proofs.Ytebfmcafmojlaaa

/-
  TABLES: any order of six variables; all of some variables, and an odd number of them.
-/
namespace Go.Proofs.Ytebfmcafmojlaaa
set_option linter.unusedSimpArgs false
set_option linter.unusedVariables false

structure Ord6 (o : List Nat) : Prop where
  nodup : o.Nodup
  mem : ∀ v, v ∈ o ↔ v < 6

theorem Ord6.perm {o : List Nat} (h : Ord6 o) : o.Perm (List.range 6) := by
  rw [List.perm_ext_iff_of_nodup h.nodup List.nodup_range]
  intro a
  rw [h.mem, List.mem_range]
theorem Ord6.len {o : List Nat} (h : Ord6 o) : o.length = 6 := by rw [h.perm.length_eq]; rfl
theorem Ord6.lt {o : List Nat} (h : Ord6 o) : ∀ x ∈ o, x < 6 := fun x hx => (h.mem x).1 hx
theorem Ord6.get {o : List Nat} (h : Ord6 o) (j : Nat) : o.getD j 0 < 6 := by
  rw [List.getD_eq_getElem?_getD]
  cases c : o[j]? with
  | none => simp
  | some v => exact h.lt v (List.mem_of_getElem? c)
theorem Ord6.range : Ord6 (List.range 6) := ⟨List.nodup_range, fun v => List.mem_range⟩
theorem Ord6.o6 : Ord6 o6 := Ord6.range

theorem Ord6.parts {o : List Nat} (h : Ord6 o) : ∃ a b c d e f, o = [a, b, c, d, e, f] := by
  have := h.len
  match o, this with
  | [a, b, c, d, e, f], _ => exact ⟨a, b, c, d, e, f, rfl⟩

def low8O (u v : Nat) : List Tab := [0, onesT].flatMap (fun c2 => [0, onesT].flatMap (fun c1 => [0, onesT].map (fun c0 => iteT (mask u) (iteT (mask v) onesT c2) (iteT (mask v) c1 c0))))
theorem low8O_len (u v : Nat) : (low8O u v).length = 8 := rfl

theorem set63 (v : Nat) (h : v < 6) : setb 63 v true = 63 := by
  have : ∀ v : Fin 6, setb 63 v.1 true = 63 := by decide
  exact this ⟨v, h⟩

theorem low_memO (u v : Nat) (hu : u < 6) (hv : v < 6) (t : Tab) (h : ∀ x, x < 6 → x ≠ u → x ≠ v → hangs t x = false) (hw : writtenT t = t) : t ∈ low8O u v := by
  have hc : ∀ b b' : Bool, given (given t u b) v b' = 0 ∨ given (given t u b) v b' = onesT := by
    intro b b'
    apply const_tab
    intro x hx
    by_cases h4 : x = v
    · subst h4; exact hangs_given_self _ _ _ hx
    · by_cases h5 : x = u
      · subst h5; exact hangs_part b' hv hx (hangs_given_self _ _ _ hx)
      · exact hangs_part b' hv hx (hangs_part b hu hx (h x hx h5 h4))
  have hb := written_bit hw
  have h3 : given (given t u true) v true = onesT := by
    rcases hc true true with e | e
    · exfalso
      have h1 := given_bit (given t u true) v true 63 hv (by omega)
      rw [set63 v hv, given_bit t u true 63 hu (by omega), set63 u hu, hb, e] at h1
      simp at h1
    · exact e
  have e5 := halves t u hu
  have e41 := halves (given t u true) v hv
  have e40 := halves (given t u false) v hv
  rw [h3] at e41
  rw [← e5, ← e41, ← e40]
  unfold low8O
  rw [List.mem_flatMap]
  refine ⟨given (given t u true) v false, by rcases hc true false with e | e <;> simp [e], ?_⟩
  rw [List.mem_flatMap]
  refine ⟨given (given t u false) v true, by rcases hc false true with e | e <;> simp [e], ?_⟩
  rw [List.mem_map]
  exact ⟨given (given t u false) v false, by rcases hc false false with e | e <;> simp [e], rfl⟩

def upperO (o : List Nat) (f : Tab) : List Tab := (lv o f 0 ++ lv o f 1 ++ lv o f 2 ++ lv o f 3).map writtenT
theorem upperO_len (o : List Nat) (f : Tab) : (upperO o f).length = 15 := by
  unfold upperO
  rw [List.length_map, List.length_append, List.length_append, List.length_append, lv_len, lv_len, lv_len, lv_len]
theorem uppersO_len (o : List Nat) (F : List Tab) : (F.flatMap (upperO o)).length = 15 * F.length := by
  induction F with
  | nil => rfl
  | cons a l ih => rw [List.flatMap_cons, List.length_append, ih, upperO_len, List.length_cons]; omega

theorem all_leO {o : List Nat} (ho : Ord6 o) (F fs : List Tab) (h : ∀ f ∈ fs, FewOf F f) : (allT o fs).length ≤ 15 * F.length + 14 := by
  obtain ⟨a, b, c, d, e, g, eo⟩ := ho.parts
  have he : o.getD 4 0 = e := by rw [eo]; rfl
  have hg : o.getD 5 0 = g := by rw [eo]; rfl
  have hsub : ∀ t ∈ allT o fs, t ∈ F.flatMap (upperO o) ++ (o.map mask ++ low8O g e) := by
    intro t ht
    unfold allT at ht
    rcases fold_at fs [] t ht with h0 | ⟨f, hf, l', h1, h2⟩
    · simp at h0
    · rcases h f hf with ⟨v, hv, rfl⟩ | hF | hc
      · apply List.mem_append_right
        apply List.mem_append_left
        rw [List.mem_map]
        refine ⟨v, (ho.mem v).2 hv, ?_⟩
        rcases nodes_mask ho.lt (o.length + 1) l' v hv with e | e
        · rw [e] at h1; exact absurd h1 h2
        · rw [e] at h1
          rcases List.mem_append.1 h1 with e | e
          · exact absurd e h2
          · simp at e; exact e.symm
      · rcases nodes_at ho.get (f0 := f) _ _ _ _ 0 ⟨⟨f, by simp [lv], rfl⟩, fun j hj => by omega⟩ h1 with e | ⟨k, hk, hat, htop, hw⟩
        · exact absurd e h2
        · by_cases hk4 : k < 4
          · apply List.mem_append_left
            rw [List.mem_flatMap]
            refine ⟨f, hF, ?_⟩
            obtain ⟨⟨g, hg, hgw⟩, _⟩ := hat
            unfold upperO
            rw [List.mem_map]
            refine ⟨g, ?_, by rw [← hgw]; exact hw⟩
            have : k = 0 ∨ k = 1 ∨ k = 2 ∨ k = 3 := by omega
            rcases this with rfl | rfl | rfl | rfl <;> simp [hg]
          · apply List.mem_append_right
            apply List.mem_append_right
            refine low_memO g e (by rw [← hg]; exact ho.get 5) (by rw [← he]; exact ho.get 4) t ?_ hw
            intro x hx hxg hxe
            have hxo := (ho.mem x).2 hx
            rw [eo] at hxo
            simp only [List.mem_cons, List.not_mem_nil, or_false] at hxo
            have hj : ∀ j, j < 4 → hangs t (o.getD j 0) = false := fun j hj => hat.2 j (by omega)
            rw [eo] at hj
            rcases hxo with rfl | rfl | rfl | rfl | rfl | rfl
            · exact hj 0 (by omega)
            · exact hj 1 (by omega)
            · exact hj 2 (by omega)
            · exact hj 3 (by omega)
            · exact absurd rfl hxe
            · exact absurd rfl hxg
      · rw [nodes_const ho.lt _ _ _ hc] at h1
        exact absurd h1 h2
  have := List.Nodup.length_le_of_subset (all_nodup ho.lt fs) hsub
  rw [List.length_append, List.length_append, uppersO_len, List.length_map, low8O_len, ho.len] at this
  omega

/-- All of some variables; an odd number of them. -/
def allF : List Nat → Tab
  | [] => onesT
  | v :: vs => iteT (mask v) (allF vs) 0
def oddF : List Nat → Tab
  | [] => 0
  | v :: vs => iteT (mask v) (~~~ oddF vs) (oddF vs)

theorem zeroT_bit (a : Nat) : (0 : Tab).getLsbD a = false := by simp
theorem notB_bit (f : Tab) (a : Nat) (ha : a < 64) : (~~~ f).getLsbD a = !(f.getLsbD a) := by
  rw [BitVec.getLsbD_not]
  simp [ha]

theorem allF_bit {vs : List Nat} (h : ∀ v ∈ vs, v < 6) (a : Nat) (ha : a < 64) : (allF vs).getLsbD a = vs.all (fun v => a.testBit v) := by
  induction vs with
  | nil => exact onesT_bit a ha
  | cons v vs ih =>
    show (iteT (mask v) (allF vs) 0).getLsbD a = _
    rw [iteT_bit _ _ _ _ ha, mask_bit v a (h v (by simp)) ha, ih (fun x hx => h x (by simp [hx])), List.all_cons, zeroT_bit]
    cases a.testBit v <;> simp

def parB (a : Nat) : List Nat → Bool
  | [] => false
  | v :: vs => a.testBit v ^^ parB a vs

theorem oddF_bit {vs : List Nat} (h : ∀ v ∈ vs, v < 6) (a : Nat) (ha : a < 64) : (oddF vs).getLsbD a = parB a vs := by
  induction vs with
  | nil => simp [oddF, parB]
  | cons v vs ih =>
    show (iteT (mask v) (~~~ oddF vs) (oddF vs)).getLsbD a = _
    rw [iteT_bit _ _ _ _ ha, mask_bit v a (h v (by simp)) ha, notB_bit _ _ ha, ih (fun x hx => h x (by simp [hx]))]
    show _ = (a.testBit v ^^ parB a vs)
    cases a.testBit v <;> simp

theorem parB_perm {a : Nat} {u v : List Nat} (h : u.Perm v) : parB a u = parB a v := by
  induction h with
  | nil => rfl
  | cons x _ ih => simp [parB, ih]
  | swap x y l => simp only [parB]; cases a.testBit x <;> cases a.testBit y <;> simp
  | trans _ _ h1 h2 => exact h1.trans h2

theorem allF_perm {u v : List Nat} (h : u.Perm v) (hu : ∀ x ∈ u, x < 6) : allF u = allF v := by
  apply tab_ext
  intro a ha
  rw [allF_bit hu a ha, allF_bit (fun x hx => hu x (h.mem_iff.2 hx)) a ha]
  exact h.all_eq
theorem oddF_perm {u v : List Nat} (h : u.Perm v) (hu : ∀ x ∈ u, x < 6) : oddF u = oddF v := by
  apply tab_ext
  intro a ha
  rw [oddF_bit hu a ha, oddF_bit (fun x hx => hu x (h.mem_iff.2 hx)) a ha]
  exact parB_perm h

theorem given_zero (v : Nat) (b : Bool) (hv : v < 6) : given 0 v b = 0 := by
  apply tab_ext
  intro a ha
  rw [given_bit _ _ _ _ hv ha, zeroT_bit, zeroT_bit]
theorem given_ones (v : Nat) (b : Bool) (hv : v < 6) : given onesT v b = onesT := by
  apply tab_ext
  intro a ha
  rw [given_bit _ _ _ _ hv ha, onesT_bit a ha, onesT_bit _ (setb_lt a v b hv ha)]

theorem allF_hangs {vs : List Nat} (h : ∀ v ∈ vs, v < 6) {u : Nat} (hu : u < 6) (hn : u ∉ vs) (b : Bool) : given (allF vs) u b = allF vs := by
  induction vs with
  | nil => exact given_ones u b hu
  | cons v vs ih =>
    simp only [List.mem_cons, not_or] at hn
    show given (iteT (mask v) (allF vs) 0) u b = iteT (mask v) (allF vs) 0
    rw [given_iteT _ _ _ _ _ hu, given_mask_ne v u b (h v (by simp)) hu hn.1, ih (fun x hx => h x (by simp [hx])) hn.2, given_zero u b hu]
theorem oddF_hangs {vs : List Nat} (h : ∀ v ∈ vs, v < 6) {u : Nat} (hu : u < 6) (hn : u ∉ vs) (b : Bool) : given (oddF vs) u b = oddF vs := by
  induction vs with
  | nil => exact given_zero u b hu
  | cons v vs ih =>
    simp only [List.mem_cons, not_or] at hn
    show given (iteT (mask v) (~~~ oddF vs) (oddF vs)) u b = iteT (mask v) (~~~ oddF vs) (oddF vs)
    rw [given_iteT _ _ _ _ _ hu, given_mask_ne v u b (h v (by simp)) hu hn.1, given_not _ _ _ hu, ih (fun x hx => h x (by simp [hx])) hn.2]

theorem allF_head {v : Nat} {vs : List Nat} (h : ∀ x ∈ v :: vs, x < 6) (hn : v ∉ vs) (b : Bool) : given (allF (v :: vs)) v b = if b then allF vs else 0 := by
  have hv := h v (by simp)
  show given (iteT (mask v) (allF vs) 0) v b = _
  rw [given_iteT _ _ _ _ _ hv, given_mask v b hv, allF_hangs (fun x hx => h x (by simp [hx])) hv hn, given_zero v b hv]
  cases b
  · exact iteT_zero _ _
  · exact iteT_ones _ _
theorem oddF_head {v : Nat} {vs : List Nat} (h : ∀ x ∈ v :: vs, x < 6) (hn : v ∉ vs) (b : Bool) : given (oddF (v :: vs)) v b = if b then ~~~ oddF vs else oddF vs := by
  have hv := h v (by simp)
  show given (iteT (mask v) (~~~ oddF vs) (oddF vs)) v b = _
  rw [given_iteT _ _ _ _ _ hv, given_mask v b hv, given_not _ _ _ hv, oddF_hangs (fun x hx => h x (by simp [hx])) hv hn]
  cases b
  · exact iteT_zero _ _
  · exact iteT_ones _ _

theorem notT_ne (f : Tab) : ~~~ f ≠ f := by
  intro h
  have := congrArg (fun x : Tab => x.getLsbD 0) h
  simp only [BitVec.getLsbD_not] at this
  cases c : f.getLsbD 0 <;> simp [c] at this

theorem allF_63 {vs : List Nat} (h : ∀ v ∈ vs, v < 6) : (allF vs).getLsbD 63 = true := by
  rw [allF_bit h 63 (by omega), List.all_eq_true]
  intro v hv
  have : ∀ v : Fin 6, (63 : Nat).testBit v.1 = true := by decide
  exact this ⟨v, h v hv⟩
theorem allF_written {vs : List Nat} (h : ∀ v ∈ vs, v < 6) : writtenT (allF vs) = allF vs := by
  unfold writtenT
  rw [allF_63 h]
  simp
theorem allF_ne {vs : List Nat} (h : ∀ v ∈ vs, v < 6) : allF vs ≠ 0 := by
  intro e
  have := allF_63 h
  rw [e] at this
  simp at this

/-- On what they hang. -/
theorem allF_on {vs : List Nat} (h : ∀ v ∈ vs, v < 6) {u : Nat} (hu : u < 6) (hd : vs.Nodup) : hangs (allF vs) u = decide (u ∈ vs) := by
  by_cases c : u ∈ vs
  · rw [decide_eq_true c, hangs_true_iff]
    have hp : vs.Perm (u :: vs.erase u) := List.perm_cons_erase c
    have hd' : (u :: vs.erase u).Nodup := hp.nodup_iff.1 hd
    have h' : ∀ x ∈ u :: vs.erase u, x < 6 := fun x hx => h x (hp.mem_iff.2 hx)
    rw [allF_perm hp h, allF_head h' (List.nodup_cons.1 hd').1, allF_head h' (List.nodup_cons.1 hd').1]
    exact allF_ne (fun x hx => h' x (by simp [hx]))
  · rw [decide_eq_false c, hangs_false_iff, allF_hangs h hu c, allF_hangs h hu c]
theorem oddF_on {vs : List Nat} (h : ∀ v ∈ vs, v < 6) {u : Nat} (hu : u < 6) (hd : vs.Nodup) : hangs (oddF vs) u = decide (u ∈ vs) := by
  by_cases c : u ∈ vs
  · rw [decide_eq_true c, hangs_true_iff]
    have hp : vs.Perm (u :: vs.erase u) := List.perm_cons_erase c
    have hd' : (u :: vs.erase u).Nodup := hp.nodup_iff.1 hd
    have h' : ∀ x ∈ u :: vs.erase u, x < 6 := fun x hx => h x (hp.mem_iff.2 hx)
    rw [oddF_perm hp h, oddF_head h' (List.nodup_cons.1 hd').1, oddF_head h' (List.nodup_cons.1 hd').1]
    exact notT_ne _
  · rw [decide_eq_false c, hangs_false_iff, oddF_hangs h hu c, oddF_hangs h hu c]

/-- The first of a part of the order. -/
theorem find_sub {o vs : List Nat} (hs : vs.Sublist o) (hd : o.Nodup) : o.find? (fun u => decide (u ∈ vs)) = vs.head? := by
  induction hs with
  | slnil => rfl
  | @cons l1 l2 a hs ih =>
    rw [List.nodup_cons] at hd
    have : a ∉ l1 := fun e => hd.1 (hs.subset e)
    rw [List.find?_cons, decide_eq_false this]
    exact ih hd.2
  | @cons_cons l1 l2 a hs ih => simp

theorem find_congr {o : List Nat} {p q : Nat → Bool} (h : ∀ x ∈ o, p x = q x) : o.find? p = o.find? q := by
  induction o with
  | nil => rfl
  | cons a o ih =>
    rw [List.find?_cons, List.find?_cons, h a (by simp), ih (fun x hx => h x (by simp [hx]))]

theorem top_all {o vs : List Nat} (ho : Ord6 o) (hs : vs.Sublist o) : topO o (allF vs) = vs.head? := by
  have h6 : ∀ v ∈ vs, v < 6 := fun v hv => ho.lt v (hs.subset hv)
  rw [← find_sub hs ho.nodup]
  exact find_congr (fun x hx => allF_on h6 (ho.lt x hx) (hs.nodup ho.nodup))
theorem top_odd {o vs : List Nat} (ho : Ord6 o) (hs : vs.Sublist o) : topO o (writtenT (oddF vs)) = vs.head? := by
  have h6 : ∀ v ∈ vs, v < 6 := fun v hv => ho.lt v (hs.subset hv)
  rw [← find_sub hs ho.nodup]
  exact find_congr (fun x hx => by rw [hangs_written _ _ (ho.lt x hx)]; exact oddF_on h6 (ho.lt x hx) (hs.nodup ho.nodup))

theorem nodes_written (o : List Nat) (m : Nat) (l : List Tab) (f g : Tab) (h : writtenT f = writtenT g) : nodesT o m l f = nodesT o m l g := by
  cases m with
  | zero => rfl
  | succ m => unfold nodesT; rw [h]

theorem nodes_all {o : List Nat} (ho : Ord6 o) : ∀ (vs : List Nat) (m : Nat) (l : List Tab), vs.Sublist o → vs.length ≤ m → (∀ s, s.Sublist vs → s ≠ [] → allF s ∉ l) → (nodesT o m l (allF vs)).length = l.length + vs.length ∧ ∀ t ∈ nodesT o m l (allF vs), t ∈ l ∨ ∃ s, s.Sublist vs ∧ t = allF s := by
  intro vs
  induction vs with
  | nil =>
    intro m l _ _ _
    rw [nodes_const ho.lt m l _ (.inr rfl : allF [] = 0 ∨ allF [] = onesT)]
    exact ⟨by simp, fun t h => .inl h⟩
  | cons v vs ih =>
    intro m l hs hm hn
    obtain ⟨m, rfl⟩ : ∃ m', m = m' + 1 := ⟨m - 1, by simp at hm; omega⟩
    have h6 : ∀ x ∈ v :: vs, x < 6 := fun x hx => ho.lt x (hs.subset hx)
    have hd : (v :: vs).Nodup := hs.nodup ho.nodup
    have hhead := allF_head h6 (List.nodup_cons.1 hd).1
    have htop := top_all ho hs
    unfold nodesT
    rw [allF_written h6, if_neg (hn _ (List.Sublist.refl _) (by simp)), htop]
    simp only [List.head?_cons]
    rw [hhead, hhead]
    simp only [if_true, Bool.false_eq_true, if_false]
    rw [nodes_const ho.lt m _ 0 (.inl rfl)]
    obtain ⟨h1, h2⟩ := ih m l ((List.sublist_cons_self v vs).trans hs) (by simp at hm; omega) (fun s hs' he => hn s (hs'.trans (List.sublist_cons_self v vs)) he)
    refine ⟨by rw [List.length_append, h1]; simp; omega, ?_⟩
    intro t ht
    rcases List.mem_append.1 ht with e | e
    · rcases h2 t e with e | ⟨s, h3, h4⟩
      · exact .inl e
      · exact .inr ⟨s, h3.trans (List.sublist_cons_self v vs), h4⟩
    · simp at e
      exact .inr ⟨v :: vs, List.Sublist.refl _, e⟩

/-- Once more, nothing comes. -/
theorem nodes_again {o : List Nat} {m : Nat} {l : List Tab} {f : Tab} (h : writtenT f ∈ l) : nodesT o m l f = l := by
  cases m with
  | zero => rfl
  | succ m => unfold nodesT; rw [if_pos h]

theorem nodes_self {o : List Nat} {m : Nat} {l : List Tab} {f : Tab} {v : Nat} (h : topO o (writtenT f) = some v) : writtenT f ∈ nodesT o (m + 1) l f := by
  unfold nodesT
  by_cases c : writtenT f ∈ l
  · rw [if_pos c]; exact c
  · rw [if_neg c, h]; simp

theorem odd_one (v : Nat) (hv : v < 6) : oddF [v] = mask v ∧ allF [v] = mask v := by
  constructor
  · show iteT (mask v) (~~~ (0 : Tab)) 0 = mask v
    apply tab_ext
    intro a ha
    rw [iteT_bit _ _ _ _ ha, notB_bit _ _ ha, zeroT_bit]
    cases (mask v).getLsbD a <;> rfl
  · show iteT (mask v) onesT 0 = mask v
    apply tab_ext
    intro a ha
    rw [iteT_bit _ _ _ _ ha, onesT_bit a ha, zeroT_bit]
    cases (mask v).getLsbD a <;> rfl

theorem odd_step {o : List Nat} (ho : Ord6 o) {v : Nat} {vs : List Nat} {m : Nat} {l : List Tab} (hs : (v :: vs).Sublist o) (hm : 1 ≤ m) (hn : writtenT (oddF (v :: vs)) ∉ l) : nodesT o (m + 1) l (oddF (v :: vs)) = nodesT o m l (oddF vs) ++ [writtenT (oddF (v :: vs))] := by
  have h6 : ∀ x ∈ v :: vs, x < 6 := fun x hx => ho.lt x (hs.subset hx)
  have hd : (v :: vs).Nodup := hs.nodup ho.nodup
  have hhead := oddF_head h6 (List.nodup_cons.1 hd).1
  have hv := h6 v (by simp)
  have hsv : vs.Sublist o := (List.sublist_cons_self v vs).trans hs
  have hk : ∀ b, writtenT (given (writtenT (oddF (v :: vs))) v b) = writtenT (oddF vs) := by
    intro b
    rw [given_written (written_written _) v b hv, hhead]
    cases b
    · rfl
    · exact written_not _
  have htop := top_odd ho hs
  conv => lhs; unfold nodesT
  rw [if_neg hn, htop]
  simp only [List.head?_cons]
  rw [nodes_written o m _ _ _ (hk true), nodes_written o m _ _ _ (hk false)]
  congr 1
  cases vs with
  | nil =>
    rw [nodes_const ho.lt m _ _ (.inl rfl : oddF [] = 0 ∨ oddF [] = onesT)]
  | cons u us =>
    obtain ⟨m, rfl⟩ : ∃ m', m = m' + 1 := ⟨m - 1, by omega⟩
    exact nodes_again (nodes_self (top_odd ho hsv))

theorem nodes_odd {o : List Nat} (ho : Ord6 o) : ∀ (vs : List Nat) (m : Nat) (l : List Tab), vs.Sublist o → vs.length ≤ m → (∀ s, s.Sublist vs → s ≠ [] → writtenT (oddF s) ∉ l) → (nodesT o (m + 1) l (oddF vs)).length = l.length + vs.length := by
  intro vs
  induction vs with
  | nil =>
    intro m l _ _ _
    rw [nodes_const ho.lt _ l _ (.inl rfl : oddF [] = 0 ∨ oddF [] = onesT)]
    simp
  | cons v vs ih =>
    intro m l hs hm hn
    obtain ⟨m, rfl⟩ : ∃ m', m = m' + 1 := ⟨m - 1, by simp at hm; omega⟩
    rw [odd_step ho hs (by omega) (hn _ (List.Sublist.refl _) (by simp)), List.length_append, ih m l ((List.sublist_cons_self v vs).trans hs) (by simp at hm; omega) (fun s hs' he => hn s (hs'.trans (List.sublist_cons_self v vs)) he)]
    simp
    omega

/-- Behind the nodes of 'all': the last variable is there already. -/
theorem nodes_odd2 {o : List Nat} (ho : Ord6 o) : ∀ (v : Nat) (vs : List Nat) (m : Nat) (l : List Tab), (v :: vs).Sublist o → vs.length ≤ m → mask ((v :: vs).getLast (by simp)) ∈ l → (∀ s, s.Sublist (v :: vs) → 2 ≤ s.length → writtenT (oddF s) ∉ l) → (nodesT o (m + 1) l (oddF (v :: vs))).length = l.length + vs.length := by
  intro v vs
  induction vs generalizing v with
  | nil =>
    intro m l hs hm hl hn
    have hv := ho.lt v (hs.subset (by simp))
    rw [nodes_again (by rw [(odd_one v hv).1, mask_written v hv]; exact hl)]
    simp
  | cons u us ih =>
    intro m l hs hm hl hn
    obtain ⟨m, rfl⟩ : ∃ m', m = m' + 1 := ⟨m - 1, by simp at hm; omega⟩
    rw [odd_step ho hs (by omega) (hn _ (List.Sublist.refl _) (by simp)), List.length_append, ih u m l ((List.sublist_cons_self v _).trans hs) (by simp at hm; omega) (by simpa using hl) (fun s hs' he => hn s (hs'.trans (List.sublist_cons_self v _)) he)]
    simp
    omega

theorem allF_part {vs : List Nat} (h : ∀ v ∈ vs, v < 6) (hd : vs.Nodup) {u : Nat} (hu : u ∈ vs) : given (allF vs) u false = 0 := by
  have hp : vs.Perm (u :: vs.erase u) := List.perm_cons_erase hu
  have hd' : (u :: vs.erase u).Nodup := hp.nodup_iff.1 hd
  have h' : ∀ x ∈ u :: vs.erase u, x < 6 := fun x hx => h x (hp.mem_iff.2 hx)
  rw [allF_perm hp h, allF_head h' (List.nodup_cons.1 hd').1]
  rfl

theorem odd_not_all {s s' : List Nat} (h : ∀ v ∈ s, v < 6) (h' : ∀ v ∈ s', v < 6) (hd : s.Nodup) (hd' : s'.Nodup) (h2 : 2 ≤ s.length) : writtenT (oddF s) ≠ allF s' := by
  intro e
  match s, h2 with
  | v :: u :: r, _ =>
    have hv := h v (by simp)
    have hu := h u (by simp)
    rw [List.nodup_cons] at hd
    have hon : hangs (oddF (v :: u :: r)) v = true := by
      rw [oddF_on h hv (List.nodup_cons.2 hd)]
      simp
    have hon' : hangs (allF s') v = true := by rw [← e, hangs_written _ _ hv]; exact hon
    rw [allF_on h' hv hd'] at hon'
    have hz := allF_part h' hd' (of_decide_eq_true hon')
    rw [← e] at hz
    have hw : writtenT (given (writtenT (oddF (v :: u :: r))) v false) = writtenT (oddF (u :: r)) := by
      rw [given_written (written_written _) v false hv, oddF_head h hd.1]
      rfl
    rw [hz, written_zero] at hw
    have hon2 : hangs (oddF (u :: r)) u = true := by
      rw [oddF_on (fun x hx => h x (by simp [hx])) hu hd.2]
      simp
    rw [← hangs_written _ _ hu, ← hw, ones_hangs u hu] at hon2
    cases hon2

theorem in_order {o ns : List Nat} (ho : Ord6 o) (h : ∀ v ∈ ns, v < 6) (hd : ns.Nodup) : ∃ vs : List Nat, vs.Sublist o ∧ vs.Perm ns := by
  refine ⟨o.filter (fun u => decide (u ∈ ns)), List.filter_sublist, ?_⟩
  rw [List.perm_ext_iff_of_nodup (ho.nodup.filter _) hd]
  intro a
  rw [List.mem_filter, ho.mem]
  constructor
  · rintro ⟨_, h2⟩; exact of_decide_eq_true h2
  · intro h1; exact ⟨h a h1, decide_eq_true h1⟩

theorem sub_six {o vs : List Nat} (ho : Ord6 o) (hs : vs.Sublist o) : vs.length ≤ 6 := by
  have := hs.length_le
  rw [ho.len] at this
  exact this

theorem size_all {o ns : List Nat} (ho : Ord6 o) (h : ∀ v ∈ ns, v < 6) (hd : ns.Nodup) : (allT o [allF ns]).length = ns.length := by
  obtain ⟨vs, hs, hp⟩ := in_order ho h hd
  rw [← allF_perm hp (fun x hx => h x (hp.mem_iff.1 hx)), ← hp.length_eq]
  show (nodesT o (o.length + 1) [] (allF vs)).length = _
  rw [(nodes_all ho vs (o.length + 1) [] hs (by have := sub_six ho hs; rw [ho.len]; omega) (by simp)).1]
  simp

theorem size_odd {o ns : List Nat} (ho : Ord6 o) (h : ∀ v ∈ ns, v < 6) (hd : ns.Nodup) : (allT o [oddF ns, ~~~ oddF ns]).length = ns.length := by
  obtain ⟨vs, hs, hp⟩ := in_order ho h hd
  rw [← oddF_perm hp (fun x hx => h x (hp.mem_iff.1 hx)), ← hp.length_eq]
  show (nodesT o (o.length + 1) (nodesT o (o.length + 1) [] (oddF vs)) (~~~ oddF vs)).length = _
  have h1 := nodes_odd ho vs o.length [] hs hs.length_le (by simp)
  rw [nodes_written o _ _ (~~~ oddF vs) (oddF vs) (written_not _)]
  cases vs with
  | nil => rw [nodes_const ho.lt _ _ _ (.inl rfl : oddF [] = 0 ∨ oddF [] = onesT), h1]; simp
  | cons v vs =>
    rw [nodes_again (nodes_self (top_odd ho hs)), h1]
    simp

theorem size_two {o ns : List Nat} (ho : Ord6 o) (h : ∀ v ∈ ns, v < 6) (hd : ns.Nodup) (h1 : ns ≠ []) : (allT o [allF ns, oddF ns]).length = 2 * ns.length - 1 := by
  obtain ⟨vs, hs, hp⟩ := in_order ho h hd
  have hv6 : ∀ x ∈ vs, x < 6 := fun x hx => h x (hp.mem_iff.1 hx)
  rw [← allF_perm hp hv6, ← oddF_perm hp hv6, ← hp.length_eq]
  show (nodesT o (o.length + 1) (nodesT o (o.length + 1) [] (allF vs)) (oddF vs)).length = _
  have hne : vs ≠ [] := by intro e; subst e; exact h1 (List.Perm.nil_eq hp).symm
  have hsl := sub_six ho hs
  have hl6 := ho.len
  obtain ⟨ha, hb⟩ := nodes_all ho vs (o.length + 1) [] hs (by omega) (by simp)
  have hlast : ∀ (vs : List Nat) (hne : vs ≠ []) (m : Nat), vs.Sublist o → vs.length ≤ m → mask (vs.getLast hne) ∈ nodesT o m [] (allF vs) := by
    intro vs
    induction vs with
    | nil => intro hne; exact absurd rfl hne
    | cons v vs ih =>
      intro hne m hs hm
      obtain ⟨m, rfl⟩ : ∃ m', m = m' + 1 := ⟨m - 1, by simp at hm; omega⟩
      have h6 : ∀ x ∈ v :: vs, x < 6 := fun x hx => ho.lt x (hs.subset hx)
      have hd : (v :: vs).Nodup := hs.nodup ho.nodup
      cases vs with
      | nil =>
        have := nodes_self (m := m) (l := []) (by rw [allF_written h6]; exact top_all ho hs : topO o (writtenT (allF [v])) = some v)
        rw [allF_written h6] at this
        rw [(odd_one v (h6 v (by simp))).2] at this ⊢
        exact this
      | cons u us =>
        have hI := ih (by simp) m ((List.sublist_cons_self v _).trans hs) (by simp at hm ⊢; omega)
        unfold nodesT
        rw [allF_written h6, if_neg (by simp), top_all ho hs]
        simp only [List.head?_cons]
        rw [allF_head h6 (List.nodup_cons.1 hd).1, allF_head h6 (List.nodup_cons.1 hd).1]
        simp only [if_true, Bool.false_eq_true, if_false]
        rw [nodes_const ho.lt m _ 0 (.inl rfl)]
        exact List.mem_append_left _ (by simpa using hI)
  match vs, hne with
  | v :: vs, _ =>
    rw [nodes_odd2 ho v vs o.length _ hs (by simp at hsl; omega) (hlast _ _ _ hs (by omega)) ?_, ha]
    · simp; omega
    · intro s hs' h2 hm
      rcases hb _ hm with e | ⟨s', h3, h4⟩
      · simp at e
      · exact odd_not_all (fun x hx => hv6 x (hs'.subset hx)) (fun x hx => hv6 x (h3.subset hx)) (hs'.nodup (hs.nodup ho.nodup)) (h3.nodup (hs.nodup ho.nodup)) h2 h4

theorem size_three {o ns : List Nat} (ho : Ord6 o) (h : ∀ v ∈ ns, v < 6) (hd : ns.Nodup) (h1 : ns ≠ []) : (allT o [allF ns, oddF ns, ~~~ allF ns]).length = 2 * ns.length - 1 := by
  rw [← size_two ho h hd h1]
  show (nodesT o (o.length + 1) (nodesT o (o.length + 1) (nodesT o (o.length + 1) [] (allF ns)) (oddF ns)) (~~~ allF ns)).length = (nodesT o (o.length + 1) (nodesT o (o.length + 1) [] (allF ns)) (oddF ns)).length
  obtain ⟨vs, hs, hp⟩ := in_order ho h hd
  have hv6 : ∀ x ∈ vs, x < 6 := fun x hx => h x (hp.mem_iff.1 hx)
  have hne : vs ≠ [] := by intro e; subst e; exact h1 (List.Perm.nil_eq hp).symm
  rw [← allF_perm hp hv6]
  match vs, hne with
  | v :: vs, _ =>
    have hm := nodes_self (m := o.length) (l := []) (by rw [allF_written hv6]; exact top_all ho hs : topO o (writtenT (allF (v :: vs))) = some v)
    have hsub : ∀ (m : Nat) (l : List Tab) (f t : Tab), t ∈ l → t ∈ nodesT o m l f := by
      intro m
      induction m with
      | zero => intro l f t h; exact h
      | succ m ih =>
        intro l f t h
        unfold nodesT
        split
        · exact h
        · split
          · exact h
          · exact List.mem_append_left _ (ih _ _ _ (ih _ _ _ h))
    rw [nodes_again (f := ~~~ allF (v :: vs)) (by rw [written_not]; exact hsub _ _ _ _ hm)]

theorem and_all {n : Nat} {ns : List Nat} (hn : n < 6) (h : ∀ v ∈ ns, v < 6) : iteT (allF ns) (mask n) 0 = allF (n :: ns) := by
  apply tab_ext
  intro a ha
  rw [iteT_bit _ _ _ _ ha, allF_bit h a ha, allF_bit (fun x hx => by rcases List.mem_cons.1 hx with e | e; subst e; exact hn; exact h x e) a ha, mask_bit n a hn ha, List.all_cons, zeroT_bit]
  cases ns.all (fun v => a.testBit v) <;> cases a.testBit n <;> rfl

theorem two_nodesO {o : List Nat} (ho : Ord6 o) {a b : Nat} (ha : a < 6) (hb : b < 6) (hab : a ≠ b) : (allT o [iteT (mask a) (mask b) 0]).length = 2 := by
  have h := size_all ho (ns := [a, b]) (by intro v hv; simp at hv; omega) (by simp [hab])
  have e : allF [a, b] = iteT (mask a) (mask b) 0 := by
    show iteT (mask a) (allF [b]) 0 = _
    rw [(odd_one b hb).2]
  rw [e] at h
  exact h

end Go.Proofs.Ytebfmcafmojlaaa

