/-
  TABLES: functions of six variables as 64 truth values. Plain mathematics: nothing of the program.
-/
import Derived.WalkKit
namespace Go.Proofs.YtebfmcafmojlaaaGreatDoor
set_option linter.unusedSimpArgs false
set_option linter.unusedVariables false

abbrev Tab := BitVec 64

def mask : Nat → Tab
  | 0 => 0xaaaaaaaaaaaaaaaa#64
  | 1 => 0xcccccccccccccccc#64
  | 2 => 0xf0f0f0f0f0f0f0f0#64
  | 3 => 0xff00ff00ff00ff00#64
  | 4 => 0xffff0000ffff0000#64
  | _ => 0xffffffff00000000#64

def given (f : Tab) (v : Nat) (b : Bool) : Tab :=
  if b then (f &&& mask v) ||| ((f &&& mask v) >>> (2 ^ v))
  else (f &&& ~~~ mask v) ||| ((f &&& ~~~ mask v) <<< (2 ^ v))

/-- The assignment a with variable v set to b. -/
def setb (a v : Nat) (b : Bool) : Nat := if a.testBit v = b then a else a ^^^ 2 ^ v

def hangs (f : Tab) (v : Nat) : Bool := given f v true != given f v false

theorem mask_bit (v a : Nat) (hv : v < 6) (ha : a < 64) : (mask v).getLsbD a = a.testBit v := by
  have h : ∀ (v : Fin 6) (a : Fin 64), (mask v.1).getLsbD a.1 = a.1.testBit v.1 := by decide
  exact h ⟨v, hv⟩ ⟨a, ha⟩

theorem setb_lt (a v : Nat) (b : Bool) (hv : v < 6) (ha : a < 64) : setb a v b < 64 := by
  have h : ∀ (v : Fin 6) (a : Fin 64) (b : Bool), setb a.1 v.1 b < 64 := by decide
  exact h ⟨v, hv⟩ ⟨a, ha⟩ b

theorem setb_self (a v : Nat) (b : Bool) (hv : v < 6) (ha : a < 64) : (setb a v b).testBit v = b := by
  have h : ∀ (v : Fin 6) (a : Fin 64) (b : Bool), (setb a.1 v.1 b).testBit v.1 = b := by decide
  exact h ⟨v, hv⟩ ⟨a, ha⟩ b

theorem setb_other (a v u : Nat) (b : Bool) (hv : v < 6) (hu : u < 6) (ha : a < 64) (h : u ≠ v) : (setb a v b).testBit u = a.testBit u := by
  have h' : ∀ (v u : Fin 6) (a : Fin 64) (b : Bool), u ≠ v → (setb a.1 v.1 b).testBit u.1 = a.1.testBit u.1 := by decide +kernel
  exact h' ⟨v, hv⟩ ⟨u, hu⟩ ⟨a, ha⟩ b (by intro e; exact h (Fin.mk.inj e))

theorem setb_setb (a v : Nat) (b c : Bool) (hv : v < 6) (ha : a < 64) : setb (setb a v b) v c = setb a v c := by
  have h : ∀ (v : Fin 6) (a : Fin 64) (b c : Bool), setb (setb a.1 v.1 b) v.1 c = setb a.1 v.1 c := by decide +kernel
  exact h ⟨v, hv⟩ ⟨a, ha⟩ b c

theorem setb_comm (a v u : Nat) (b c : Bool) (hv : v < 6) (hu : u < 6) (ha : a < 64) (h : u ≠ v) : setb (setb a v b) u c = setb (setb a u c) v b := by
  have h' : ∀ (v u : Fin 6) (a : Fin 64) (b c : Bool), u ≠ v → setb (setb a.1 v.1 b) u.1 c = setb (setb a.1 u.1 c) v.1 b := by decide +kernel
  exact h' ⟨v, hv⟩ ⟨u, hu⟩ ⟨a, ha⟩ b c (by intro e; exact h (Fin.mk.inj e))

theorem setb_same (a v : Nat) : setb a v (a.testBit v) = a := by simp [setb]

theorem given_bit (f : Tab) (v : Nat) (b : Bool) (a : Nat) (hv : v < 6) (ha : a < 64) : (given f v b).getLsbD a = f.getLsbD (setb a v b) := by
  have k1 : ∀ (v : Fin 6) (a : Fin 64), a.1.testBit v.1 = false → a.1 + 2 ^ v.1 < 64 ∧ (a.1 + 2 ^ v.1).testBit v.1 = true ∧ a.1 ^^^ 2 ^ v.1 = a.1 + 2 ^ v.1 := by decide
  have k2 : ∀ (v : Fin 6) (a : Fin 64), a.1.testBit v.1 = true → 2 ^ v.1 ≤ a.1 ∧ (a.1 - 2 ^ v.1).testBit v.1 = false ∧ a.1 ^^^ 2 ^ v.1 = a.1 - 2 ^ v.1 := by decide
  have k3 : ∀ (v : Fin 6) (a : Fin 64), a.1.testBit v.1 = true → 64 ≤ a.1 + 2 ^ v.1 ∨ (a.1 + 2 ^ v.1).testBit v.1 = false := by decide
  have k4 : ∀ (v : Fin 6) (a : Fin 64), a.1.testBit v.1 = false → a.1 < 2 ^ v.1 ∨ (a.1 - 2 ^ v.1).testBit v.1 = true := by decide
  have hm := mask_bit v a hv ha
  have hmm := fun a ha => mask_bit v a hv ha
  have kk1 := k1 ⟨v, hv⟩ ⟨a, ha⟩
  have kk2 := k2 ⟨v, hv⟩ ⟨a, ha⟩
  have kk3 := k3 ⟨v, hv⟩ ⟨a, ha⟩
  have kk4 := k4 ⟨v, hv⟩ ⟨a, ha⟩
  simp only at kk1 kk2 kk3 kk4
  clear k1 k2 k3 k4
  unfold given setb
  generalize 2 ^ v = d at *
  cases b
  · rw [if_neg (by decide)]
    simp only [BitVec.getLsbD_or, BitVec.getLsbD_and, BitVec.getLsbD_not, BitVec.getLsbD_shiftLeft, hm, ha, decide_true, Bool.true_and]
    cases ht : a.testBit v
    · rw [if_pos rfl]
      by_cases hl : a < d
      · simp [hl]
      · rw [hmm (a - d) (by omega), (kk4 ht).resolve_left hl]
        simp
    · obtain ⟨h1, h2, h3⟩ := kk2 ht
      have hl : ¬ a < d := by omega
      have hl2 : a - d < 64 := by omega
      rw [hmm (a - d) (by omega), h2, h3, if_neg (by decide)]
      simp [hl, hl2]
  · rw [if_pos rfl]
    simp only [BitVec.getLsbD_or, BitVec.getLsbD_and, BitVec.getLsbD_ushiftRight, hm]
    cases ht : a.testBit v
    · obtain ⟨h1, h2, h3⟩ := kk1 ht
      rw [Nat.add_comm d a, hmm (a + d) h1, h2, h3, if_neg (by decide)]
      simp
    · rw [if_pos rfl, Nat.add_comm d a]
      by_cases hl : a + d < 64
      · rw [hmm (a + d) hl, (kk3 ht).resolve_left (by omega)]
        simp
      · rw [BitVec.getLsbD_of_ge f (a + d) (by omega)]
        simp

theorem tab_ext {f g : Tab} (h : ∀ a, a < 64 → f.getLsbD a = g.getLsbD a) : f = g :=
  BitVec.eq_of_getLsbD_eq fun i hi => h i hi

end Go.Proofs.YtebfmcafmojlaaaGreatDoor

/-
  TABLES: what 'given' and 'hangs' do to one another.
-/
namespace Go.Proofs.YtebfmcafmojlaaaGreatDoor
set_option linter.unusedSimpArgs false
set_option linter.unusedVariables false

theorem given_not (f : Tab) (v : Nat) (b : Bool) (hv : v < 6) : given (~~~ f) v b = ~~~ given f v b := by
  apply tab_ext
  intro a ha
  rw [given_bit _ _ _ _ hv ha, BitVec.getLsbD_not, BitVec.getLsbD_not, given_bit _ _ _ _ hv ha]
  simp only [ha, setb_lt a v b hv ha]

theorem given_same (f : Tab) (v : Nat) (b c : Bool) (hv : v < 6) : given (given f v b) v c = given f v b := by
  apply tab_ext
  intro a ha
  rw [given_bit _ _ _ _ hv ha, given_bit _ _ _ _ hv (setb_lt a v c hv ha), given_bit _ _ _ _ hv ha, setb_setb a v c b hv ha]

theorem given_comm (f : Tab) (v u : Nat) (b c : Bool) (hv : v < 6) (hu : u < 6) : u ≠ v → given (given f v b) u c = given (given f u c) v b := by
  intro h
  apply tab_ext
  intro a ha
  rw [given_bit _ _ _ _ hu ha, given_bit _ _ _ _ hv (setb_lt a u c hu ha), given_bit _ _ _ _ hv ha, given_bit _ _ _ _ hu (setb_lt a v b hv ha), setb_comm a v u b c hv hu ha h]

theorem hangs_false_iff (f : Tab) (v : Nat) : hangs f v = false ↔ given f v true = given f v false := by
  unfold hangs
  simp only [bne_eq_false_iff_eq]

theorem hangs_true_iff (f : Tab) (v : Nat) : hangs f v = true ↔ given f v true ≠ given f v false := by
  unfold hangs
  simp only [bne_iff_ne]

theorem hangs_not (f : Tab) (v : Nat) (hv : v < 6) : hangs (~~~ f) v = hangs f v := by
  rw [Bool.eq_iff_iff, hangs_true_iff, hangs_true_iff, given_not _ _ _ hv, given_not _ _ _ hv]
  constructor
  · intro h e; exact h (by rw [e])
  · intro h e; exact h (by have := congrArg (fun x => ~~~ x) e; simpa using this)

theorem hangs_given_self (f : Tab) (v : Nat) (b : Bool) (hv : v < 6) : hangs (given f v b) v = false := by
  rw [hangs_false_iff, given_same _ _ _ _ hv, given_same _ _ _ _ hv]

theorem hangs_given (f : Tab) (v u : Nat) (b : Bool) (hv : v < 6) (hu : u < 6) (h : hangs (given f v b) u = true) : hangs f u = true := by
  by_cases e : u = v
  · subst e
    rw [hangs_given_self _ _ _ hv] at h
    cases h
  · rw [hangs_true_iff] at h ⊢
    intro hh
    apply h
    rw [given_comm _ _ _ _ _ hv hu e, given_comm _ _ _ _ _ hv hu e, hh]

theorem given_of_not_hangs (f : Tab) (v : Nat) (b : Bool) (hv : v < 6) (h : hangs f v = false) : given f v b = f := by
  rw [hangs_false_iff] at h
  apply tab_ext
  intro a ha
  have h1 : ∀ c d, given f v c = given f v d := by intro c d; cases c <;> cases d <;> simp [h]
  rw [h1 b (a.testBit v), given_bit _ _ _ _ hv ha, setb_same]

def onesT : Tab := BitVec.allOnes 64
theorem onesT_bit (a : Nat) (ha : a < 64) : onesT.getLsbD a = true := by
  unfold onesT
  rw [BitVec.getLsbD_allOnes]
  simp only [ha, decide_true]

/-- A function by its halves. -/
def iteT (f g h : Tab) : Tab := (f &&& g) ||| (~~~ f &&& h)

theorem iteT_bit (f g h : Tab) (a : Nat) (ha : a < 64) : (iteT f g h).getLsbD a = if f.getLsbD a then g.getLsbD a else h.getLsbD a := by
  unfold iteT
  rw [BitVec.getLsbD_or, BitVec.getLsbD_and, BitVec.getLsbD_and, BitVec.getLsbD_not]
  cases f.getLsbD a <;> simp [ha]

theorem given_iteT (f g h : Tab) (v : Nat) (b : Bool) (hv : v < 6) : given (iteT f g h) v b = iteT (given f v b) (given g v b) (given h v b) := by
  apply tab_ext
  intro a ha
  rw [given_bit _ _ _ _ hv ha, iteT_bit _ _ _ _ (setb_lt a v b hv ha), iteT_bit _ _ _ _ ha, given_bit _ _ _ _ hv ha, given_bit _ _ _ _ hv ha, given_bit _ _ _ _ hv ha]

theorem halves (f : Tab) (v : Nat) (hv : v < 6) : iteT (mask v) (given f v true) (given f v false) = f := by
  apply tab_ext
  intro a ha
  rw [iteT_bit _ _ _ _ ha, mask_bit v a hv ha, given_bit _ _ _ _ hv ha, given_bit _ _ _ _ hv ha]
  cases h : a.testBit v
  · have := setb_same a v; rw [h] at this; simp [this]
  · have := setb_same a v; rw [h] at this; simp [this]

theorem given_mask (v : Nat) (b : Bool) (hv : v < 6) : given (mask v) v b = if b then onesT else 0#64 := by
  apply tab_ext
  intro a ha
  rw [given_bit _ _ _ _ hv ha, mask_bit _ _ hv (setb_lt a v b hv ha), setb_self a v b hv ha]
  cases b
  · simp
  · rw [if_pos rfl, onesT_bit a ha]

theorem given_mask_ne (v u : Nat) (b : Bool) (hv : v < 6) (hu : u < 6) (h : u ≠ v) : given (mask v) u b = mask v := by
  apply tab_ext
  intro a ha
  rw [given_bit _ _ _ _ hu ha, mask_bit _ _ hv (setb_lt a u b hu ha), mask_bit _ _ hv ha, setb_other a u v b hu hv ha (fun e => h e.symm)]

theorem iteT_ones (g h : Tab) : iteT onesT g h = g := by
  apply tab_ext
  intro a ha
  rw [iteT_bit _ _ _ _ ha, onesT_bit a ha, if_pos rfl]

theorem iteT_zero (g h : Tab) : iteT 0#64 g h = h := by
  apply tab_ext
  intro a ha
  rw [iteT_bit _ _ _ _ ha]
  simp

theorem given_join (g h : Tab) (v : Nat) (b : Bool) (hv : v < 6) (hg : hangs g v = false) (hh : hangs h v = false) : given (iteT (mask v) g h) v b = if b then g else h := by
  rw [given_iteT _ _ _ _ _ hv, given_of_not_hangs g v b hv hg, given_of_not_hangs h v b hv hh, given_mask _ _ hv]
  cases b
  · exact iteT_zero g h
  · exact iteT_ones g h

theorem filter_len_lt {p q : Nat → Bool} {l : List Nat} (himp : ∀ x ∈ l, q x = true → p x = true) {x : Nat} (hx : x ∈ l) (hp : p x = true) (hq : q x = false) : (l.filter q).length < (l.filter p).length := by
  have hle : ∀ l' : List Nat, (∀ x ∈ l', q x = true → p x = true) → (l'.filter q).length ≤ (l'.filter p).length := by
    intro l'
    induction l' with
    | nil => simp
    | cons y l' ih =>
      intro h
      have := ih (fun z hz => h z (List.mem_cons_of_mem _ hz))
      have hy := h y (List.mem_cons_self)
      rw [List.filter_cons, List.filter_cons]
      cases hqy : q y <;> cases hpy : p y <;> simp_all <;> omega
  induction l with
  | nil => simp at hx
  | cons y l ih =>
    rw [List.filter_cons, List.filter_cons]
    rcases List.mem_cons.1 hx with h | h
    · subst h
      rw [hp, hq]
      have := hle l (fun z hz => himp z (List.mem_cons_of_mem _ hz))
      simp; omega
    · have := ih (fun z hz => himp z (List.mem_cons_of_mem _ hz)) h
      have hy := himp y (List.mem_cons_self)
      cases hqy : q y <;> cases hpy : p y <;> simp_all <;> omega

/-- Of a function and its opposite the one that is true when all variables are. -/
def writtenT (f : Tab) : Tab := if f.getLsbD 63 then f else ~~~ f

theorem hangs_written (f : Tab) (v : Nat) (hv : v < 6) : hangs (writtenT f) v = hangs f v := by
  unfold writtenT
  split
  · rfl
  · exact hangs_not f v hv

/-- How many of the variables of an order a function hangs on. -/
def hangsOn (o : List Nat) (f : Tab) : Nat := (o.filter (hangs f)).length

theorem hangsOn_le (o : List Nat) (f : Tab) : hangsOn o f ≤ o.length := List.length_filter_le _ _

theorem hangsOn_written (o : List Nat) (f : Tab) (h6 : ∀ x ∈ o, x < 6) : hangsOn o (writtenT f) = hangsOn o f := by
  unfold hangsOn
  rw [List.filter_congr (fun x hx => hangs_written f x (h6 x hx))]

theorem hangsOn_given (o : List Nat) (f : Tab) (v : Nat) (b : Bool) (h6 : ∀ x ∈ o, x < 6) (hv : v ∈ o) (hh : hangs f v = true) : hangsOn o (given f v b) < hangsOn o f :=
  filter_len_lt (fun x hx h => hangs_given f v x b (h6 v hv) (h6 x hx) h) hv hh (hangs_given_self f v b (h6 v hv))

end Go.Proofs.YtebfmcafmojlaaaGreatDoor

/-
  TABLES: the first variable on which a function hangs; the nodes that come out.
-/
namespace Go.Proofs.YtebfmcafmojlaaaGreatDoor
set_option linter.unusedSimpArgs false
set_option linter.unusedVariables false

def topO (order : List Nat) (f : Tab) : Option Nat := order.find? (hangs f)

/-- The nodes of f behind those that there are already. -/
def nodesT (o : List Nat) : Nat → List Tab → Tab → List Tab
  | 0, l, _ => l
  | n + 1, l, f =>
    if writtenT f ∈ l then l else
    match topO o (writtenT f) with
    | none => l
    | some v => nodesT o n (nodesT o n l (given (writtenT f) v true)) (given (writtenT f) v false) ++ [writtenT f]

/-- The nodes of some functions. -/
def allT (o : List Nat) (fs : List Tab) : List Tab := fs.foldl (nodesT o (o.length + 1)) []

end Go.Proofs.YtebfmcafmojlaaaGreatDoor

