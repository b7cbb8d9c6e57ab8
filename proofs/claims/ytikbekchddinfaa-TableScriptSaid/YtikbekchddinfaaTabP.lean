/- A table's slots: the search, what a word's slot has, what becomes of it. It speaks of no program. -/
import Derived.Test.YtikbekchddinfaaCs
namespace Go.Proofs.Ytikbekchddinfaa
open Go.RowKit
set_option linter.unusedVariables false
structure Slot where
  st : Nat
  key : ByteArray
  val : Int
def noSlot : Slot := ⟨0, ⟨#[]⟩, 0⟩
def sl (ss : List Slot) (i : Nat) : Slot := ss.getD i noSlot
theorem sl_get {ss : List Slot} {i : Nat} (h : i < ss.length) : sl ss i = ss[i] := by
  simp [sl, List.getD_eq_getElem?_getD, List.getElem?_eq_getElem h]
theorem sl_past {ss : List Slot} {i : Nat} (h : ss.length ≤ i) : sl ss i = noSlot := by
  simp [sl, List.getD_eq_getElem?_getD, List.getElem?_eq_none h]
theorem sl_set (ss : List Slot) (i j : Nat) (s : Slot) (hi : i < ss.length) : sl (ss.set i s) j = if j = i then s else sl ss j := by
  simp only [sl, List.getD_eq_getElem?_getD, List.getElem?_set]
  by_cases h : j = i
  · subst h; simp [hi]
  · simp [h, Ne.symm h]
/-- The slot holds this word's number. -/
def Live (ss : List Slot) (i : Nat) (k : ByteArray) : Prop := i < ss.length ∧ (sl ss i).st = 1 ∧ (sl ss i).key = k
/-- The search for a word ends behind so many steps: at its slot, or at an empty one. -/
structure Ends (H : ByteArray → Nat) (ss : List Slot) (k : ByteArray) (j : Nat) (b : Bool) : Prop where
  lt : j < ss.length
  ahead : ∀ i, i < j → (sl ss ((H k + i) % ss.length)).st ≠ 0 ∧ ¬ ((sl ss ((H k + i) % ss.length)).st = 1 ∧ (sl ss ((H k + i) % ss.length)).key = k)
  yes : b = true → (sl ss ((H k + j) % ss.length)).st = 1 ∧ (sl ss ((H k + j) % ss.length)).key = k
  no : b = false → (sl ss ((H k + j) % ss.length)).st = 0
structure TOk (H : ByteArray → Nat) (ss : List Slot) : Prop where
  reach : ∀ i, i < ss.length → (sl ss i).st = 1 → ∃ j, j < ss.length ∧ (H (sl ss i).key + j) % ss.length = i ∧ ∀ q, q < j → (sl ss ((H (sl ss i).key + q) % ss.length)).st ≠ 0
  uniq : ∀ i i', i < ss.length → i' < ss.length → (sl ss i).st = 1 → (sl ss i').st = 1 → (sl ss i).key = (sl ss i').key → i = i'
theorem least_ex {p : Nat → Prop} (h : ∃ n, p n) : ∃ k, p k ∧ ∀ m, m < k → ¬ p m := by
  obtain ⟨n, hn⟩ := h
  induction n using Nat.strongRecOn with
  | _ n ih =>
    by_cases hx : ∃ m, p m ∧ m < n
    · obtain ⟨m, hm, hlt⟩ := hx
      exact ih m hlt hm
    · exact ⟨n, hn, fun m hm hp => hx ⟨m, hp, hm⟩⟩
theorem wrap_to (h n i : Nat) (hi : i < n) : ∃ j, j < n ∧ (h + j) % n = i := by
  have hn : 0 < n := by omega
  have hm := Nat.mod_lt h hn
  by_cases hc : h % n ≤ i
  · refine ⟨i - h % n, by omega, ?_⟩
    rw [Nat.add_mod, Nat.mod_eq_of_lt (a := i - h % n) (by omega), Nat.mod_eq_of_lt (by omega)]; omega
  · refine ⟨i + n - h % n, by omega, ?_⟩
    rw [Nat.add_mod, Nat.mod_eq_of_lt (a := i + n - h % n) (by omega), show h % n + (i + n - h % n) = i + n by omega, Nat.add_mod_right, Nat.mod_eq_of_lt hi]
theorem ends_ex {H : ByteArray → Nat} {ss : List Slot} (h : TOk H ss) (he : ∃ i, i < ss.length ∧ (sl ss i).st = 0) (k : ByteArray) :
    ∃ j b, Ends H ss k j b ∧ (b = false → ∀ i, ¬ Live ss i k) := by
  obtain ⟨i0, hi0, hs0⟩ := he
  obtain ⟨j0, hj0, e0⟩ := wrap_to (H k) ss.length i0 hi0
  obtain ⟨j, hj, hm⟩ := least_ex (p := fun j => (sl ss ((H k + j) % ss.length)).st = 0 ∨ ((sl ss ((H k + j) % ss.length)).st = 1 ∧ (sl ss ((H k + j) % ss.length)).key = k)) ⟨j0, .inl (by rw [e0]; exact hs0)⟩
  have hjl : j ≤ j0 := by
    rcases Nat.lt_or_ge j0 j with h1 | h1
    · exact absurd (.inl (by rw [e0]; exact hs0)) (hm j0 h1)
    · exact h1
  have hah : ∀ i, i < j → (sl ss ((H k + i) % ss.length)).st ≠ 0 ∧ ¬ ((sl ss ((H k + i) % ss.length)).st = 1 ∧ (sl ss ((H k + i) % ss.length)).key = k) :=
    fun i hi => ⟨fun e => hm i hi (.inl e), fun e => hm i hi (.inr e)⟩
  rcases hj with hj | hj
  · refine ⟨j, false, ⟨by omega, hah, (fun e => by cases e), fun _ => hj⟩, fun _ i hl => ?_⟩
    obtain ⟨hil, hl1, hl2⟩ := hl
    obtain ⟨j2, hj2, e2, hr⟩ := h.reach i hil hl1
    rw [hl2] at e2 hr
    rcases Nat.lt_trichotomy j j2 with h1 | h1 | h1
    · exact hr j h1 hj
    · subst h1; rw [e2] at hj; omega
    · exact hm j2 h1 (.inr (by rw [e2]; exact ⟨hl1, hl2⟩))
  · exact ⟨j, true, ⟨by omega, hah, fun _ => hj, fun e => by cases e⟩, fun e => by cases e⟩
/-- How many slots are live; how many are not empty. -/
def lives (ss : List Slot) : Nat := ss.countP fun s => s.st == 1
def fulls (ss : List Slot) : Nat := ss.countP fun s => s.st != 0
theorem lives_le (ss : List Slot) : lives ss ≤ fulls ss := by
  unfold lives fulls
  refine List.countP_mono_left ?_
  intro s _ h
  simp at h ⊢; omega
theorem fulls_le (ss : List Slot) : fulls ss ≤ ss.length := List.countP_le_length
theorem empty_ex (ss : List Slot) (h : fulls ss < ss.length) : ∃ i, i < ss.length ∧ (sl ss i).st = 0 := by
  refine Classical.byContradiction fun hc => ?_
  have : fulls ss = ss.length := by
    unfold fulls
    rw [List.countP_eq_length]
    intro s hs
    obtain ⟨i, hi, e⟩ := List.getElem_of_mem hs
    have := fun h0 => hc ⟨i, hi, by rw [sl_get hi, e]; exact h0⟩
    simpa using this
  omega
theorem lives_set (ss : List Slot) (i : Nat) (s : Slot) (hi : i < ss.length) : lives (ss.set i s) + (if (sl ss i).st = 1 then 1 else 0) = lives ss + (if s.st = 1 then 1 else 0) := by
  have h := List.countP_set (p := fun s : Slot => s.st == 1) (a := s) hi
  have hp : (if (sl ss i).st = 1 then 1 else 0) ≤ lives ss := by
    split
    · rename_i h1
      refine List.countP_pos_iff.2 ⟨_, List.getElem_mem hi, ?_⟩
      rw [sl_get hi] at h1; simp [h1]
    · omega
  rw [sl_get hi] at hp ⊢
  unfold lives at *
  rw [h]
  simp only [beq_iff_eq] at *
  omega
theorem fulls_set (ss : List Slot) (i : Nat) (s : Slot) (hi : i < ss.length) : fulls (ss.set i s) + (if (sl ss i).st ≠ 0 then 1 else 0) = fulls ss + (if s.st ≠ 0 then 1 else 0) := by
  have h := List.countP_set (p := fun s : Slot => s.st != 0) (a := s) hi
  have hp : (if (sl ss i).st ≠ 0 then 1 else 0) ≤ fulls ss := by
    split
    · rename_i h1
      refine List.countP_pos_iff.2 ⟨_, List.getElem_mem hi, ?_⟩
      rw [sl_get hi] at h1; simp [h1]
    · omega
  rw [sl_get hi] at hp ⊢
  unfold fulls at *
  rw [h]
  simp only [bne_iff_ne] at *
  omega
/-- The words of the table and their numbers. -/
def Rep (ss : List Slot) (M : ByteArray → Option Int) : Prop := ∀ k v, M k = some v ↔ ∃ i, Live ss i k ∧ (sl ss i).val = v
def upd (M : ByteArray → Option Int) (k : ByteArray) (v : Option Int) : ByteArray → Option Int := fun q => if q = k then v else M q
theorem upd_same (M : ByteArray → Option Int) (k : ByteArray) (v : Option Int) : upd M k v k = v := by simp [upd]
theorem upd_other (M : ByteArray → Option Int) (k q : ByteArray) (v : Option Int) (h : q ≠ k) : upd M k v q = M q := by simp [upd, h]
structure TI (H : ByteArray → Nat) (ss : List Slot) (M : ByteArray → Option Int) : Prop where
  ok : TOk H ss
  rep : Rep ss M
  st2 : ∀ i, (sl ss i).st ≤ 2
  sm : ∀ i, (sl ss i).key.size ≤ maxLen
/-- A table without words. -/
theorem TI.empty (H : ByteArray → Nat) (n : Nat) : TI H (List.replicate n noSlot) (fun _ => none) := by
  have hs : ∀ i, sl (List.replicate n noSlot) i = noSlot := by
    intro i
    by_cases h : i < n
    · rw [sl_get (by simpa using h)]; simp
    · exact sl_past (by simp; omega)
  refine ⟨⟨fun i _ h => ?_, fun i i' _ _ h => ?_⟩, fun k v => ⟨fun h => (by cases h), fun ⟨i, ⟨_, h, _⟩, _⟩ => ?_⟩, fun i => ?_, fun i => ?_⟩
  all_goals rw [hs i] at *
  all_goals simp [noSlot, ByteArray.size] at *
theorem lives_empty (n : Nat) : lives (List.replicate n noSlot) = 0 := by
  unfold lives; rw [List.countP_replicate]; simp [noSlot]
theorem fulls_empty (n : Nat) : fulls (List.replicate n noSlot) = 0 := by
  unfold fulls; rw [List.countP_replicate]; simp [noSlot]
section
variable {H : ByteArray → Nat} {ss : List Slot} {M : ByteArray → Option Int} {k : ByteArray} {j : Nat}
theorem mod_in {h n j : Nat} (hj : j < n) : (h + j) % n < n := Nat.mod_lt _ (by omega)
theorem Ends.live (e : Ends H ss k j true) : Live ss ((H k + j) % ss.length) k := ⟨mod_in e.lt, (e.yes rfl).1, (e.yes rfl).2⟩
theorem TI.found (h : TI H ss M) (e : Ends H ss k j true) : M k = some (sl ss ((H k + j) % ss.length)).val := (h.rep k _).2 ⟨_, e.live, rfl⟩
theorem TI.lost (h : TI H ss M) (e : ∀ i, ¬ Live ss i k) : M k = none := by
  cases hm : M k with
  | none => rfl
  | some v => obtain ⟨i, hi, _⟩ := (h.rep k v).1 hm; exact absurd hi (e i)
theorem live_set {i q : Nat} {s : Slot} (hi : i < ss.length) : Live (ss.set i s) q k ↔ if q = i then s.st = 1 ∧ s.key = k else Live ss q k := by
  unfold Live
  rw [sl_set _ _ _ _ hi]
  by_cases h : q = i
  · subst h; simp [hi]
  · simp [h]
/-- Another number of a word that is there. -/
theorem TI.put_old (h : TI H ss M) (e : Ends H ss k j true) (v : Int) (hk : k.size ≤ maxLen) : TI H (ss.set ((H k + j) % ss.length) ⟨1, k, v⟩) (upd M k (some v)) := by
  have hi := mod_in (h := H k) e.lt
  obtain ⟨y1, y2⟩ := e.yes rfl
  generalize hI : (H k + j) % ss.length = I at *
  have hst : ∀ q, (sl (ss.set I ⟨1, k, v⟩) q).st = (sl ss q).st := by
    intro q; rw [sl_set _ _ _ _ hi]; split
    · rename_i h1; subst h1; rw [y1]
    · rfl
  have hke : ∀ q, (sl (ss.set I ⟨1, k, v⟩) q).key = (sl ss q).key := by
    intro q; rw [sl_set _ _ _ _ hi]; split
    · rename_i h1; subst h1; rw [y2]
    · rfl
  refine ⟨⟨?_, ?_⟩, ?_, ?_, ?_⟩
  · intro i hi' h1
    simp only [List.length_set, hst, hke] at *
    exact h.ok.reach i hi' h1
  · intro i i' a b c d f
    simp only [List.length_set, hst, hke] at *
    exact h.ok.uniq i i' a b c d f
  · intro q x
    have hr := h.rep q x
    by_cases hq : q = k
    · subst hq
      rw [upd_same]
      constructor
      · intro hx; injection hx with hx; subst hx
        exact ⟨I, ⟨by simpa using hi, by rw [sl_set _ _ _ _ hi, if_pos rfl], by rw [sl_set _ _ _ _ hi, if_pos rfl]⟩, by rw [sl_set _ _ _ _ hi, if_pos rfl]⟩
      · rintro ⟨i, ⟨a, b, c⟩, d⟩
        rw [hst] at b; rw [hke] at c
        have : i = I := h.ok.uniq i I (by simpa using a) hi b y1 (by rw [c, y2])
        subst this
        rw [sl_set _ _ _ _ hi, if_pos rfl] at d
        simpa using d
    · rw [upd_other _ _ _ _ hq, hr]
      constructor
      · rintro ⟨i, ⟨a, b, c⟩, d⟩
        have hne : i ≠ I := fun e => hq (by rw [← c, e, y2])
        exact ⟨i, ⟨by simpa using a, by rw [hst]; exact b, by rw [hke]; exact c⟩, by rw [sl_set _ _ _ _ hi, if_neg hne]; exact d⟩
      · rintro ⟨i, ⟨a, b, c⟩, d⟩
        rw [hst] at b; rw [hke] at c
        have hne : i ≠ I := fun e => hq (by rw [← c, e, y2])
        rw [sl_set _ _ _ _ hi, if_neg hne] at d
        exact ⟨i, ⟨by simpa using a, b, c⟩, d⟩
  · intro q; rw [hst]; exact h.st2 q
  · intro q; rw [hke]; exact h.sm q
/-- A new word in the empty slot in which the search for it ends. -/
theorem TI.put_new (h : TI H ss M) (e : Ends H ss k j false) (hm : M k = none) (v : Int) (hk : k.size ≤ maxLen) : TI H (ss.set ((H k + j) % ss.length) ⟨1, k, v⟩) (upd M k (some v)) := by
  have hi := mod_in (h := H k) e.lt
  have y0 := e.no rfl
  have hahead := e.ahead
  have hlt := e.lt
  generalize hI : (H k + j) % ss.length = I at *
  have hno : ∀ i, ¬ Live ss i k := fun i hl => by
    have := (h.rep k _).2 ⟨i, hl, rfl⟩
    rw [hm] at this; cases this
  have hst : ∀ q, q ≠ I → sl (ss.set I ⟨1, k, v⟩) q = sl ss q := by
    intro q hq; rw [sl_set _ _ _ _ hi, if_neg hq]
  have hsI : sl (ss.set I ⟨1, k, v⟩) I = ⟨1, k, v⟩ := by rw [sl_set _ _ _ _ hi, if_pos rfl]
  have hne0 : ∀ q, (sl ss q).st ≠ 0 → (sl (ss.set I ⟨1, k, v⟩) q).st ≠ 0 := by
    intro q hq
    by_cases hqI : q = I
    · subst hqI; exact absurd y0 hq
    · rw [hst q hqI]; exact hq
  refine ⟨⟨?_, ?_⟩, ?_, ?_, ?_⟩
  · intro i hi' h1
    simp only [List.length_set] at *
    by_cases hiI : i = I
    · subst hiI
      rw [hsI]
      exact ⟨j, hlt, hI, fun q hq => hne0 _ (hahead q hq).1⟩
    · rw [hst i hiI] at h1 ⊢
      obtain ⟨j2, a, b, c⟩ := h.ok.reach i hi' h1
      exact ⟨j2, a, b, fun q hq => hne0 _ (c q hq)⟩
  · intro i i' a b c d f
    simp only [List.length_set] at *
    by_cases h1 : i = I <;> by_cases h2 : i' = I
    · rw [h1, h2]
    · subst h1; rw [hsI] at f; rw [hst i' h2] at d f
      exact absurd ⟨b, d, f.symm⟩ (hno i')
    · subst h2; rw [hsI] at f; rw [hst i h1] at c f
      exact absurd ⟨a, c, f⟩ (hno i)
    · rw [hst i h1] at c f; rw [hst i' h2] at d f
      exact h.ok.uniq i i' a b c d f
  · intro q x
    have hr := h.rep q x
    by_cases hq : q = k
    · subst hq
      rw [upd_same]
      constructor
      · intro hx; injection hx with hx; subst hx
        exact ⟨I, ⟨by simpa using hi, by rw [hsI], by rw [hsI]⟩, by rw [hsI]⟩
      · rintro ⟨i, ⟨a, b, c⟩, d⟩
        by_cases hiI : i = I
        · subst hiI; rw [hsI] at d; simpa using d
        · rw [hst i hiI] at b c
          exact absurd ⟨by simpa using a, b, c⟩ (hno i)
    · rw [upd_other _ _ _ _ hq, hr]
      constructor
      · rintro ⟨i, ⟨a, b, c⟩, d⟩
        have hne : i ≠ I := fun e => by subst e; omega
        exact ⟨i, ⟨by simpa using a, by rw [hst i hne]; exact b, by rw [hst i hne]; exact c⟩, by rw [hst i hne]; exact d⟩
      · rintro ⟨i, ⟨a, b, c⟩, d⟩
        have hne : i ≠ I := fun e => by subst e; rw [hsI] at c; exact hq c.symm
        rw [hst i hne] at b c d
        exact ⟨i, ⟨by simpa using a, b, c⟩, d⟩
  · intro q
    by_cases hqI : q = I
    · subst hqI; rw [hsI]; simp
    · rw [hst q hqI]; exact h.st2 q
  · intro q
    by_cases hqI : q = I
    · subst hqI; rw [hsI]; exact hk
    · rw [hst q hqI]; exact h.sm q
/-- A word is taken away. -/
theorem TI.del (h : TI H ss M) (e : Ends H ss k j true) : TI H (ss.set ((H k + j) % ss.length) ⟨2, ⟨#[]⟩, 0⟩) (upd M k none) := by
  have hi := mod_in (h := H k) e.lt
  obtain ⟨y1, y2⟩ := e.yes rfl
  generalize hI : (H k + j) % ss.length = I at *
  have hst : ∀ q, q ≠ I → sl (ss.set I ⟨2, ⟨#[]⟩, 0⟩) q = sl ss q := by
    intro q hq; rw [sl_set _ _ _ _ hi, if_neg hq]
  have hsI : sl (ss.set I ⟨2, ⟨#[]⟩, 0⟩) I = ⟨2, ⟨#[]⟩, 0⟩ := by rw [sl_set _ _ _ _ hi, if_pos rfl]
  have hlive : ∀ i, (sl (ss.set I ⟨2, ⟨#[]⟩, 0⟩) i).st = 1 → i ≠ I := by
    intro i h1 e; subst e; rw [hsI] at h1; cases h1
  have hne0 : ∀ q, (sl ss q).st ≠ 0 → (sl (ss.set I ⟨2, ⟨#[]⟩, 0⟩) q).st ≠ 0 := by
    intro q hq
    by_cases hqI : q = I
    · subst hqI; rw [hsI]; simp
    · rw [hst q hqI]; exact hq
  refine ⟨⟨?_, ?_⟩, ?_, ?_, ?_⟩
  · intro i hi' h1
    have hiI := hlive i h1
    simp only [List.length_set] at *
    rw [hst i hiI] at h1 ⊢
    obtain ⟨j2, a, b, c⟩ := h.ok.reach i hi' h1
    exact ⟨j2, a, b, fun q hq => hne0 _ (c q hq)⟩
  · intro i i' a b c d f
    have h1 := hlive i c
    have h2 := hlive i' d
    simp only [List.length_set] at *
    rw [hst i h1] at c f; rw [hst i' h2] at d f
    exact h.ok.uniq i i' a b c d f
  · intro q x
    have hr := h.rep q x
    by_cases hq : q = k
    · subst hq
      rw [upd_same]
      refine ⟨fun h => (by cases h), ?_⟩
      rintro ⟨i, ⟨a, b, c⟩, d⟩
      have hiI := hlive i b
      rw [hst i hiI] at b c
      exact absurd (h.ok.uniq i I (by simpa using a) hi b y1 (by rw [c, y2])) hiI
    · rw [upd_other _ _ _ _ hq, hr]
      constructor
      · rintro ⟨i, ⟨a, b, c⟩, d⟩
        have hne : i ≠ I := fun e => by subst e; exact hq (by rw [← c, y2])
        exact ⟨i, ⟨by simpa using a, by rw [hst i hne]; exact b, by rw [hst i hne]; exact c⟩, by rw [hst i hne]; exact d⟩
      · rintro ⟨i, ⟨a, b, c⟩, d⟩
        have hne := hlive i b
        rw [hst i hne] at b c d
        exact ⟨i, ⟨by simpa using a, b, c⟩, d⟩
  · intro q
    by_cases hqI : q = I
    · subst hqI; rw [hsI]; simp
    · rw [hst q hqI]; exact h.st2 q
  · intro q
    by_cases hqI : q = I
    · subst hqI; rw [hsI]; exact Nat.zero_le _
    · rw [hst q hqI]; exact h.sm q
end
/-- The first slots' words. -/
theorem rep_unique {ss : List Slot} {M M' : ByteArray → Option Int} (h : Rep ss M) (h' : Rep ss M') : M = M' := by
  funext k
  cases hm : M k with
  | none =>
    cases hm' : M' k with
    | none => rfl
    | some v =>
      have := (h k v).2 ((h' k v).1 hm')
      rw [hm] at this; cases this
  | some v => exact ((h' k v).2 ((h k v).1 hm)).symm
/-- The words of the first i slots. -/
def headM (ss : List Slot) : Nat → ByteArray → Option Int
  | 0 => fun _ => none
  | i + 1 => if (sl ss i).st = 1 then upd (headM ss i) (sl ss i).key (some (sl ss i).val) else headM ss i
theorem headM_some {ss : List Slot} {k : ByteArray} {v : Int} : ∀ {i : Nat}, headM ss i k = some v → ∃ q, q < i ∧ (sl ss q).st = 1 ∧ (sl ss q).key = k ∧ (sl ss q).val = v
  | 0, h => by cases h
  | i + 1, h => by
    unfold headM at h
    split at h
    · rename_i h1
      by_cases hq : k = (sl ss i).key
      · subst hq; rw [upd_same] at h; injection h with h
        exact ⟨i, by omega, h1, rfl, h⟩
      · rw [upd_other _ _ _ _ hq] at h
        obtain ⟨q, a, b⟩ := headM_some h
        exact ⟨q, by omega, b⟩
    · obtain ⟨q, a, b⟩ := headM_some h
      exact ⟨q, by omega, b⟩
theorem headM_has {H : ByteArray → Nat} {ss : List Slot} (ok : TOk H ss) : ∀ {i q : Nat}, i ≤ ss.length → q < i → (sl ss q).st = 1 → headM ss i (sl ss q).key = some (sl ss q).val
  | 0, q, _, h, _ => by omega
  | i + 1, q, hi, h, h1 => by
    unfold headM
    by_cases hq : q = i
    · subst hq; rw [if_pos h1, upd_same]
    · have ih := headM_has ok (i := i) (q := q) (by omega) (by omega) h1
      split
      · rename_i h2
        rw [upd_other _ _ _ _ (fun e => hq (ok.uniq q i (by omega) (by omega) h1 h2 e))]
        exact ih
      · exact ih
theorem headM_new {H : ByteArray → Nat} {ss : List Slot} (ok : TOk H ss) {i : Nat} (hi : i < ss.length) (h1 : (sl ss i).st = 1) : headM ss i (sl ss i).key = none := by
  cases h : headM ss i (sl ss i).key with
  | none => rfl
  | some v =>
    obtain ⟨q, a, b, c, _⟩ := headM_some h
    have := ok.uniq q i (by omega) hi b h1 c
    omega
theorem headM_all {H : ByteArray → Nat} {ss : List Slot} {M : ByteArray → Option Int} (h : TI H ss M) : headM ss ss.length = M := by
  refine rep_unique (ss := ss) (fun k v => ⟨fun hk => ?_, fun ⟨i, ⟨a, b, c⟩, d⟩ => ?_⟩) h.rep
  · obtain ⟨q, a, b, c, d⟩ := headM_some hk
    exact ⟨q, ⟨a, b, c⟩, d⟩
  · rw [← c, ← d]; exact headM_has h.ok (Nat.le_refl _) a b
/-- How many of the first slots are live. -/
def liveTo (ss : List Slot) (i : Nat) : Nat := lives (ss.take i)
theorem liveTo_next {ss : List Slot} {i : Nat} (hi : i < ss.length) : liveTo ss (i + 1) = liveTo ss i + if (sl ss i).st = 1 then 1 else 0 := by
  unfold liveTo lives
  rw [List.take_succ_eq_append_getElem hi, List.countP_append, sl_get hi]
  simp [List.countP_cons]
theorem liveTo_all (ss : List Slot) : liveTo ss ss.length = lives ss := by unfold liveTo; rw [List.take_length]
theorem liveTo_le (ss : List Slot) (i : Nat) : liveTo ss i ≤ lives ss := by
  unfold liveTo lives
  exact List.Sublist.countP_le (List.take_sublist i ss)
def slotC (s : Slot) : List Value := [.int .i64 s.st, .string s.key, .int .i64 s.val]
def slotsC (ss : List Slot) : List Value := ss.flatMap slotC
theorem slotsC_cons (s : Slot) (ss : List Slot) : slotsC (s :: ss) = slotC s ++ slotsC ss := by simp [slotsC]
theorem slotsC_len (ss : List Slot) : (slotsC ss).length = ss.length * 3 := by
  induction ss with
  | nil => rfl
  | cons s ss ih => rw [slotsC_cons, List.length_append, ih]; simp [slotC]; omega
theorem slotsC_get (ss : List Slot) (i j : Nat) (hi : i < ss.length) (hj : j < 3) : (slotsC ss)[i * 3 + j]? = (slotC ss[i])[j]? := by
  induction ss generalizing i with
  | nil => simp at hi
  | cons s ss ih =>
    rw [slotsC_cons]
    cases i with
    | zero => rw [List.getElem?_append_left (by simp [slotC]; omega)]; simp
    | succ i =>
      rw [List.getElem?_append_right (by simp [slotC]; omega), show (i + 1) * 3 + j - (slotC s).length = i * 3 + j by simp [slotC]; omega, ih i (by simpa using hi)]
      simp
theorem slotsC_set (ss : List Slot) (i : Nat) (s : Slot) (hi : i < ss.length) : (((slotsC ss).set (i * 3) (.int .i64 s.st)).set (i * 3 + 1) (.string s.key)).set (i * 3 + 2) (.int .i64 s.val) = slotsC (ss.set i s) := by
  induction ss generalizing i with
  | nil => simp at hi
  | cons q ss ih =>
    rw [slotsC_cons]
    cases i with
    | zero => simp [slotC, slotsC_cons]
    | succ i =>
      rw [List.set_cons_succ, slotsC_cons, ← ih i (by simpa using hi)]
      rw [List.set_append_right _ _ (by simp [slotC]; omega), List.set_append_right _ _ (by simp [slotC]; omega), List.set_append_right _ _ (by simp [slotC]; omega)]
      rw [show (i + 1) * 3 - (slotC q).length = i * 3 by simp [slotC]; omega, show (i + 1) * 3 + 1 - (slotC q).length = i * 3 + 1 by simp [slotC]; omega, show (i + 1) * 3 + 2 - (slotC q).length = i * 3 + 2 by simp [slotC]; omega]
end Go.Proofs.Ytikbekchddinfaa
