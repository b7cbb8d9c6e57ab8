/- Triggers as names: which labels a trigger has, which trigger labels are, and that both ways agree. It speaks of no program. -/
import Derived.Test.YtkdknfedieeenaaGreatDoorNameC
import Derived.Test.YtkdknfedieeenaaGreatDoorPfxB
import Derived.Test.YtkdknfedieeenaaGreatDoorOwnP
namespace Go.Proofs.YtkdknfedieeenaaGreatDoor
set_option linter.unusedVariables false

/-- A trigger: its kind, its name's bytes, its prefix. -/
structure Trig where
  kind : Int
  name : List UInt8
  addr : List UInt8
  bits : Int
deriving DecidableEq

def mayP (a : List UInt8) (bits : Int) : Bool := isCut a.length bits && (cutL a bits.toNat == a)
def prefixR (a : List UInt8) (bits : Int) : List (List UInt8) := if mayP a bits = true then prefixL a bits.toNat else []
def addrR (ls : List (List UInt8)) : Option (List UInt8 × Int) :=
  if ls.length < 2 ∨ 9 < ls.length then none else
  match Lib.atoiAll (ls.headD []) with
  | .ok bits => if prefixR (candA ls.tail.reverse) bits = ls then some (candA ls.tail.reverse, bits) else none
  | _ => none
/-- 'rpz-client-ip', 'rpz-ip', 'rpz-nsip', 'rpz-nsdname', '*'. -/
def cClient : List UInt8 := [114, 112, 122, 45, 99, 108, 105, 101, 110, 116, 45, 105, 112]
def cAnswer : List UInt8 := [114, 112, 122, 45, 105, 112]
def cNsip : List UInt8 := [114, 112, 122, 45, 110, 115, 105, 112]
def cNsname : List UInt8 := [114, 112, 122, 45, 110, 115, 100, 110, 97, 109, 101]
def star : List UInt8 := [42]
def kindOf (l : List UInt8) : Option Int := if l = cClient then some 0 else if l = cAnswer then some 3 else if l = cNsip then some 6 else if l = cNsname then some 4 else none
def namedR (ls : List (List UInt8)) (exact wild : Int) : Option Trig := match ls with
  | [] => none
  | l :: r => if l = star then some ⟨wild, (makeL r).getD [], [], 0⟩ else some ⟨exact, (makeL (l :: r)).getD [], [], 0⟩
def decL (ls : List (List UInt8)) : Option Trig := match kindOf (ls.getLastD []) with
  | none => namedR ls 1 2
  | some k => if k = 4 then namedR ls.dropLast 4 5 else (addrR ls.dropLast).map fun p => ⟨k, [], p.1, p.2⟩
def decR (n : List UInt8) : Option Trig := match nameLabels n with
  | none => none
  | some [] => none
  | some (l :: r) => decL (l :: r)
def labT (t : Trig) : List (List UInt8) :=
  if t.kind = 0 then prefixR t.addr t.bits ++ [cClient]
  else if t.kind = 3 then prefixR t.addr t.bits ++ [cAnswer]
  else if t.kind = 6 then prefixR t.addr t.bits ++ [cNsip]
  else if t.kind = 1 then (nameLabels t.name).getD []
  else if t.kind = 2 then star :: (nameLabels t.name).getD []
  else if t.kind = 4 then (nameLabels t.name).getD [] ++ [cNsname]
  else if t.kind = 5 then star :: ((nameLabels t.name).getD [] ++ [cNsname])
  else []
def encN (t : Trig) : List UInt8 := (makeL (labT t)).getD []
def encR (t : Trig) : Option (List UInt8) := if decR (encN t) = some t then some (encN t) else none

/-- What may be a name's labels. -/
def OkLs (ls : List (List UInt8)) : Prop := (∀ x ∈ ls, okLabel x = true) ∧ (wire ls).length ≤ 254
theorem ok_fold {x : List UInt8} (h : okLabel x = true) : x.map fold8 = x := by
  simp only [okLabel, Bool.and_eq_true, List.all_eq_true] at h
  conv => rhs; rw [← List.map_id x]
  apply List.map_congr_left
  intro c hc
  have := h.2 c hc
  simp only [Bool.not_eq_true'] at this
  simp [fold8, this]
theorem OkLs.low {ls : List (List UInt8)} (h : OkLs ls) : lowL ls = ls := by
  show ls.map (fun x => x.map fold8) = ls
  conv => rhs; rw [← List.map_id ls]
  exact List.map_congr_left (fun x hx => ok_fold (h.1 x hx))
theorem OkLs.make {ls : List (List UInt8)} (h : OkLs ls) : makeL ls = some (wire ls) := by
  unfold makeL
  rw [h.low, if_pos]
  refine ⟨?_, h.2⟩
  rw [List.all_eq_true]
  intro x hx
  have := h.1 x hx
  simp only [okLabel, Bool.and_eq_true] at this
  exact this.1
theorem OkLs.labels {ls : List (List UInt8)} (h : OkLs ls) : nameLabels (wire ls) = some ls := (nameLabels_iff _ _).2 ⟨h.2, rfl, h.1⟩
theorem labels_ok {n : List UInt8} {ls : List (List UInt8)} (h : nameLabels n = some ls) : OkLs ls ∧ n = wire ls := by
  obtain ⟨h1, h2, h3⟩ := (nameLabels_iff _ _).1 h
  exact ⟨⟨h3, by rw [← h2]; exact h1⟩, h2⟩
theorem OkLs.sub {a b c : List (List UInt8)} (h : OkLs (a ++ (b ++ c))) : OkLs b := by
  refine ⟨fun x hx => h.1 x (by simp [hx]), ?_⟩
  have := h.2
  rw [wire_append, wire_append] at this
  simp at this
  omega
theorem OkLs.left {a b : List (List UInt8)} (h : OkLs (a ++ b)) : OkLs a := OkLs.sub (a := []) (by simpa using h)
theorem OkLs.right {a b : List (List UInt8)} (h : OkLs (a ++ b)) : OkLs b := OkLs.sub (a := a) (c := []) (by simpa using h)
theorem OkLs.tail {a : List UInt8} {b : List (List UInt8)} (h : OkLs (a :: b)) : OkLs b := OkLs.right (a := [a]) (by simpa using h)
theorem decR_wire {ls : List (List UInt8)} (h : OkLs ls) (hne : ls ≠ []) : decR (wire ls) = decL ls := by
  unfold decR
  rw [h.labels]
  cases ls with
  | nil => exact absurd rfl hne
  | cons => rfl
theorem decR_nil : decR [] = none := by rfl
theorem decR_some {n : List UInt8} {t : Trig} (h : decR n = some t) : ∃ ls, OkLs ls ∧ n = wire ls ∧ ls ≠ [] ∧ decL ls = some t := by
  unfold decR at h
  cases hl : nameLabels n with
  | none => rw [hl] at h; cases h
  | some ls =>
    rw [hl] at h
    obtain ⟨h1, h2⟩ := labels_ok hl
    cases ls with
    | nil => cases h
    | cons a r => exact ⟨_, h1, h2, by simp, h⟩

theorem isCut_four {n : Nat} {m : Int} (h : isCut n m = true) : (n = 4 ∨ n = 16) ∧ 0 ≤ m ∧ m ≤ 8 * n := by
  simp only [isCut, isAddr, Bool.and_eq_true, Bool.or_eq_true, decide_eq_true_eq, beq_iff_eq] at h
  exact ⟨h.1.1, h.1.2, h.2⟩
theorem mayP_cut {a : List UInt8} {bits : Int} (h : mayP a bits = true) : isCut a.length bits = true := by
  simp only [mayP, Bool.and_eq_true] at h; exact h.1
theorem prefixR_ne {a : List UInt8} {bits : Int} (h : prefixR a bits ≠ []) : mayP a bits = true := by
  unfold prefixR at h
  split at h
  · assumption
  · exact absurd rfl h
/-- A prefix is read of its labels. -/
theorem addr_prefix {a : List UInt8} {bits : Int} (h : mayP a bits = true) : addrR (prefixR a bits) = some (a, bits) := by
  obtain ⟨h1, h2, h3⟩ := isCut_four (mayP_cut h)
  obtain ⟨n, rfl⟩ := Int.eq_ofNat_of_zero_le h2
  have hb := body_length a h1
  have hn : n < 256 := by rcases h1 with h1 | h1 <;> rw [h1] at h3 <;> omega
  have hp : prefixR a n = dec n :: (body a).reverse := by unfold prefixR prefixL; rw [if_pos h]; rfl
  unfold addrR
  rw [hp]
  rw [if_neg (by simp; omega)]
  simp only [List.headD_cons, List.tail_cons, List.reverse_reverse]
  rw [atoi_dec hn]
  simp only
  rw [candA_body a h1, hp, if_pos rfl]
theorem addr_some {ls : List (List UInt8)} {a : List UInt8} {bits : Int} (h : addrR ls = some (a, bits)) : mayP a bits = true ∧ prefixR a bits = ls := by
  unfold addrR at h
  split at h
  · cases h
  · rename_i hl
    split at h
    · split at h
      · rename_i he
        simp only [Option.some.injEq, Prod.mk.injEq] at h
        obtain ⟨rfl, rfl⟩ := h
        refine ⟨prefixR_ne ?_, he⟩
        rw [he]
        intro e; rw [e] at hl; simp at hl
      · cases h
    · cases h
theorem kindOf_some {l : List UInt8} {k : Int} (h : kindOf l = some k) : (k = 0 ∧ l = cClient) ∨ (k = 3 ∧ l = cAnswer) ∨ (k = 6 ∧ l = cNsip) ∨ (k = 4 ∧ l = cNsname) := by
  unfold kindOf at h
  repeat' split at h
  all_goals first | (cases h; done) | (simp only [Option.some.injEq] at h; subst h; simp_all)
theorem named_lab {ls : List (List UInt8)} {e wd : Int} {t : Trig} (hok : OkLs ls) (h : namedR ls e wd = some t) :
    ls ≠ [] ∧ t.addr = [] ∧ t.bits = 0 ∧ ((t.kind = wd ∧ ls = star :: (nameLabels t.name).getD []) ∨ (t.kind = e ∧ ls = (nameLabels t.name).getD [])) := by
  unfold namedR at h
  cases ls with
  | nil => cases h
  | cons l r =>
    simp only at h
    split at h
    · rename_i he
      simp only [Option.some.injEq] at h
      subst h
      refine ⟨by simp, rfl, rfl, .inl ⟨rfl, ?_⟩⟩
      rw [hok.tail.make]
      simp only [Option.getD_some]
      rw [hok.tail.labels, he]
      rfl
    · simp only [Option.some.injEq] at h
      subst h
      refine ⟨by simp, rfl, rfl, .inr ⟨rfl, ?_⟩⟩
      rw [hok.make]
      simp only [Option.getD_some]
      rw [hok.labels]
      rfl
theorem last_split {α : Type} {ls : List α} (d : α) (h : ls ≠ []) : ls = ls.dropLast ++ [ls.getLastD d] := by
  cases ls with
  | nil => exact absurd rfl h
  | cons a r =>
    have : (a :: r).getLastD d = (a :: r).getLast (by simp) := by rw [List.getLastD_eq_getLast?]; rfl
    rw [this]
    exact (List.dropLast_concat_getLast (by simp)).symm
/-- The labels of a trigger that is read of labels are those. -/
theorem dec_lab {ls : List (List UInt8)} {t : Trig} (hok : OkLs ls) (hne : ls ≠ []) (h : decL ls = some t) : labT t = ls := by
  have hsp := last_split [] hne
  unfold decL at h
  cases hk : kindOf (ls.getLastD []) with
  | none =>
    rw [hk] at h
    simp only at h
    obtain ⟨_, h1, h2, (⟨h3, h4⟩ | ⟨h3, h4⟩)⟩ := named_lab hok h
    · unfold labT; rw [h3]; simp only [h4.symm]; rfl
    · unfold labT; rw [h3]; simp only [h4.symm]; rfl
  | some k =>
    rw [hk] at h
    simp only at h
    have hkk := kindOf_some hk
    split at h
    · rename_i he
      subst he
      have hl : ls.getLastD [] = cNsname := by
        rcases hkk with ⟨hh, _⟩ | ⟨hh, _⟩ | ⟨hh, _⟩ | ⟨_, hh⟩
        · cases hh
        · cases hh
        · cases hh
        · exact hh
      rw [hl] at hsp
      obtain ⟨_, h1, h2, (⟨h3, h4⟩ | ⟨h3, h4⟩)⟩ := named_lab (by rw [hsp] at hok; exact hok.left) h
      · unfold labT; rw [h3]
        show star :: ((nameLabels t.name).getD [] ++ [cNsname]) = ls
        rw [hsp, ← List.cons_append, ← h4]
      · unfold labT; rw [h3]
        show (nameLabels t.name).getD [] ++ [cNsname] = ls
        rw [hsp, ← h4]
    · cases ha : addrR ls.dropLast with
      | none => rw [ha] at h; cases h
      | some p =>
        rw [ha] at h
        obtain ⟨a, bits⟩ := p
        obtain ⟨h1, h2⟩ := addr_some ha
        simp only [Option.map_some, Option.some.injEq] at h
        subst h
        rcases hkk with ⟨rfl, hh⟩ | ⟨rfl, hh⟩ | ⟨rfl, hh⟩ | ⟨rfl, hh⟩
        · rw [hh] at hsp; rw [hsp]; show prefixR a bits ++ [cClient] = _; rw [h2]
        · rw [hh] at hsp; rw [hsp]; show prefixR a bits ++ [cAnswer] = _; rw [h2]
        · rw [hh] at hsp; rw [hsp]; show prefixR a bits ++ [cNsip] = _; rw [h2]
        · rename_i hne4; exact absurd rfl hne4
/-- Whatever labels read as a trigger are its name's. -/
theorem enc_of_dec {ls : List (List UInt8)} {t : Trig} (hok : OkLs ls) (hne : ls ≠ []) (h : decL ls = some t) : encR t = some (wire ls) := by
  have hl := dec_lab hok hne h
  have hn : encN t = wire ls := by unfold encN; rw [hl, hok.make]; rfl
  unfold encR
  rw [hn, decR_wire hok hne, h, if_pos rfl]
theorem enc_dec {n : List UInt8} {t : Trig} (h : decR n = some t) : encR t = some n := by
  obtain ⟨ls, h1, rfl, h2, h3⟩ := decR_some h
  exact enc_of_dec h1 h2 h3
theorem dec_enc {n : List UInt8} {t : Trig} (h : encR t = some n) : decR n = some t := by
  unfold encR at h
  split at h
  · rename_i he
    simp only [Option.some.injEq] at h
    rwa [← h]
  · cases h
theorem enc_inj {n : List UInt8} {t u : Trig} (h : encR t = some n) (h' : encR u = some n) : t = u := by
  have := dec_enc h
  rw [dec_enc h'] at this
  exact (Option.some.inj this).symm
theorem encN_len (t : Trig) : (encN t).length ≤ 254 := by
  unfold encN
  cases h : makeL (labT t) with
  | none => simp
  | some x =>
    unfold makeL at h
    split at h
    · rename_i hc
      simp only [Option.some.injEq] at h
      subst h
      exact hc.2
    · cases h
end Go.Proofs.YtkdknfedieeenaaGreatDoor
