/- Events as bytes: which events have bytes, which, and what is read of bytes. It speaks of no program. -/
import Derived.Test.YtodpaejakgjblaaDoorOwnQ
import Derived.Test.YtodpaejakgjblaaDoorNum
namespace Go.Proofs.YtodpaejakgjblaaDoor
set_option linter.unusedVariables false

structure Ev where
  time : Int
  client : List UInt8
  name : List UInt8
  type : Int
  zone : Int
  trig : Trig
  act : Int
deriving DecidableEq

def inE (n most : Int) : Bool := decide (0 ≤ n) && decide (n ≤ most)
def mayE (e : Ev) : Bool := (encR e.trig).isSome && inE e.time 4294967295 && decide (e.client.length ≤ 16) && (nameLabels e.name).isSome && inE e.zone 31 && inE e.act 8
def lenB (l : List UInt8) : List UInt8 := UInt8.ofNat l.length :: l
def evHead (e : Ev) : List UInt8 := b32 e.time.toNat ++ (lenB e.client ++ (lenB e.name ++ (b16 e.type.toNat ++ ([UInt8.ofNat e.zone.toNat, UInt8.ofNat e.act.toNat]))))
def evB (e : Ev) : List UInt8 := b32 e.time.toNat ++ (lenB e.client ++ (lenB e.name ++ (b16 e.type.toNat ++ (UInt8.ofNat e.zone.toNat :: UInt8.ofNat e.act.toNat :: lenB ((encR e.trig).getD [])))))
def cutR : List UInt8 → Option (List UInt8 × List UInt8)
  | [] => none
  | c :: r => if r.length < c.toNat then none else some (r.take c.toNat, r.drop c.toNat)
def byteN (s : List UInt8) (a : Nat) : Nat := (s.getD a 0).toNat
def num16 (s : List UInt8) : Nat := byteN s 0 * 256 + byteN s 1
def num32 (s : List UInt8) : Nat := byteN s 0 * 16777216 + byteN s 1 * 65536 + byteN s 2 * 256 + byteN s 3
def readC (s : List UInt8) (time : Nat) (client name s2 : List UInt8) : Option Ev :=
  if s2.length < 4 then none else
  match cutR (s2.drop 4) with
  | none => none
  | some (own, s3) => if s3 ≠ [] then none else
    match decR own with
    | none => none
    | some t => some ⟨time, client, name, num16 s2, byteN s2 2, t, byteN s2 3⟩
def readR (s : List UInt8) : Option Ev :=
  if s.length < 4 then none else
  match cutR (s.drop 4) with
  | none => none
  | some (client, s1) =>
    match cutR s1 with
    | none => none
    | some (name, s2) => readC s (num32 s) client name s2
def decE (s : List UInt8) : Option Ev := match readR s with
  | none => none
  | some e => if mayE e = true then some e else none

theorem lenB_length (l : List UInt8) : (lenB l).length = l.length + 1 := rfl
theorem cutR_lenB (l r : List UInt8) (h : l.length < 256) : cutR (lenB l ++ r) = some (l, r) := by
  have e : (UInt8.ofNat l.length).toNat = l.length := by rw [UInt8.toNat_ofNat_of_lt' (by simpa using h)]
  show (if (l ++ r).length < (UInt8.ofNat l.length).toNat then none else some ((l ++ r).take (UInt8.ofNat l.length).toNat, (l ++ r).drop (UInt8.ofNat l.length).toNat)) = _
  rw [e, if_neg (by rw [List.length_append]; omega), List.take_left, List.drop_left]
theorem cutR_some {s l r : List UInt8} (h : cutR s = some (l, r)) : s = lenB l ++ r ∧ l.length < 256 := by
  cases s with
  | nil => cases h
  | cons c s =>
    change (if s.length < c.toNat then none else some (s.take c.toNat, s.drop c.toNat)) = some (l, r) at h
    split at h
    · cases h
    · rename_i hc
      injection h with h
      injection h with h1 h2
      subst h1
      subst h2
      have hl : (s.take c.toNat).length = c.toNat := by simp; omega
      have := c.toNat_lt
      refine ⟨?_, by omega⟩
      unfold lenB
      rw [hl, UInt8.ofNat_toNat, List.cons_append, List.take_append_drop]
theorem b32_length (n : Nat) : (b32 n).length = 4 := rfl
theorem num32_b32 (n : Nat) (h : n < 4294967296) (r : List UInt8) : num32 (b32 n ++ r) = n := by
  simp [num32, byteN, b32]; omega
theorem num16_b16 (n : Nat) (h : n < 65536) (r : List UInt8) : num16 (b16 n ++ r) = n := by
  simp [num16, byteN, b16]; omega
theorem b32_num32 (s : List UInt8) (h : ¬ s.length < 4) : b32 (num32 s) ++ s.drop 4 = s := by
  match s, h with
  | a :: b :: c :: d :: r, _ =>
    have ha := a.toNat_lt
    have hb := b.toNat_lt
    have hc := c.toNat_lt
    have hd := d.toNat_lt
    simp only [num32, byteN, b32, List.getD_cons_zero, List.getD_cons_succ, List.drop_succ_cons, List.drop_zero, List.cons_append, List.nil_append]
    have e1 : (a.toNat * 16777216 + b.toNat * 65536 + c.toNat * 256 + d.toNat) / 16777216 = a.toNat := by omega
    have e2 : (a.toNat * 16777216 + b.toNat * 65536 + c.toNat * 256 + d.toNat) / 65536 % 256 = b.toNat := by omega
    have e3 : (a.toNat * 16777216 + b.toNat * 65536 + c.toNat * 256 + d.toNat) / 256 % 256 = c.toNat := by omega
    have e4 : (a.toNat * 16777216 + b.toNat * 65536 + c.toNat * 256 + d.toNat) % 256 = d.toNat := by omega
    rw [e1, e2, e3, e4, UInt8.ofNat_toNat, UInt8.ofNat_toNat, UInt8.ofNat_toNat, UInt8.ofNat_toNat]
  | [], h => exact absurd (by simp) h
  | [_], h => exact absurd (by simp) h
  | [_, _], h => exact absurd (by simp) h
  | [_, _, _], h => exact absurd (by simp) h
theorem b16_num16 (s : List UInt8) (h : ¬ s.length < 4) : b16 (num16 s) ++ (UInt8.ofNat (byteN s 2) :: UInt8.ofNat (byteN s 3) :: s.drop 4) = s := by
  match s, h with
  | a :: b :: c :: d :: r, _ =>
    have ha := a.toNat_lt
    have hb := b.toNat_lt
    simp only [num16, byteN, b16, List.getD_cons_zero, List.getD_cons_succ, List.drop_succ_cons, List.drop_zero, List.cons_append, List.nil_append]
    have e1 : (a.toNat * 256 + b.toNat) / 256 = a.toNat := by omega
    have e2 : (a.toNat * 256 + b.toNat) % 256 = b.toNat := by omega
    rw [e1, e2, UInt8.ofNat_toNat, UInt8.ofNat_toNat, UInt8.ofNat_toNat, UInt8.ofNat_toNat]
  | [], h => exact absurd (by simp) h
  | [_], h => exact absurd (by simp) h
  | [_, _], h => exact absurd (by simp) h
  | [_, _, _], h => exact absurd (by simp) h
theorem inE_iff {n m : Int} : inE n m = true ↔ 0 ≤ n ∧ n ≤ m := by simp [inE]
structure MayE (e : Ev) : Prop where
  trig : ∃ n, encR e.trig = some n ∧ n.length ≤ 254
  time : 0 ≤ e.time ∧ e.time ≤ 4294967295
  client : e.client.length ≤ 16
  name : ∃ ls, nameLabels e.name = some ls ∧ e.name.length ≤ 254
  zone : 0 ≤ e.zone ∧ e.zone ≤ 31
  act : 0 ≤ e.act ∧ e.act ≤ 8
theorem enc_len' {t : Trig} {n : List UInt8} (h : encR t = some n) : n.length ≤ 254 := by
  unfold encR at h
  split at h
  · injection h with h; rw [← h]; exact encN_len t
  · cases h
theorem mayE_iff {e : Ev} : mayE e = true ↔ MayE e := by
  unfold mayE
  simp only [Bool.and_eq_true, inE_iff, decide_eq_true_eq]
  constructor
  · rintro ⟨⟨⟨⟨⟨h1, h2⟩, h3⟩, h4⟩, h5⟩, h6⟩
    obtain ⟨n, hn⟩ := Option.isSome_iff_exists.1 h1
    obtain ⟨ls, hls⟩ := Option.isSome_iff_exists.1 h4
    exact ⟨⟨n, hn, enc_len' hn⟩, h2, h3, ⟨ls, hls, by have := (nameLabels_iff _ _).1 hls; exact this.1⟩, h5, h6⟩
  · rintro ⟨⟨n, hn, _⟩, h2, h3, ⟨ls, hls, _⟩, h5, h6⟩
    exact ⟨⟨⟨⟨⟨by rw [hn]; rfl, h2⟩, h3⟩, by rw [hls]; rfl⟩, h5⟩, h6⟩
theorem drop4_b32 (n : Nat) (r : List UInt8) : (b32 n ++ r).drop 4 = r := rfl
/-- What is read of an event's bytes with more behind them. -/
theorem read_ev {e : Ev} (h : MayE e) (ht : 0 ≤ e.type ∧ e.type < 65536) (r : List UInt8) : readR (evB e ++ r) = if r = [] then some e else none := by
  obtain ⟨n, hn, hnl⟩ := h.trig
  obtain ⟨ls, hls, hll⟩ := h.name
  have h1 := h.time
  have h2 := h.client
  have h3 := h.zone
  have h4 := h.act
  have e0 : evB e ++ r = b32 e.time.toNat ++ (lenB e.client ++ (lenB e.name ++ (b16 e.type.toNat ++ (UInt8.ofNat e.zone.toNat :: UInt8.ofNat e.act.toNat :: (lenB n ++ r))))) := by
    unfold evB; rw [hn]; simp
  rw [e0]
  unfold readR
  rw [if_neg (by simp [b32]), drop4_b32, cutR_lenB _ _ (by omega)]
  simp only
  rw [cutR_lenB _ _ (by omega)]
  simp only
  unfold readC
  rw [if_neg (by simp [b16])]
  rw [show (b16 e.type.toNat ++ (UInt8.ofNat e.zone.toNat :: UInt8.ofNat e.act.toNat :: (lenB n ++ r))).drop 4 = lenB n ++ r from rfl, cutR_lenB _ _ (by omega)]
  simp only
  by_cases hr : r = []
  · rw [if_neg (by simp [hr]), if_pos hr, dec_enc hn]
    simp only
    rw [num32_b32 _ (by omega), num16_b16 _ (by omega)]
    have z1 : byteN (b16 e.type.toNat ++ (UInt8.ofNat e.zone.toNat :: UInt8.ofNat e.act.toNat :: (lenB n ++ r))) 2 = e.zone.toNat := by
      show (UInt8.ofNat e.zone.toNat).toNat = _
      rw [UInt8.toNat_ofNat_of_lt' (by simp; omega)]
    have z2 : byteN (b16 e.type.toNat ++ (UInt8.ofNat e.zone.toNat :: UInt8.ofNat e.act.toNat :: (lenB n ++ r))) 3 = e.act.toNat := by
      show (UInt8.ofNat e.act.toNat).toNat = _
      rw [UInt8.toNat_ofNat_of_lt' (by simp; omega)]
    rw [z1, z2]
    obtain ⟨a, b, c, d, f, g, i⟩ := e
    simp only at h1 ht h3 h4 ⊢
    rw [Int.toNat_of_nonneg h1.1, Int.toNat_of_nonneg ht.1, Int.toNat_of_nonneg h3.1, Int.toNat_of_nonneg h4.1]
  · rw [if_pos hr, if_neg hr]
theorem dec_ev {e : Ev} (h : MayE e) (ht : 0 ≤ e.type ∧ e.type < 65536) : decE (evB e) = some e := by
  have := read_ev h ht []
  rw [List.append_nil, if_pos rfl] at this
  unfold decE
  rw [this]
  simp only
  rw [if_pos (mayE_iff.2 h)]
/-- What is read has these bytes. -/
theorem read_some {s : List UInt8} {e : Ev} (h : readR s = some e) : evB e = s ∧ 0 ≤ e.type ∧ e.type < 65536 := by
  unfold readR at h
  split at h
  · cases h
  rename_i h4
  split at h
  · cases h
  rename_i client s1 hc1
  split at h
  · cases h
  rename_i name s2 hc2
  unfold readC at h
  split at h
  · cases h
  rename_i h4'
  split at h
  · cases h
  rename_i own s3 hc3
  split at h
  · cases h
  rename_i hs3
  split at h
  · cases h
  rename_i t hd
  simp only [Option.some.injEq] at h
  subst h
  have hs3 : s3 = [] := by simpa using hs3
  subst hs3
  obtain ⟨e1, _⟩ := cutR_some hc1
  obtain ⟨e2, _⟩ := cutR_some hc2
  obtain ⟨e3, _⟩ := cutR_some hc3
  have hb0 : (s2.getD 0 0).toNat < 256 := UInt8.toNat_lt _
  have hb1 : (s2.getD 1 0).toNat < 256 := UInt8.toNat_lt _
  refine ⟨?_, by simp only; omega, by simp only [num16, byteN]; omega⟩
  unfold evB
  simp only [Int.toNat_natCast]
  rw [enc_dec hd]
  show b32 (num32 s) ++ (lenB client ++ (lenB name ++ (b16 (num16 s2) ++ (UInt8.ofNat (byteN s2 2) :: UInt8.ofNat (byteN s2 3) :: lenB own)))) = s
  rw [List.append_nil] at e3
  rw [← e3, b16_num16 s2 h4', ← e2, ← e1, b32_num32 s h4]
theorem decE_some {s : List UInt8} {e : Ev} (h : decE s = some e) : evB e = s ∧ MayE e ∧ 0 ≤ e.type ∧ e.type < 65536 := by
  unfold decE at h
  split at h
  · cases h
  rename_i x hx
  split at h
  · rename_i hm
    simp only [Option.some.injEq] at h
    subst h
    obtain ⟨h1, h2⟩ := read_some hx
    exact ⟨h1, mayE_iff.1 hm, h2⟩
  · cases h
theorem ev_inj {e f : Ev} (he : MayE e) (hte : 0 ≤ e.type ∧ e.type < 65536) (hf : MayE f) (htf : 0 ≤ f.type ∧ f.type < 65536) : evB e = evB f ↔ e = f := by
  constructor
  · intro h
    have h1 := dec_ev he hte
    rw [h, dec_ev hf htf] at h1
    exact (Option.some.inj h1).symm
  · rintro rfl; rfl
theorem dec_long {e : Ev} (h : MayE e) (ht : 0 ≤ e.type ∧ e.type < 65536) {r : List UInt8} (hr : r ≠ []) : decE (evB e ++ r) = none := by
  unfold decE
  rw [read_ev h ht r, if_neg hr]
theorem dec_short {e : Ev} (h : MayE e) (ht : 0 ≤ e.type ∧ e.type < 65536) {k : Nat} (hk : k < (evB e).length) : decE ((evB e).take k) = none := by
  cases hd : decE ((evB e).take k) with
  | none => rfl
  | some f =>
    exfalso
    obtain ⟨h1, h2, h3⟩ := decE_some hd
    have := read_ev h2 h3 ((evB e).drop k)
    rw [h1, List.take_append_drop, if_neg (by intro e'; have := congrArg List.length e'; simp at this; omega)] at this
    have h0 := read_ev h ht []
    rw [List.append_nil, if_pos rfl, this] at h0
    cases h0
theorem evB_len {e : Ev} (h : MayE e) : 13 ≤ (evB e).length + 2 ∧ (evB e).length ≤ 600 := by
  obtain ⟨n, hn, hnl⟩ := h.trig
  obtain ⟨ls, hls, hll⟩ := h.name
  have := h.client
  unfold evB
  rw [hn]
  simp [lenB, b32, b16]
  omega
end Go.Proofs.YtodpaejakgjblaaDoor
