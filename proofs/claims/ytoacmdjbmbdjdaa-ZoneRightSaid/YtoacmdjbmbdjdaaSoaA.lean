/- The contracts of Plain, Cut; of an SOA's data: Data, Parse, Of; of rdata.May of an SOA's. -/
import Derived.Test.YtoacmdjbmbdjdaaCuts
import Derived.Test.YtoacmdjbmbdjdaaNum
import Derived.Outline
import Derived.BigQuiet
import Derived.OwnWalk
namespace Go.Proofs.Ytoacmdjbmbdjdaa
open Go.RowKit
set_option linter.unusedVariables false
set_option maxRecDepth 20000

theorem sv_append (s t : ByteArray) : Value.string (s ++ t) = sv (s.data.toList ++ t.data.toList) := by
  unfold sv; congr 1
theorem mk_toList (l : List UInt8) : (ByteArray.mk l.toArray).data.toList = l := by simp
theorem may_mayL (s : ByteArray) : (labelsOf s).isSome = true ↔ mayL s.data.toList := Iff.rfl
theorem get_q (s : ByteArray) (i : Nat) (h : i < s.size) : s.data.toList[i]? = some s[i] := by
  rw [List.getElem?_eq_getElem (by simpa using h)]; rfl
theorem below_drew {B : Nat} {w w' : World} (h : Below B w w') (k : Nat) : Below B w (w'.drewN k) := ⟨h.os, h.tape, h.output, h.size, h.block⟩
set_option maxHeartbeats 1600000 in
theorem cutp_any (s : ByteArray) (w : World) (hs : s.size ≤ 140737488355328) :
    Calls Try.prog 72 #[.string s] w fun e w' => Below w.heap.size w w' ∧ ((∃ n t, IsCut s.data.toList n t ∧ e = .returned (.tuple #[sv n, sv t, .bool true])) ∨ ((∀ n t, ¬ IsCut s.data.toList n t) ∧ e = .returned (.tuple #[.string ⟨#[]⟩, .string ⟨#[]⟩, .bool false]))) := by
  have hlen : s.data.toList.length = s.size := by simp
  go_enter Try.func72, Try.ntmps72
  go_wp2_with fail
  go_loop [5] (fun i => ∃ p : Nat, p ≤ s.size + 256 ∧ i = .int .i64 p ∧ Hid (At s.data.toList p)) (fun i => s.size + 256 - (intOf i).toNat)
  case atStart => exact ⟨0, Nat.zero_le _, rfl, Lib.hid (At.start _)⟩
  case round =>
    obtain ⟨p, hp, rfl, hat⟩ := hrel
    by_cases hlt : p < s.size
    · have hlt' : (p : Int) < s.size := by omega
      have hq := get_q s p hlt
      obtain ⟨x, hx⟩ : ∃ x, s[p] = x := ⟨_, rfl⟩
      obtain ⟨q, hxq⟩ : ∃ q, x.toNat = q := ⟨_, rfl⟩
      have hq256 : q < 256 := by rw [← hxq]; exact UInt8.toNat_lt _
      rw [hx] at hq
      by_cases h0 : q = 0
      · have hx0 : x = 0 := UInt8.toNat_inj.1 (by rw [hxq, h0]; rfl)
        subst hx0
        have hne : ((q : Int) != 0) = false := by simp; omega
        have hge : ¬ (s.size : Int) ≤ p := by omega
        have hq2 := hq
        have hst := hat.out.stop hq
        have HST := Lib.hid hst
        have HQ := Lib.hid hq2
        have hm := fun w => may_any (s.extract 0 p) w (by simp [ByteArray.size_extract]; unfold maxLen; omega)
        have hE : (s.extract 0 p).data.toList = s.data.toList.take p := by simp [List.extract_eq_take_drop]
        have hE1 : Value.string (s.extract 0 p) = sv (s.data.toList.take p) := by rw [ba_extract]; simp [List.extract_eq_take_drop]
        have hE2 : Value.string (s.extract (p + 1) s.size) = sv (s.data.toList.drop (p + 1)) := by
          rw [ba_extract, ← hlen, List.extract_eq_take_drop, List.take_of_length_le (by simp)]
        have HE1 := Lib.hid hE1
        have HE2 := Lib.hid hE2
        have hML : (labelsOf (s.extract 0 p)).isSome = true ↔ mayL (s.data.toList.take p) := by rw [may_mayL, hE]
        have HML := Lib.hid hML
        clear hst hq hq2 hE hE1 hE2 hML hat
        cases hmay : (labelsOf (s.extract 0 p)).isSome with
        | true =>
          rw [hmay] at hm
          have HM := Lib.hid hm
          have hfin : Hid (IsCut s.data.toList (s.data.toList.take p) (s.data.toList.drop (p + 1))) := Lib.hid (cut_here HQ.out (HML.out.1 hmay))
          clear hm hmay HML HST HQ hlen hxq
          go_wp2_with fail
          refine (HM.out _).mono ?_
          rintro e w1 ⟨rfl, hb1⟩
          have hi4 : IntKind.i64.wrap ((p : Int) + 1) = (p : Int) + 1 := IntWalk.i64_in _ (by omega)
          have hp0 : (0 : Int) ≤ (p : Int) + 1 := by omega
          have hp1 : (p : Int) + 1 ≤ s.size := by omega
          have hp2 : ((p : Int) + 1).toNat = p + 1 := by omega
          have hp3 : (p : Int) ≤ s.size := by omega
          go_wp2_with fail
          go_quiet (fail)
          go_wp2_with fail
          go_ret3
          exact ⟨below_drew hb1 _, .inl ⟨_, _, hfin.out, by rw [← HE1.out, ← HE2.out]; rfl⟩⟩
        | false =>
          rw [hmay] at hm
          have HM := Lib.hid hm
          have hfin : Hid (∀ n t, ¬ IsCut s.data.toList n t) := Lib.hid (fun n t hc => by
            obtain ⟨rfl, _⟩ := HST.out n t hc
            have := HML.out.2 hc.1
            rw [hmay] at this; cases this)
          clear hm hmay HML HST HQ hlen hxq
          go_wp2_with fail
          refine (HM.out _).mono ?_
          rintro e w1 ⟨rfl, hb1⟩
          go_wp2_with fail
          go_ret3
          exact ⟨hb1, .inr ⟨hfin.out, rfl⟩⟩
      · have hne : ((q : Int) != 0) = true := by simp; omega
        have hnx := hat.out.next x hq (by rintro rfl; simp at hxq; omega)
        rw [hxq] at hnx
        have HN := Lib.hid hnx
        have hi1 : IntKind.i64.wrap (q : Int) = q := IntWalk.i64_in _ (by omega)
        have hi2 : IntKind.i64.wrap (1 + (q : Int)) = 1 + (q : Int) := IntWalk.i64_in _ (by omega)
        have hi3 : IntKind.i64.wrap ((p : Int) + (1 + (q : Int))) = (p : Int) + (1 + (q : Int)) := IntWalk.i64_in _ (by omega)
        clear hnx hq hat hlen
        go_wp2_with fail
        go_round
        case rel => exact ⟨p + 1 + q, by omega, by go_num, HN⟩
        case measure => simp [intOf]; omega
    · have hge : (s.size : Int) ≤ p := by omega
      have hlt' : ¬ (p : Int) < s.size := by omega
      have hfin : Hid (∀ n t, ¬ IsCut s.data.toList n t) := Lib.hid (fun n t hc => hat.out.over (by omega) n t hc)
      clear hat hlen hlt
      go_wp2_with fail
      go_ret3
      exact ⟨Below.refl _ _, .inr ⟨hfin.out, rfl⟩⟩
end Go.Proofs.Ytoacmdjbmbdjdaa
