/- DeviceScript's helper 'same'; what the law keeps of a device's segments. -/
import Derived.Test.YtidpffgdndjgpaaJW
import Derived.Outline
namespace Go.Proofs.Ytidpffgdndjgpaa
open Go.RowKit
set_option linter.unusedVariables false
set_option linter.unusedSimpArgs false
set_option maxRecDepth 20000
def strW' (l : List UInt8) : Value := .string ⟨l.toArray⟩
/-- An own slice of one element, just built. -/
theorem ob_one (w : World) (u : Value) (hu : u.oneCell' = true) (T : TypeId) {d : Nat} {w1 : World} (hb : Below d w1 w) (hd : d ≤ w.heap.size) : OB d w1 (.slice (some ⟨w.heap.size, 0, none⟩) 1 1) 1 [u] (w.alloc (.cells #[u] T)) := by
  refine ⟨hb.alloc hd _, by simp; omega, rfl, .inr ⟨w.heap.size, 1, rfl, hd, by simp, Nat.le_refl _, by unfold maxLen; omega, fun j hj => ?_, fun j v hv => ?_⟩⟩
  · obtain rfl : j = 0 := by omega
    refine ⟨by simp, ?_⟩
    simp [World.frozen?_alloc_at]
  · cases j with
    | zero => simp at hv; subst hv; simp
    | succ j => simp at hv
attribute [local simp] putsF isV wordOf Deps Region.binds Region.wanted Act.put wantedX isB
set_option maxHeartbeats 1600000 in
theorem same_yes {B0 C : Nat} {W0 W1 : World} {segs : List (List UInt8)} {v3 v1 : Value} {vs3 : List Value} (w : World) (hc : Cp B0 W0 segs v3 vs3 w) (ho : OB C W1 v1 segs.length (segs.map strW') w) :
    Calls Try.prog 22 #[v3, v1] w fun e w' => e = .returned (.bool true) ∧ Below w.heap.size w w' := by
  obtain ⟨A3, c3, rfl, -, hm3, -⟩ := hc.ob.slice
  obtain ⟨A1, c1, rfl, -⟩ := ho.slice
  have CP := Lib.hid hc
  have OO := Lib.hid ho
  have hlen : segs.length ≤ maxLen := by obtain ⟨_, _, e, h1, h2, _⟩ := hc.ob.slice; omega
  unfold maxLen at hlen
  have hkk : ((segs.length : Int) != (segs.length : Int)) = false := by simp
  clear hc ho
  go_enter Try.func22, Try.ntmps22
  go_wp2_with fail
  go_loopw [13] (fun i wr => ∃ q : Nat, q ≤ segs.length ∧ i = .int .i64 q ∧ Below w.heap.size w wr) (fun i _ => segs.length - (intOf i).toNat)
  case atStart => exact ⟨0, Nat.zero_le _, rfl, Below.refl _ _⟩
  case round =>
    obtain ⟨q, hq', rfl, hbw⟩ := hrel
    by_cases hlt2 : q < segs.length
    · have hlt2i : (q : Int) < segs.length := by omega
      obtain ⟨gs, Aj, cj, cap, hvv, -, q6, y6, k1, k2, k3, ks⟩ := CP.out.at_ q hlt2
      injection hvv with hv1 hv2 hv3
      subst hv1
      rcases OO.out.own with ⟨r, r0⟩ | ⟨gw, cap2, r, t1, t2, t3, t4, t5, t6⟩
      · omega
      injection r with r1 r2 r3
      subst r1
      obtain ⟨sk, hsk⟩ : ∃ sk, sk = segs[q] := ⟨_, rfl⟩
      rw [← hsk] at y6 k1 k3 ks
      obtain ⟨lk, hlk⟩ : ∃ lk, lk = sk.length := ⟨_, rfl⟩
      rw [← hlk] at y6 k1 k3 ks
      have hqa : segs[q]? = some sk := by rw [hsk]; exact List.getElem?_eq_getElem hlt2
      obtain ⟨RK, hRK⟩ : ∃ RK, RK = ByteArray.mk sk.toArray := ⟨_, rfl⟩
      have d6 : w.cell? ⟨gw, q, none⟩ = some (.string RK) := t6 q _ (by rw [List.getElem?_map, hqa, hRK]; rfl)
      have q7 : gs < wr.heap.size := Nat.lt_of_lt_of_le q6 hbw.size
      have q8 : gw < wr.heap.size := Nat.lt_of_lt_of_le t2 hbw.size
      have c7 := (hbw.cell (p := ⟨gs, q, none⟩) q6).trans y6
      have c8 := (hbw.cell (p := ⟨gw, q, none⟩) t2).trans d6
      have KS : Hid (Sl wr wr.heap.size 1 Aj lk (sk.map bv)) := Lib.hid ((ks.sl.below hbw).more hbw.size)
      have HK3 : Hid (Aj = none → lk = 0) := Lib.hid (fun e => (k3 e).1)
      have HRK := Lib.hid hRK
      have hi2 : IntKind.i64.wrap ((q : Int) + 1) = (q : Int) + 1 := IntWalk.i64_in _ (by omega)
      clear hsk hlk hRK d6 y6 ks k1 k3 t5 t6 hqa t3 t4 k2 r2 r3 hv2 hv3
      go_upto_region 6 with fail
      refine wp_region_goesG dev_follows (fun x => by simp [putsF, Act.put]; rfl) wr.heap.size wr
        [isV (.slice (some ⟨gs, 0, none⟩) segs.length c3), isV (.int .i64 q), isV (.pointer (some ⟨gs, q, none⟩)), isV (.slice Aj lk cj), isV (.string RK), isV (.slice (some ⟨gw, 0, none⟩) segs.length c1), isV (.int .i64 q), isV (.pointer (some ⟨gw, q, none⟩)), isV (.string RK), isV (.bool false)]
        (by kernel_rfl) (by kernel_rfl) (by kernel_rfl) rfl ?_ (Below.refl _ _) ?_ ?_
      · repeat (first | exact trivial | refine ⟨isV_stays _, ?_⟩)
      · refine ⟨?_, ?_, ?_, ?_, ?_, ?_, ?_, ?_, ?_, ?_, trivial⟩
        all_goals
          intro x wx hR hd
          simp at hd ⊢
        all_goals try simp [hd]
        all_goals first
          | (go_simp; exact next_same _ rfl rfl hR)
          | (have f0 := (hR.cell (p := ⟨gs, q, none⟩) q7).trans c7; go_simp; exact next_same _ rfl rfl hR)
          | (have f0 := (hR.cell (p := ⟨gw, q, none⟩) q8).trans c8; go_simp; exact next_same _ rfl rfl hR)
          | (have hv := run_string_of (P := Try.prog) wx 23 9 5 _ Aj lk sk Try.underlying23 Try.underlying5 Try.underlying9 (KS.out.below hR) HK3.out cj; rw [← HRK.out] at hv; go_simp; exact next_same _ rfl rfl hR)
          | skip
        all_goals trace_state
      intro x wy hby hx
      simp [AllWords] at hx ⊢
      have hx29 : x 9 = .bool false := by simp [hx]
      clear hx
      rw [hx29]
      have hbw' := hbw.trans (hby.mono hbw.size)
      go_wp2_with fail
      go_roundw
      case rel => exact ⟨q + 1, by omega, by go_num, hbw'⟩
      case measure => simp [intOf]; omega
    · obtain rfl : q = segs.length := by omega
      have hlt2i : ¬ (segs.length : Int) < segs.length := by omega
      go_wp2_with fail
      go_ret
      exact ⟨rfl, hbw⟩
end Go.Proofs.Ytidpffgdndjgpaa
