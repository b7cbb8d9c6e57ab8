/- The contract of a device's Segments; the document's example of layer 23. -/
import Derived.Test.YtidpffgdndjgpaaDevC
import Derived.Lib.SlBytesConst
namespace Go.Proofs.Ytidpffgdndjgpaa
open Go.RowKit
set_option linter.unusedVariables false
set_option maxRecDepth 20000
/-- A slice of slices that the call made: each reads as the bytes. -/
structure Cp (B0 : Nat) (W0 : World) (segs : List (List UInt8)) (v : Value) (vals : List Value) (w : World) : Prop where
  ob : OB B0 W0 v segs.length vals w
  each : ∀ (i : Nat) (u : Value) (s : List UInt8), vals[i]? = some u → segs[i]? = some s → OB B0 W0 u s.length (s.map bv) w
  ne : ∀ u ∈ vals, ∀ k, u.ownBlock = some k → v.ownBlock ≠ some k
section
variable {B0 : Nat} {W0 : World} {ss : List (List UInt8)} {v : Value} {vals : List Value} {w w' : World}
def IsCp (B0 : Nat) (W0 : World) (segs : List (List UInt8)) (e : Ending) (w : World) : Prop := ∃ v vals, e = .returned v ∧ Cp B0 W0 segs v vals w
theorem Cp.start (w : World) : Cp w.heap.size w [] (.slice none 0 0) [] w := ⟨OB.start w, by intro i u s h; simp at h, by intro u h; cases h⟩
theorem Cp.keep (h : Cp B0 W0 ss v vals w) (hb : Below w.heap.size w w') : Cp B0 W0 ss v vals w' :=
  ⟨h.ob.keep hb (Nat.le_refl _), fun i u s h1 h2 => (h.each i u s h1 h2).keep hb (Nat.le_refl _), h.ne⟩
theorem Cp.vlt (h : Cp B0 W0 ss v vals w) (u : Value) (hu : u ∈ vals) (k : Nat) (hk : u.ownBlock = some k) : k < w.heap.size := by
  obtain ⟨i, hi⟩ := List.getElem?_of_mem hu
  have hl := (List.getElem?_eq_some_iff.1 hi).1
  rw [h.ob.len] at hl
  exact ((h.each i u _ hi (List.getElem?_eq_getElem hl)).lt k hk).2
theorem Cp.snoc (h : Cp B0 W0 ss v vals w) {u v' : Value} {s : List UInt8} (hu : OB B0 W0 u s.length (s.map bv) w) (hne : ∀ k, u.ownBlock = some k → v.ownBlock ≠ some k)
    (ho : OB B0 W0 v' (ss.length + 1) (vals ++ [u]) w') (hs : w.heap.size ≤ w'.heap.size) (hk : ∀ k, k < w.heap.size → some k ≠ v.ownBlock → w'.heap[k]? = w.heap[k]?) (hv : v'.ownBlock = v.ownBlock ∨ v'.ownBlock = some w.heap.size) :
    Cp B0 W0 (ss ++ [s]) v' (vals ++ [u]) w' := by
  refine ⟨by rw [List.length_append]; exact ho, ?_, ?_⟩
  · intro i x t hi ht
    rw [List.getElem?_append] at hi ht
    by_cases hlt : i < vals.length
    · rw [if_pos hlt] at hi
      rw [if_pos (by rw [← h.ob.len]; exact hlt)] at ht
      have hoo := h.each i x t hi ht
      exact hoo.block ho.bel hs (fun k e => hk k (hoo.lt k e).2 (fun q => h.ne x (List.mem_of_getElem? hi) k e q.symm))
    · rw [if_neg hlt] at hi
      rw [if_neg (by rw [← h.ob.len]; exact hlt)] at ht
      have hx : x = u := by have := List.mem_of_getElem? hi; simpa using this
      have hy : t = s := by have := List.mem_of_getElem? ht; simpa using this
      subst hx hy
      exact hu.block ho.bel hs (fun k e => hk k (hu.lt k e).2 (fun q => hne k e q.symm))
  · intro x hx k e q
    have hxk : k < w.heap.size ∧ v.ownBlock ≠ some k := by
      rcases List.mem_append.1 hx with hx | hx
      · exact ⟨h.vlt x hx k e, h.ne x hx k e⟩
      · simp at hx; subst hx; exact ⟨(hu.lt k e).2, hne k e⟩
    rcases hv with r | r
    · rw [r] at q; exact hxk.2 q
    · rw [r] at q; injection q with q; omega
theorem Cp.at_ (h : Cp B0 W0 ss v vals w) (k : Nat) (hk : k < ss.length) :
    ∃ g A c cap, v = .slice (some ⟨g, 0, none⟩) ss.length cap ∧ B0 ≤ g ∧ g < w.heap.size ∧ w.cell? ⟨g, k, none⟩ = some (.slice A ss[k].length c) ∧ ss[k].length ≤ c ∧ c ≤ maxLen ∧ (A = none → ss[k].length = 0 ∧ c = 0) ∧ OB B0 W0 (.slice A ss[k].length c) ss[k].length (ss[k].map bv) w := by
  have hl := h.ob.len
  have hv : vals[k]? = some (vals[k]'(by omega)) := List.getElem?_eq_getElem (by omega)
  have ho := h.each k _ _ hv (List.getElem?_eq_getElem hk)
  obtain ⟨A, c, e, h1, h2, h3⟩ := ho.slice
  rw [e] at hv ho
  rcases h.ob.own with ⟨_, h0⟩ | ⟨g, cap, hv0, r1, r2, q1, q2, q3, q4⟩
  · omega
  · exact ⟨g, A, c, cap, hv0, r1, r2, q4 _ _ hv, h1, h2, h3, ho⟩
end
section
variable {F : Nat → Prop} {B : Nat} {W : World} {d : Nat} {segs : List (List UInt8)} {safe writes : Nat} {w : World}
set_option maxHeartbeats 1600000 in
theorem segments_any (h : DevE F B W d segs safe writes w) (hn : segs.length ≤ 5864062014634) (hbig : ∀ s ∈ segs, s.length ≤ 140737488355328) :
    Calls Try.prog 23 #[.pointer (some ⟨d, 0, none⟩)] w (IsCp w.heap.size w segs) := by
  obtain ⟨SV, vals, h⟩ := h
  have c0 := h.cs.get 0 _
  have q0 := h.cs.lt
  obtain ⟨A0, cap0, rfl, h63, -, hA0⟩ := h.ob.slice
  obtain ⟨i0, hi, hz0, hz1, hz2⟩ := info_parts seg_info
  have H := Lib.hid h
  have HB := Lib.hid hbig
  have h0 : Hid (Cp w.heap.size w (segs.take 0) (.slice none 0 0) [] w) := Lib.hid (Cp.start w)
  clear h hbig
  go_enter Try.func23, Try.ntmps23
  go_wp2_with fail
  go_loopw [3, 11] (fun o i wr => ∃ k : Nat, k ≤ segs.length ∧ i = .int .i64 k ∧ ∃ vs, Hid (Cp w.heap.size w (segs.take k) o vs wr)) (fun _ i _ => segs.length - (intOf i).toNat)
  case atStart => exact ⟨0, Nat.zero_le _, rfl, _, h0⟩
  case round =>
    obtain ⟨k, hk, rfl, vs, hcp⟩ := hrel
    have hbel := hcp.out.ob.bel
    by_cases hlt : k < segs.length
    · obtain ⟨g, A, c, rfl, e1, e2, e3, e4, e5⟩ := (H.out.keep hbel).at_ k hlt
      have hlt' : (k : Int) < segs.length := by omega
      have hsk := HB.out _ (List.getElem_mem hlt)
      have htk : (segs.take k).length = k := by rw [List.length_take]; omega
      obtain ⟨Ao, co, ho, -⟩ := hcp.out.ob.slice
      rw [htk] at ho
      subst ho
      have CL := Lib.hid (clone_ob A segs[k].length c segs[k] wr _ e5.sl e4 hsk)
      have hd0 := hbel.cell (p := ⟨d, 0, none⟩) q0
      rw [c0] at hd0
      have HBL := Lib.hid hbel
      have HTK := Lib.hid htk
      clear e5 hbel e4 htk hd0
      go_wp2_with fail
      refine CL.out.mono ?_
      clear CL
      rintro e w2 ⟨v, rfl, hv⟩
      obtain ⟨Av, cv, rfl, -⟩ := hv.slice
      have hb2 := hv.bel
      have hcp2 := hcp.out.keep hb2
      have hv2 := hv.out HBL.out.size HBL.out
      have hnew := hcp2.ob.alloc (.cells #[.slice Av segs[k].length cv] 23)
      rw [HTK.out] at hnew
      have hsrc := Src.ofSlice (P := Try.prog) (size := 1) (w2.alloc (.cells #[.slice Av segs[k].length cv] 23)) Try.underlying22 ⟨w2.heap.size, 0, none⟩ 1 1 [.slice Av segs[k].length cv] rfl (news_at w2 #[.slice Av segs[k].length cv] 23) (by intro u hu; simp at hu; subst hu; rfl)
      have HV := Lib.hid hv
      have HV2 := Lib.hid hv2
      have HC2 := Lib.hid hcp2
      clear hv hb2 hcp2 hv2 e1
      go_wp2_with (at_builtin; go_loud (refine wpList_append_ob rfl _ _ 22 22 rfl 23 i0 _ 24 Try.underlying22 hi hz0 hz1 hz2 rfl hnew rfl rfl hsrc (by unfold maxLen; omega) (by omega) ?_))
      intro v' w' o1 o2 o3 o4
      have hz : (w2.alloc (.cells #[.slice Av segs[k].length cv] 23)).heap.size = w2.heap.size + 1 := by simp
      rw [← hz] at o2 o3 o4
      have hba := (Below.refl w2.heap.size w2).alloc (Nat.le_refl _) (.cells #[.slice Av segs[k].length cv] 23)
      have hcp3 := HC2.out.keep hba
      have hv3 := HV2.out.keep hba (Nat.le_refl _)
      have hfin := hcp3.snoc hv3 (fun q e1 e2 => by have r1 := (HV.out.lt q e1).1; have r2 := (hcp.out.ob.lt q e2).2; omega) (by rw [HTK.out]; exact o1) o2 o3 o4
      rw [← List.take_succ_eq_append_getElem hlt] at hfin
      have HF := Lib.hid hfin
      clear hfin hcp3 hv3 hba o1 o2 o3 o4 hz hsrc hnew
      go_wp2_with fail
      go_roundw
      case rel => exact ⟨k + 1, by omega, by go_num, _, HF⟩
      case measure => simp [intOf]; omega
    · have hlt' : ¬ (k : Int) < segs.length := by omega
      have hc := hcp.out
      rw [List.take_of_length_le (by omega)] at hc
      have HC := Lib.hid hc
      clear hc hbel
      go_wp2_with fail
      go_ret
      exact ⟨_, _, rfl, HC.out⟩
end
section
variable {F F' : Nat → Prop} {B : Nat} {W : World} {d : Nat} {segs : List (List UInt8)} {safe writes : Nat} {w w' : World}
theorem DevE.less (h : DevE F B W d segs safe writes w) (hF : ∀ k, F' k → F k) : DevE F' B W d segs safe writes w := by
  obtain ⟨SV, vals, h⟩ := h; exact ⟨_, _, h.less hF⟩
theorem DevE.wide (h : DevE F B W d segs safe writes w) (hb : Below w.heap.size w w') (hF : ∀ k, F' k → F k ∨ (w.heap.size ≤ k ∧ k < w'.heap.size)) : DevE F' B W d segs safe writes w' := by
  obtain ⟨SV, vals, h⟩ := h; exact ⟨_, _, h.wide hb hF⟩
theorem DevE.bel (h : DevE F B W d segs safe writes w) : Below B W w := by
  obtain ⟨SV, vals, h⟩ := h; exact h.ob.bel
/-- Append of a constant's bytes. -/
theorem append_const (C : Array Value) (e : TypeId) (lo hi : Nat) (l : List UInt8) (hC : C.toList = l.map bv) (n c : Nat) (hn : l.length = n) (h : DevE F B W d segs safe writes w) (hlen : lastN segs + n ≤ 140737488355328) (hsegs : segs.length ≤ 5864062014634) (hw : writes ≤ 4611686018427387904) :
    Calls Try.prog 8 #[.pointer (some ⟨d, 0, none⟩), .slice (some ⟨w.heap.size, 0, none⟩) n c] (w.alloc (.cells C e (lo, hi))) fun e' w' => e' = .returned (.tuple #[]) ∧ DevE F B W d (appS segs l) (if segs = [] then 0 else safe) (writes + 1) w' ∧ Keep F w w' := by
  have hb : Below w.heap.size w (w.alloc (.cells C e (lo, hi))) := (Below.refl _ _).alloc (Nat.le_refl _) _
  have h2 : DevE (fun k => F k ∨ k = w.heap.size) B W d segs safe writes (w.alloc (.cells C e (lo, hi))) := h.wide hb (fun k hk => by
    rcases hk with hk | hk
    · exact .inl hk
    · exact .inr (by simp; omega))
  have hS := Sl.freshM w C e lo hi n (l.map bv) hC (by simpa using hn)
  refine (append_any (some ⟨w.heap.size, 0, none⟩) n c _ l hS (by intro q; cases q) (fun a q _ => .inr (by injection q with q; rw [← q])) h2 hlen hsegs hw).mono ?_
  rintro e' w' ⟨q1, q2, q3⟩
  exact ⟨q1, q2.less (fun k hk => .inl hk), (Keep.below h.fl hb).trans ⟨q3.1, fun k hk => q3.2 k (.inl hk)⟩⟩
end
theorem device_new (w : World) (T : TypeId) : Dev (fun k => k < w.heap.size) w.heap.size w w.heap.size (.slice none 0 0) [] [] 0 0 (w.alloc (.cells #[.slice none 0 0, .int .i64 0, .int .i64 0] T)) := by
  have hb : Below w.heap.size w (w.alloc (.cells #[.slice none 0 0, .int .i64 0, .int .i64 0] T)) := (Below.refl _ _).alloc (Nat.le_refl _) _
  refine ⟨(fun k q => by simp at q ⊢; omega), (by simp), (by intro k e; cases e), (by intro v hv; cases hv), Nat.le_refl _, Cs.new w #[.slice none 0 0, .int .i64 0, .int .i64 0] T _ rfl, OB.nil hb (by simp), (by simp [Value.ownBlock]), (by intro i v s hv; simp at hv), (by intro v hv; cases hv), (by intro v hv; cases hv), (by intro i j u v k hij hi; simp at hi)⟩
set_option maxHeartbeats 1600000 in
theorem awake23 (w : World) : Calls Try.prog 19 #[] w fun e w' => e = .returned (.bool true) ∧ Below w.heap.size w w' := by
  go_enter Try.func19, Try.ntmps19
  have hD := device_new w 27
  have hz : (w.alloc (.cells #[.slice none 0 0, .int .i64 0, .int .i64 0] 27)).heap.size = w.heap.size + 1 := by simp
  have kc := Lib.run_convert_bytes_const (P := Try.prog) (w.alloc (.cells #[.slice none 0 0, .int .i64 0, .int .i64 0] 27)) 23 5 #[.int .u8 97, .int .u8 98] 2 2 Try.underlying23 Try.underlying5
  rw [hz] at kc
  have KC := Lib.hid kc
  have HD := Lib.hid hD
  have HZ := Lib.hid hz
  clear kc hD hz
  go_wp2_with fail
  rw [KC.out]
  generalize (w.alloc (.cells #[.slice none 0 0, .int .i64 0, .int .i64 0] 27)) = W1 at *
  have hz := HZ.out
  obtain ⟨d, hd⟩ : ∃ d, d = w.heap.size := ⟨_, rfl⟩
  have HDD := Lib.hid hd
  have h1 : DevE (fun k => k < w.heap.size) w.heap.size w d [] 0 0 W1 := by rw [hd]; exact ⟨_, _, HD.out⟩
  rw [← hd] at hz ⊢
  have hp : d + 1 = W1.heap.size := hz.symm
  have HP := Lib.hid hp
  have A1 := append_const #[.int .u8 97, .int .u8 98] 5 2 3 [97, 98] rfl 2 2 rfl h1 (by decide) (by decide) (by decide)
  rw [hz] at A1
  have A1 := Lib.hid A1
  clear KC HD HZ hz hd hp h1
  go_wp2_with fail
  refine A1.out.mono ?_
  clear A1
  rintro e w2 ⟨rfl, h2, -⟩
  have h2 : DevE (fun k => k < w.heap.size) w.heap.size w d [[97, 98]] 0 1 w2 := h2
  have S1 := Lib.hid (sync_any h2)
  clear h2
  go_wp2_with fail
  refine S1.out.mono ?_
  clear S1
  rintro e w3 ⟨rfl, h3, -⟩
  have h3 : DevE (fun k => k < w.heap.size) w.heap.size w d [[97, 98]] 2 1 w3 := h3
  have kc := Lib.run_convert_bytes_const (P := Try.prog) w3 23 5 #[.int .u8 99, .int .u8 100] 2 2 Try.underlying23 Try.underlying5
  have A2 := Lib.hid (append_const #[.int .u8 99, .int .u8 100] 5 2 3 [99, 100] rfl 2 2 rfl h3 (by decide) (by decide) (by decide))
  have KC := Lib.hid kc
  clear h3 kc
  go_wp2_with fail
  rw [KC.out]
  clear KC
  go_wp2_with fail
  refine A2.out.mono ?_
  clear A2
  rintro e w4 ⟨rfl, h4, -⟩
  have h4 : DevE (fun k => k < w.heap.size) w.heap.size w d [[97, 98, 99, 100]] 2 2 w4 := h4
  have C1 := Lib.hid (crash_any 1 (by decide) (by decide) h4 (by decide))
  clear h4
  go_wp2_with fail
  refine C1.out.mono ?_
  clear C1
  rintro e w5 ⟨rfl, h5, -⟩
  have h5 : DevE (fun k => k < w.heap.size) w.heap.size w d [[97, 98, 99]] 3 2 w5 := h5
  have G1 := Lib.hid (segments_any h5 (by decide) (by intro s hs; simp at hs; subst hs; decide))
  have H5 := Lib.hid h5
  clear h5
  go_wp2_with fail
  refine G1.out.mono ?_
  clear G1
  rintro e w6 ⟨v, vals, rfl, hcp⟩
  obtain ⟨g, A, c, cap, rfl, -, q6, e1, e2, e3, e4, e5⟩ := hcp.at_ 0 (by decide)
  have hbel := hcp.ob.bel
  have h6 := H5.out.keep hbel
  have SA := Lib.hid (safe_any h6 (by decide) (by decide) (by decide))
  have hcv := run_string_of (P := Try.prog) w6 23 9 5 _ A 3 [97, 98, 99] Try.underlying23 Try.underlying5 Try.underlying9 e5.sl (fun h => (e4 h).1) c
  have e1 : w6.cell? ⟨g, 0, none⟩ = some (.slice A 3 c) := e1
  have hw6 := Lib.hid h6.bel
  clear hcp e2 e3 e4 e5 hbel h6 H5
  go_wp2_with fail
  refine SA.out.mono ?_
  clear SA
  rintro e w7 ⟨rfl, k, rfl⟩
  go_wp2_with fail
  go_ret
  exact ⟨rfl, below_drewN hw6.out _⟩
end Go.Proofs.Ytidpffgdndjgpaa
