/- The contracts of the statements' records by numbers: one record. -/
import Derived.Test.YtpbbnpglcadimaaDoorActE
import Derived.Test.YtpbbnpglcadimaaDoorData
import Derived.Test.YtpbbnpglcadimaaDoorViewA
import Derived.Test.YtpbbnpglcadimaaDoorReg5
import Derived.Test.YtpbbnpglcadimaaDoorCs
namespace Go.Proofs.YtpbbnpglcadimaaDoor
open Go.RowKit
set_option linter.unusedVariables false
set_option linter.unusedSimpArgs false
set_option maxRecDepth 20000
attribute [local simp] putsF isV wordOf Deps Region.binds Region.wanted Act.put wantedX isB
def intsB (l : List UInt8) : List Int := l.map fun b => (b.toNat : Int)
theorem intsB_bv (l : List UInt8) : (intsB l).map (Value.int .u8) = l.map bv := by unfold intsB; rw [List.map_map]; rfl
theorem intsB_ok (l : List UInt8) : ∀ z ∈ intsB l, 0 ≤ z ∧ z < 256 := by
  intro z hz
  obtain ⟨b, _, rfl⟩ := List.mem_map.1 hz
  have := b.toNat_lt
  omega
def nmB (l : List UInt8) : ByteArray := ⟨(nameZ (intsB l)).toArray⟩
/-- A text's first 30 bytes. -/
def txtB (s : ByteArray) : ByteArray := s.extract 0 (min s.size 30)
def recOf (a : ActT) : RecT := (nmB a.1.2.2.2, ((dataOf (a.2.1.toNat % 8) (nmB a.2.2.2.1.2.2.2) (txtB a.2.2.2.2)).1 : Int), a.2.2.1, (dataOf (a.2.1.toNat % 8) (nmB a.2.2.2.1.2.2.2) (txtB a.2.2.2.2)).2)
def actCells (a : ActT) : List Value := [rowV a.1, .int .u8 a.2.1, .int .u32 a.2.2.1, rowV a.2.2.2.1, .string a.2.2.2.2]
def actA (a : ActT) : Value := .agg #[rowV a.1, .int .u8 a.2.1, .int .u32 a.2.2.1, rowV a.2.2.2.1, .string a.2.2.2.2]
structure ActOk (w : World) (a : ActT) : Prop where
  r1 : Sl w w.heap.size 1 a.1.1 a.1.2.1 (a.1.2.2.2.map bv)
  n1 : a.1.2.1 ≤ maxLen
  k : 0 ≤ a.2.1 ∧ a.2.1 < 256
  t : 0 ≤ a.2.2.1 ∧ a.2.2.1 < 4294967296
  r2 : Sl w w.heap.size 1 a.2.2.2.1.1 a.2.2.2.1.2.1 (a.2.2.2.1.2.2.2.map bv)
  n2 : a.2.2.2.1.2.1 ≤ maxLen
  s : a.2.2.2.2.size ≤ maxLen
theorem ActOk.below {w w' : World} {a : ActT} (h : ActOk w a) (hb : Below w.heap.size w w') : ActOk w' a :=
  ⟨(h.r1.below hb).more hb.size, h.n1, h.k, h.t, (h.r2.below hb).more hb.size, h.n2, h.s⟩
theorem nameB_any (r : RowT) (w : World) (h : Sl w w.heap.size 1 r.1 r.2.1 (r.2.2.2.map bv)) (hn : r.2.1 ≤ maxLen) :
    Calls Tryd.prog 20 #[rowV r] w fun e w' => e = .returned (.string (nmB r.2.2.2)) ∧ Below w.heap.size w w' :=
  name_any r.1 r.2.1 r.2.2.1 (intsB r.2.2.2) w (by rw [intsB_bv]; exact h) (intsB_ok _) hn
theorem dataB_any (k : Nat) (hk : k < 65536) (r : RowT) (s : ByteArray) (w : World) (h : Sl w w.heap.size 1 r.1 r.2.1 (r.2.2.2.map bv)) (hn : r.2.1 ≤ maxLen) (hs : s.size ≤ 30) :
    Calls Tryd.prog 50 #[.int .u16 k, rowV r, .string s] w fun e w' => e = .returned (.tuple #[.int .u16 ((dataOf (k % 8) (nmB r.2.2.2) s).1 : Nat), .string (dataOf (k % 8) (nmB r.2.2.2) s).2]) ∧ Below w.heap.size w w' := by
  refine (data_any k hk r.1 r.2.1 r.2.2.1 (intsB r.2.2.2) s w (by rw [intsB_bv]; exact h) (intsB_ok _) hn hs).mono ?_
  rintro e w' ⟨⟨t, d, rfl, -, -, hd⟩, hb⟩
  refine ⟨?_, hb⟩
  unfold nmB
  rw [hd]
set_option maxHeartbeats 1600000 in
theorem record_any (a : ActT) (w : World) (h : ActOk w a) :
    Calls Tryd.prog 27 #[actA a] w fun e w' => e = .returned (recV (recOf a)) ∧ Below w.heap.size w w' := by
  obtain ⟨r, k, ttl, r', s⟩ := a
  obtain ⟨kn, rfl⟩ : ∃ kn : Nat, k = kn := ⟨k.toNat, by have := h.k.1; simp at this; omega⟩
  have hk1 : kn < 256 := by have := h.k.2; simp at this; omega
  have ht0 := h.t.1
  have hss := h.s
  obtain ⟨N, hN⟩ : ∃ N, N = nmB r.2.2.2 := ⟨_, rfl⟩
  obtain ⟨M, hM⟩ : ∃ M, M = txtB s := ⟨_, rfl⟩
  have hMs : M.size ≤ 30 := by rw [hM, txtB, ByteArray.size_extract]; omega
  obtain ⟨q, hq⟩ : ∃ q, q = dataOf (kn % 8) (nmB r'.2.2.2) M := ⟨_, rfl⟩
  obtain ⟨qt, hqt⟩ : ∃ t : Nat, t = q.1 := ⟨_, rfl⟩
  obtain ⟨qd, hqd⟩ : ∃ t : ByteArray, t = q.2 := ⟨_, rfl⟩
  have hrec : recOf (r, (kn : Int), ttl, r', s) = (N, (qt : Int), ttl, qd) := by
    unfold recOf; simp only [Int.toNat_natCast]; rw [← hM, ← hq, ← hN, ← hqt, ← hqd]
  have NM := Lib.hid (fun w (h : Sl w w.heap.size 1 r.1 r.2.1 (r.2.2.2.map bv)) => nameB_any r w h)
  have DT := Lib.hid (fun w (h' : Sl w w.heap.size 1 r'.1 r'.2.1 (r'.2.2.2.map bv)) (hn : r'.2.1 ≤ maxLen) => dataB_any kn (by omega) r' M w h' hn hMs)
  rw [← hq, ← hqt, ← hqd] at DT
  rw [← hN] at NM
  rw [hrec]
  have HM := Lib.hid hM
  have H := Lib.hid h
  clear hN hM hq hqt hqd hrec h
  obtain ⟨A1, n1, c1, l1⟩ := r
  obtain ⟨A2, n2, c2, l2⟩ := r'
  unfold actA recV
  unfold rowV at NM DT ⊢
  simp only at NM DT ⊢
  obtain ⟨L, hL, hL2⟩ : ∃ L : Nat, ((s.size ≤ 30 ∧ L = s.size) ∨ (30 < s.size ∧ L = 30)) ∧ L ≤ s.size := by
    rcases Nat.lt_or_ge 30 s.size with h | h
    · exact ⟨30, .inr ⟨h, rfl⟩, by omega⟩
    · exact ⟨s.size, .inl ⟨h, rfl⟩, by omega⟩
  have hE : s.extract 0 L = M := by
    rw [HM.out]; unfold txtB
    rcases hL with ⟨h, rfl⟩ | ⟨h, rfl⟩
    · rw [Nat.min_eq_left h]
    · rw [Nat.min_eq_right (by omega)]
  obtain ⟨W, hW⟩ : ∃ W, W = (w.alloc (.cells #[.slice A1 n1 c1, .int .u8 (kn : Nat), .int .u32 ttl, .slice A2 n2 c2, .string s] 75)).alloc (.cells #[.string ⟨#[]⟩, .int .u16 0, .int .u32 0, .string ⟨#[]⟩] 41) := ⟨_, rfl⟩
  have hz : w.heap.size + 2 = W.heap.size := by rw [hW]; simp
  have hb0 : Below w.heap.size w W := by rw [hW]; exact ((Below.refl _ _).alloc (Nat.le_refl _) _).alloc (by simp) _
  have hC : Cs W w.heap.size [.slice A1 n1 c1, .int .u8 (kn : Nat), .int .u32 ttl, .slice A2 n2 c2, .string s] := by rw [hW]; exact (Cs.new w _ _ _).alloc _
  have hG : Cs W (w.heap.size + 1) [.string ⟨#[]⟩, .int .u16 0, .int .u32 0, .string ⟨#[]⟩] := by rw [hW]; exact (Cs.new _ _ _ _).at_ _ (by simp)
  obtain ⟨b, hb⟩ : ∃ b, b = w.heap.size := ⟨_, rfl⟩
  have hlt := hC.lt
  have hlg := hG.lt
  go_enter Tryd.func27, Tryd.ntmps27
  obtain ⟨g, hg⟩ : ∃ g, g = w.heap.size + 1 := ⟨_, rfl⟩
  rw [← hb] at hC hlt
  rw [← hg] at hG hlg
  have HGG := Lib.hid hg
  have hbg : b ≠ g := by omega
  clear hg
  have HW := Lib.hid hW
  have HZ := Lib.hid hz
  have HBB := Lib.hid hb
  have HB0 := Lib.hid hb0
  clear hW hz hb hb0
  have hu8 : IntKind.u16.wrap (kn : Int) = (kn : Int) := by show (kn : Int) % 65536 = kn; omega
  have hLs : (L : Int) ≤ s.size := by omega
  have hss' : (s.size : Int) ≤ 9223372036854775807 := by unfold maxLen at hss; simp only at hss; omega
  have hlenM : (L = 30 ∧ 30 < s.size) ∨ (L = s.size ∧ s.size ≤ 30) := by omega
  go_upto_region 1 with fail
  rw [← HW.out]
  refine wp_region_goesG data_follows (fun x => by simp [putsF, Act.put]; rfl) W.heap.size W
    [isV (.pointer (some ⟨b, 1, none⟩)), isV (.int .u8 (kn : Nat)), isV (.int .u16 (kn : Nat)), isV (.pointer (some ⟨b, 3, none⟩)), isV (.slice A2 n2 c2), isV (.pointer (some ⟨b, 4, none⟩)), isV (.string s), isV (.pointer (some ⟨b, 4, none⟩)), isV (.string s),
     isV (.int .i64 (s.size : Nat)), isV (.int .i64 (L : Nat)), isV (.string M), isV (.tuple #[.int .u16 (qt : Nat), .string qd]), isV (.tuple #[.int .u16 (qt : Nat), .string qd]), isV (.int .u16 (qt : Nat)), isV (.string qd), isV (.int .u16 (qt : Nat)), isV (.string qd)]
    (by kernel_rfl) (by kernel_rfl) (by kernel_rfl) rfl ?_ (Below.refl _ _) ?_ ?_
  · repeat (first | exact trivial | refine ⟨isV_stays _, ?_⟩)
  · refine ⟨?_, ?_, ?_, ?_, ?_, ?_, ?_, ?_, ?_, ?_, ?_, ?_, ?_, ?_, ?_, ?_, ?_, ?_, trivial⟩
    all_goals
      intro x wr hR hd
      refine ⟨fun _ => ?_, fun hX => by simp at hX⟩
      simp at hd ⊢
      have k1 := (hR.cell (p := ⟨b, 1, none⟩) hlt).trans (hC.get 1 _)
      have k3 := (hR.cell (p := ⟨b, 3, none⟩) hlt).trans (hC.get 3 _)
      have k4 := (hR.cell (p := ⟨b, 4, none⟩) hlt).trans (hC.get 4 _)
    · have hq := HBB.out; go_simp; exact next_same _ rfl rfl hR
    · go_simp; exact next_same _ rfl rfl hR
    · go_simp; exact next_same _ rfl rfl hR
    · have hq := HBB.out; go_simp; exact next_same _ rfl rfl hR
    · go_simp; exact next_same _ rfl rfl hR
    · have hq := HBB.out; go_simp; exact next_same _ rfl rfl hR
    · go_simp; exact next_same _ rfl rfl hR
    · have hq := HBB.out; go_simp; exact next_same _ rfl rfl hR
    · go_simp; exact next_same _ rfl rfl hR
    · go_simp; exact next_same _ rfl rfl hR
    · rcases hlenM with ⟨rfl, hm⟩ | ⟨rfl, hm⟩
      · have m1 : (30 : Int) < s.size := by omega
        have m2 : ¬ (s.size : Int) ≤ 30 := by omega
        have m3 : ¬ (s.size : Int) < 30 := by omega
        go_simp; exact next_same _ rfl rfl hR
      · have m1 : (s.size : Int) ≤ 30 := by omega
        have m2 : (if (30 : Int) < (s.size : Int) then (30 : Int) else (s.size : Int)) = (s.size : Int) := if_neg (by omega)
        go_simp; exact next_same _ rfl rfl hR
    · obtain ⟨hd0, hd1⟩ := hd; go_simp; exact next_same _ rfl rfl hR
    · obtain ⟨hd0, hd1, hd2⟩ := hd
      go_simp
      go_at_call 50
      refine (DT.out wr ((H.out.r2.below ((HB0.out.mono (Nat.le_refl _)).trans (hR.mono HB0.out.size))).more (below_trans HB0.out HB0.out.size hR).size) H.out.n2).mono ?_
      rintro e w2 ⟨rfl, hb⟩
      exact next_call _ rfl rfl hR hR.size hb
    · go_simp; exact next_same _ rfl rfl hR
    · go_simp; exact next_same _ rfl rfl hR
    · go_simp; exact next_same _ rfl rfl hR
    · go_simp; exact next_same _ rfl rfl hR
    · go_simp; exact next_same _ rfl rfl hR
  · intro x wr hR hx
    simp [AllWords] at hx
    obtain ⟨-, -, -, -, -, -, -, -, -, -, -, -, -, -, -, -, h8, h9⟩ := hx
    rw [h8, h9]
    clear h8 h9
    go_upto_region 2 with fail
    have hCr := hC.below hR
    have hGr := hG.below hR
    have hBr := below_trans HB0.out HB0.out.size hR
    have hgw : w.heap.size ≤ g := by rw [HGG.out]; omega
    clear hR hC hG hlt hlg hu8 hlenM hLs hss'
    refine wp_region_store data_follows (fun x => by simp [putsF, Act.put]; rfl)
      (fun v => Below w.heap.size w v ∧ Cs v b [.slice A1 n1 c1, .int .u8 (kn : Nat), .int .u32 ttl, .slice A2 n2 c2, .string s] ∧ Cs v g [.string ⟨#[]⟩, .int .u16 0, .int .u32 0, .string ⟨#[]⟩])
      (fun v => Below w.heap.size w v ∧ Cs v g [.string N, .int .u16 (qt : Nat), .int .u32 ttl, .string qd]) (GoesBut g)
      [isV (.pointer (some ⟨b, 0, none⟩)), isV (.slice A1 n1 c1), isV (.string N), isV (.int .u16 (qt : Nat)), isV (.pointer (some ⟨b, 2, none⟩)), isV (.int .u32 ttl), isV (.string qd), isV (.agg #[.string N, .int .u16 (qt : Nat), .int .u32 ttl, .string qd]), fun _ _ => True]
      8 [] (by kernel_rfl) (by kernel_rfl) (by kernel_rfl) rfl (by kernel_rfl) (by kernel_rfl) ?_ (GoesBut.refl g) ⟨hBr.drew, hCr.drewN 1, hGr.drewN 1⟩ ?_ ?_ ?_ ?_
    · repeat (first | exact trivial | refine ⟨isV_stayX _ _, ?_⟩ | refine ⟨fun _ _ _ _ _ => trivial, ?_⟩)
    · refine ⟨?_, ?_, ?_, ?_, ?_, ?_, ?_, ?_, skipped rfl, trivial⟩
      all_goals
        intro _ x wr hR hd
        refine ⟨fun _ => ?_, fun hX => by simp at hX⟩
        simp at hd ⊢
        have k0 := hR.2.1.get 0 _
        have k2 := hR.2.1.get 2 _
      · go_simp; exact next_of _ rfl (by show Value.pointer _ = Value.pointer _; rw [HBB.out]) hR (GoesBut.refl _ _)
      · go_simp; exact next_of _ rfl rfl hR (GoesBut.refl _ _)
      · go_simp
        go_at_call 20
        refine (NM.out wr ((H.out.r1.below hR.1).more hR.1.size) H.out.n1).mono ?_
        rintro e w2 ⟨rfl, hb⟩
        exact next_of _ rfl rfl ⟨below_trans hR.1 hR.1.size hb, hR.2.1.below hb, hR.2.2.below hb⟩ (GoesBut.below hb)
      · go_simp; exact next_of _ rfl rfl hR (GoesBut.refl _ _)
      · go_simp; exact next_of _ rfl (by show Value.pointer _ = Value.pointer _; rw [HBB.out]) hR (GoesBut.refl _ _)
      · go_simp; exact next_of _ rfl rfl hR (GoesBut.refl _ _)
      · go_simp; exact next_of _ rfl rfl hR (GoesBut.refl _ _)
      · obtain ⟨hd0, hd1, hd2, hd3⟩ := hd; go_simp; exact next_of _ rfl rfl hR (GoesBut.refl _ _)
    · repeat (first | exact trivial | refine ⟨skipped rfl, ?_⟩)
    · intro x wr hR hx o ho
      simp [AllWordsIf] at hx
      obtain ⟨-, -, -, -, -, -, -, h7⟩ := hx
      obtain rfl := Option.some.inj ho
      rw [h7]
      have k0 := hR.2.2.get 0 _
      have k1 := hR.2.2.get 1 _
      have k2 := hR.2.2.get 2 _
      have k3 := hR.2.2.get 3 _
      have f0 := hR.2.2.froz 0
      have f1 := hR.2.2.froz 1
      have f2 := hR.2.2.froz 2
      have f3 := hR.2.2.froz 3
      rw [← HGG.out]
      have q := (((hR.2.2.set' 0 (.string N) (by decide)).set' 1 (.int .u16 (qt : Nat)) (by simp)).set' 2 (.int .u32 ttl) (by simp)).set' 3 (.string qd) (by simp)
      go_simp
      refine next_of undef rfl trivial ⟨?_, q⟩ ?_
      · iterate 4 (refine Below.setCell ?_ hgw _)
        exact hR.1
      · iterate 4 (refine GoesBut.then_set ?_ _ _)
        exact GoesBut.refl _ _
    · intro x wr hR hx
      rw [← HGG.out]
      have k0 := hR.2.get 0 _
      have k1 := hR.2.get 1 _
      have k2 := hR.2.get 2 _
      have k3 := hR.2.get 3 _
      go_wp2_with fail
      exact bodyPost_ret (v := .agg #[.string N, .int .u16 (qt : Nat), .int .u32 ttl, .string qd]) (by simp [results, Tryd.results27, go_sem, k0, k1, k2, k3]) rfl ⟨rfl, hR.1⟩
end Go.Proofs.YtpbbnpglcadimaaDoor
