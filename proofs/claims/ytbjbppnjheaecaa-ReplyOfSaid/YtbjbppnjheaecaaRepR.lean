/- The action of a choice by numbers. The reply by an action, and a choice's action, each in one word. -/
import Derived.Test.YtbjbppnjheaecaaRepL
import Derived.Test.YtbjbppnjheaecaaObw
import Derived.Outline
import Derived.Test.YtbjbppnjheaecaaRepP
namespace Go.Proofs.Ytbjbppnjheaecaa
open Go.RowKit
set_option linter.unusedVariables false
set_option linter.unusedSimpArgs false
set_option maxRecDepth 20000
attribute [local simp] putsF isV wordOf Deps Region.binds Region.wanted Act.put wantedX isB
/-- A string that is not long. -/
def fewW : Value → World → Prop := fun v _ => ∃ s : ByteArray, v = .string s ∧ s.size ≤ 84
theorem fewW_stays : ∀ v w w', fewW v w → Goes w w' → fewW v w' := fun _ _ _ h _ => h
def fewAt (g : Nat) : Value → World → Prop := fun _ w => ∃ s : ByteArray, w.cell? ⟨g, 1, none⟩ = some (.string s) ∧ s.size ≤ 84
theorem fewAt_stays (g : Nat) : ∀ v w w', fewAt g v w → Goes w w' → fewAt g v w' := by
  rintro v w w' ⟨s, h, hs⟩ hg
  exact ⟨s, (hg.cell (p := ⟨g, 1, none⟩) (World.block_lt_of_cell? w _ h)).trans h, hs⟩
def cellAt (p : Addr) (u : Value) : Value → World → Prop := fun _ w => w.cell? p = some u
theorem cellAt_stays (p : Addr) (u : Value) : ∀ v w w', cellAt p u v w → Goes w w' → cellAt p u v w' := by
  intro v w w' h hg
  exact (hg.cell (World.block_lt_of_cell? w _ h)).trans h
set_option maxHeartbeats 3200000 in
theorem choice_other (kn : Nat) (hk : kn < 256) (h : Nat) (A : Option Addr) (n c : Nat) (RA : Option Addr) (rn rc : Nat) (w : World) (h7 : kn % 10 ≠ 7) (h8 : kn % 10 ≠ 8) :
    Calls Try.prog 19 #[.agg #[.int .u8 (kn : Nat), .int .u8 (h : Nat), .slice A n c, .slice RA rn rc]] w fun e w' => e = .returned (.agg #[.int .i64 ((kn % 10 : Nat) : Int), .string ⟨#[]⟩, .bool false, .slice none 0 0]) ∧ Below w.heap.size w w' := by
  obtain ⟨K, hK⟩ : ∃ K, kn % 10 = K := ⟨_, rfl⟩
  have hKt : (kn : Int).tmod 10 = (K : Int) := by rw [Int.tmod_eq_emod_of_nonneg (by omega)]; omega
  have hK1 : K < 10 := by omega
  rw [hK] at h7 h8
  rw [hK]
  have e7 : ((K : Int) == 7) = false := by have : (K : Int) ≠ 7 := by omega
                                           simpa using this
  have e8 : ((K : Int) == 8) = false := by have : (K : Int) ≠ 8 := by omega
                                           simpa using this
  have iw : IntKind.i64.wrap (K : Int) = K := IntWalk.i64_in _ (by omega)
  have hC := ((Cs.new w #[.int .u8 (kn : Nat), .int .u8 (h : Nat), .slice A n c, .slice RA rn rc] 51 [.int .u8 (kn : Nat), .int .u8 (h : Nat), .slice A n c, .slice RA rn rc]).alloc (.cells #[.int .i64 0, .string ⟨#[]⟩, .bool false, .slice none 0 0] 54)).alloc (.cells #[.int .i64 (K : Nat), .string ⟨#[]⟩, .bool false, .slice none 0 0] 54)
  have hR := ((Cs.new (w.alloc (.cells #[.int .u8 (kn : Nat), .int .u8 (h : Nat), .slice A n c, .slice RA rn rc] 51)) #[.int .i64 0, .string ⟨#[]⟩, .bool false, .slice none 0 0] 54 [.int .i64 0, .string ⟨#[]⟩, .bool false, .slice none 0 0]).at_ (w.heap.size + 1) (by simp)).alloc (.cells #[.int .i64 (K : Nat), .string ⟨#[]⟩, .bool false, .slice none 0 0] 54)
  have hT := (Cs.new ((w.alloc (.cells #[.int .u8 (kn : Nat), .int .u8 (h : Nat), .slice A n c, .slice RA rn rc] 51)).alloc (.cells #[.int .i64 0, .string ⟨#[]⟩, .bool false, .slice none 0 0] 54)) #[.int .i64 (K : Nat), .string ⟨#[]⟩, .bool false, .slice none 0 0] 54 [.int .i64 (K : Nat), .string ⟨#[]⟩, .bool false, .slice none 0 0]).at_ (w.heap.size + 1 + 1) (by simp)
  have hb0 := (((Below.refl w.heap.size w).alloc (Nat.le_refl _) (.cells #[.int .u8 (kn : Nat), .int .u8 (h : Nat), .slice A n c, .slice RA rn rc] 51)).alloc (by simp) (.cells #[.int .i64 0, .string ⟨#[]⟩, .bool false, .slice none 0 0] 54)).alloc (by simp; omega) (.cells #[.int .i64 (K : Nat), .string ⟨#[]⟩, .bool false, .slice none 0 0] 54)
  have t0 := hT.get 0 _
  have t1 := hT.get 1 _
  have t2 := hT.get 2 _
  have t3 := hT.get 3 _
  have r0 := hR.get 0 _
  have r1 := hR.get 1 _
  have r2 := hR.get 2 _
  have r3 := hR.get 3 _
  have f0 := hR.froz 0 (by simp)
  have f1 := hR.froz 1 (by simp)
  have f2 := hR.froz 2 (by simp)
  have f3 := hR.froz 3 (by simp)
  clear hC hT hR hK h7 h8
  go_enter Try.func19, Try.ntmps19
  go_wp2_with fail
  refine bodyPost_ret (v := .agg #[.int .i64 (K : Nat), .string ⟨#[]⟩, .bool false, .slice none 0 0]) (by simp [results, Try.results19, go_sem, r0, r1, r2, r3]) rfl ⟨rfl, ?_⟩
  exact (((Below.refl w.heap.size w).alloc (Nat.le_refl _) _).alloc (by simp) _).alloc (by simp; omega) _
set_option maxHeartbeats 3200000 in
theorem choice_local (kn : Nat) (hk : kn < 256) (h : Nat) (A : Option Addr) (n c : Nat) (RA : Option Addr) (rn rc : Nat) (ds : List ActT) (w : World) (h8 : kn % 10 = 8) (hd : ActsAt w RA rn ds) (hrn : rn ≤ maxLen) :
    Calls Try.prog 19 #[.agg #[.int .u8 (kn : Nat), .int .u8 (h : Nat), .slice A n c, .slice RA rn rc]] w fun e w' => ∃ X xc, e = .returned (.agg #[.int .i64 8, .string ⟨#[]⟩, .bool false, .slice X (recsOf ds 6).length xc]) ∧ Recs w' X (recsOf ds 6) ∧ OwnA w.heap.size X ∧ Below w.heap.size w w' := by
  have hKt : (kn : Int).tmod 10 = 8 := by rw [Int.tmod_eq_emod_of_nonneg (by omega)]; omega
  have hC := ((Cs.new w #[.int .u8 (kn : Nat), .int .u8 (h : Nat), .slice A n c, .slice RA rn rc] 51 [.int .u8 (kn : Nat), .int .u8 (h : Nat), .slice A n c, .slice RA rn rc]).alloc (.cells #[.int .i64 0, .string ⟨#[]⟩, .bool false, .slice none 0 0] 54)).alloc (.cells #[.int .i64 8, .string ⟨#[]⟩, .bool false, .slice none 0 0] 54)
  have hR := ((Cs.new (w.alloc (.cells #[.int .u8 (kn : Nat), .int .u8 (h : Nat), .slice A n c, .slice RA rn rc] 51)) #[.int .i64 0, .string ⟨#[]⟩, .bool false, .slice none 0 0] 54 [.int .i64 0, .string ⟨#[]⟩, .bool false, .slice none 0 0]).at_ (w.heap.size + 1) (by simp)).alloc (.cells #[.int .i64 8, .string ⟨#[]⟩, .bool false, .slice none 0 0] 54)
  have hT := (Cs.new ((w.alloc (.cells #[.int .u8 (kn : Nat), .int .u8 (h : Nat), .slice A n c, .slice RA rn rc] 51)).alloc (.cells #[.int .i64 0, .string ⟨#[]⟩, .bool false, .slice none 0 0] 54)) #[.int .i64 8, .string ⟨#[]⟩, .bool false, .slice none 0 0] 54 [.int .i64 8, .string ⟨#[]⟩, .bool false, .slice none 0 0]).at_ (w.heap.size + 1 + 1) (by simp)
  have hb0 := (((Below.refl w.heap.size w).alloc (Nat.le_refl _) (.cells #[.int .u8 (kn : Nat), .int .u8 (h : Nat), .slice A n c, .slice RA rn rc] 51)).alloc (by simp) (.cells #[.int .i64 0, .string ⟨#[]⟩, .bool false, .slice none 0 0] 54)).alloc (by simp; omega) (.cells #[.int .i64 8, .string ⟨#[]⟩, .bool false, .slice none 0 0] 54)
  have RS := Lib.hid (fun (w' : World) (hx : Below w.heap.size w w') => records_any RA rn rc 6 ds w' (hd.below hx) hrn (by omega))
  have t0 := hT.get 0 _
  have t1 := hT.get 1 _
  have t2 := hT.get 2 _
  have t3 := hT.get 3 _
  have c0 := hC.get 0 _
  have c1 := hC.get 1 _
  have c2 := hC.get 2 _
  have c3 := hC.get 3 _
  clear h8 hd hrn
  have hw3 : ((w.alloc (.cells #[.int .u8 (kn : Nat), .int .u8 (h : Nat), .slice A n c, .slice RA rn rc] 51)).alloc (.cells #[.int .i64 0, .string ⟨#[]⟩, .bool false, .slice none 0 0] 54)).alloc (.cells #[.int .i64 8, .string ⟨#[]⟩, .bool false, .slice none 0 0] 54) = ((w.alloc (.cells #[.int .u8 (kn : Nat), .int .u8 (h : Nat), .slice A n c, .slice RA rn rc] 51)).alloc (.cells #[.int .i64 0, .string ⟨#[]⟩, .bool false, .slice none 0 0] 54)).alloc (.cells #[.int .i64 8, .string ⟨#[]⟩, .bool false, .slice none 0 0] 54) := rfl
  go_enter Try.func19, Try.ntmps19
  go_wp2_with fail
  refine (RS.out _ hb0).mono ?_
  rintro e w1 ⟨v, rfl, ho⟩
  obtain ⟨X, xc, rfl, -, -, -⟩ := ho.slice
  have hb1' := ho.bel
  have hb1 := below_trans hb0 hb0.size hb1'
  have hR1 := hR.below hb1'
  have hT1 := hT.below hb1'
  have HP := Lib.hid (ho.recs rfl)
  have YH := Lib.hid (show ∀ b off, X = some ⟨b, off, none⟩ → w.heap.size + 1 + 1 + 1 ≤ b from fun b off e => by subst e; have := (ho.lt b rfl).1; simpa using this)
  have HB := Lib.hid hb1
  clear t0 t1 t2 t3 c0 c1 c2 c3 ho hb1 hb1' hb0 hC hw3 RS
  have t0 := hT1.get 0 _
  have t1 := hT1.get 1 _
  have t2 := hT1.get 2 _
  have t3 := hT1.get 3 _
  have tf3 := hT1.froz 3 (by simp)
  have r0 := hR1.get 0 _
  have r1 := hR1.get 1 _
  have r2 := hR1.get 2 _
  have r3 := hR1.get 3 _
  have f0 := hR1.froz 0 (by simp)
  have f1 := hR1.froz 1 (by simp)
  have f2 := hR1.froz 2 (by simp)
  have f3 := hR1.froz 3 (by simp)
  generalize hL : (recsOf ds 6).length = L at *
  clear hT hT1 hR hR1
  go_wp2_with fail
  refine bodyPost_ret (v := .agg #[.int .i64 8, .string ⟨#[]⟩, .bool false, .slice X L xc]) (by simp [results, Try.results19, go_sem, r0, r1, r2, r3]) rfl ⟨X, xc, by rw [hL], ?_, fun b off e => by have := YH.out b off e; omega, ?_⟩
  · iterate 5 (refine Recs.other ?_ _ _ _ (fun b off e => by have := YH.out b off e; omega))
    exact HP.out
  · iterate 5 (refine Below.setCell ?_ (by first | (simp; done) | (dsimp only; omega) | (simp; omega)) _)
    exact HB.out
set_option maxHeartbeats 6400000 in
theorem choice_rew (kn : Nat) (hk : kn < 256) (h : Nat) (hh : h < 256) (A : Option Addr) (n c : Nat) (zs : List Int) (RA : Option Addr) (rn rc : Nat) (ds : List ActT) (w : World) (h7 : kn % 10 = 7) (hS : Sl w w.heap.size 1 A n (zs.map (Value.int .u8))) (hz : ∀ z ∈ zs, 0 ≤ z ∧ z < 256) (hn : n ≤ 140737488355328) :
    Calls Try.prog 19 #[.agg #[.int .u8 (kn : Nat), .int .u8 (h : Nat), .slice A n c, .slice RA rn rc]] w fun e w' => ∃ s b, e = .returned (.agg #[.int .i64 7, .string s, .bool b, .slice none 0 0]) ∧ s.size ≤ 84 ∧ Below w.heap.size w w' := by
  have hKt : (kn : Int).tmod 10 = 7 := by rw [Int.tmod_eq_emod_of_nonneg (by omega)]; omega
  have TG := Lib.hid (fun (w' : World) (hx : Below w.heap.size w w') => target_any h hh A n c zs w' ((hS.below hx).more hx.size) hz hn)
  obtain ⟨J, hJ⟩ : ∃ J, h % 3 = J := ⟨_, rfl⟩
  have hJt : (h : Int).tmod 3 = (J : Int) := by rw [Int.tmod_eq_emod_of_nonneg (by omega)]; omega
  obtain ⟨t, ht⟩ : ∃ t, ((J : Int) == 0) = t := ⟨_, rfl⟩
  have hC := ((Cs.new w #[.int .u8 (kn : Nat), .int .u8 (h : Nat), .slice A n c, .slice RA rn rc] 51 [.int .u8 (kn : Nat), .int .u8 (h : Nat), .slice A n c, .slice RA rn rc]).alloc (.cells #[.int .i64 0, .string ⟨#[]⟩, .bool false, .slice none 0 0] 54)).alloc (.cells #[.int .i64 7, .string ⟨#[]⟩, .bool false, .slice none 0 0] 54)
  have hR := ((Cs.new (w.alloc (.cells #[.int .u8 (kn : Nat), .int .u8 (h : Nat), .slice A n c, .slice RA rn rc] 51)) #[.int .i64 0, .string ⟨#[]⟩, .bool false, .slice none 0 0] 54 [.int .i64 0, .string ⟨#[]⟩, .bool false, .slice none 0 0]).at_ (w.heap.size + 1) (by simp)).alloc (.cells #[.int .i64 7, .string ⟨#[]⟩, .bool false, .slice none 0 0] 54)
  have hT := (Cs.new ((w.alloc (.cells #[.int .u8 (kn : Nat), .int .u8 (h : Nat), .slice A n c, .slice RA rn rc] 51)).alloc (.cells #[.int .i64 0, .string ⟨#[]⟩, .bool false, .slice none 0 0] 54)) #[.int .i64 7, .string ⟨#[]⟩, .bool false, .slice none 0 0] 54 [.int .i64 7, .string ⟨#[]⟩, .bool false, .slice none 0 0]).at_ (w.heap.size + 1 + 1) (by simp)
  have hb0 := (((Below.refl w.heap.size w).alloc (Nat.le_refl _) (.cells #[.int .u8 (kn : Nat), .int .u8 (h : Nat), .slice A n c, .slice RA rn rc] 51)).alloc (by simp) (.cells #[.int .i64 0, .string ⟨#[]⟩, .bool false, .slice none 0 0] 54)).alloc (by simp; omega) (.cells #[.int .i64 7, .string ⟨#[]⟩, .bool false, .slice none 0 0] 54)
  have t0 := hT.get 0 _
  have t1 := hT.get 1 _
  have t2 := hT.get 2 _
  have t3 := hT.get 3 _
  clear hS hz hn h7 hJ
  have hsz : (((w.alloc (.cells #[.int .u8 (kn : Nat), .int .u8 (h : Nat), .slice A n c, .slice RA rn rc] 51)).alloc (.cells #[.int .i64 0, .string ⟨#[]⟩, .bool false, .slice none 0 0] 54)).alloc (.cells #[.int .i64 7, .string ⟨#[]⟩, .bool false, .slice none 0 0] 54)).heap.size = w.heap.size + 1 + 1 + 1 := by simp
  go_enter Try.func19, Try.ntmps19
  go_upto_region 3 with fail
  generalize hW3 : ((w.alloc (.cells #[.int .u8 (kn : Nat), .int .u8 (h : Nat), .slice A n c, .slice RA rn rc] 51)).alloc (.cells #[.int .i64 0, .string ⟨#[]⟩, .bool false, .slice none 0 0] 54)).alloc (.cells #[.int .i64 7, .string ⟨#[]⟩, .bool false, .slice none 0 0] 54) = W3 at *
  clear t0 t1 t2 t3 hW3
  have HB0 := Lib.hid hb0
  refine wp_region_exp data_follows (fun x => by simp [putsF, Act.put]; rfl) (fun v => Below w.heap.size w v ∧ Cs v w.heap.size [.int .u8 (kn : Nat), .int .u8 (h : Nat), .slice A n c, .slice RA rn rc] ∧ Cs v (w.heap.size + 1) [.int .i64 0, .string ⟨#[]⟩, .bool false, .slice none 0 0] ∧ ∃ s1 b1, Cs v (w.heap.size + 1 + 1) [.int .i64 7, s1, b1, .slice none 0 0])
    [isX (.pointer (some ⟨w.heap.size, 1, none⟩)), isX (.int .u8 (h : Nat)), isX (.pointer (some ⟨w.heap.size, 2, none⟩)), isX (.slice A n c), always fewW, isX (.pointer (some ⟨w.heap.size, 1, none⟩)), isX (.int .u8 (h : Nat)), isX (.int .u8 (J : Nat)), isX (.bool t), isX (.pointer (some ⟨w.heap.size + 1 + 1, 1, none⟩)), always (fewAt (w.heap.size + 1 + 1)), isX (.pointer (some ⟨w.heap.size + 1 + 1, 2, none⟩)), always (cellAt ⟨w.heap.size + 1 + 1, 2, none⟩ (.bool t))]
    [10, 12] (by kernel_rfl) (by kernel_rfl) (by kernel_rfl) rfl ?_ ⟨hb0.drew, hC.drewN 1, hR.drewN 1, _, _, hT.drewN 1⟩ ?_ ?_ ?_
  · repeat (first | exact trivial | refine ⟨by first | exact isX_stays _ | exact always_stays fewW_stays | exact always_stays (fewAt_stays _) | exact always_stays (cellAt_stays _ _), ?_⟩)
  · refine ⟨?_, ?_, ?_, ?_, ?_, ?_, ?_, ?_, ?_, ?_, skipped rfl, ?_, skipped rfl, trivial⟩
    all_goals
      intro _ d x wx hR hdi hsrc hd
      refine ⟨fun _ => ?_, fun hX => by simp at hX⟩
      have c1 := hR.2.1.get 1 _
      have c2 := hR.2.1.get 2 _
      simp [wordX, isX] at hd ⊢
    · go_simp; exact nextX _ rfl rfl hR (Below.refl _ _)
    · go_simp; exact nextX _ rfl rfl hR (Below.refl _ _)
    · go_simp; exact nextX _ rfl rfl hR (Below.refl _ _)
    · go_simp; exact nextX _ rfl rfl hR (Below.refl _ _)
    · obtain ⟨hd0, hd1⟩ := hd
      go_simp
      go_at_call 37
      refine (TG.out wx hR.1).mono ?_
      rintro e w4 ⟨s, rfl, hs, -, hb⟩
      obtain ⟨r1, r3, r4, s1, b1, r5⟩ := hR
      exact nextX _ rfl ⟨s, rfl, hs⟩ ⟨below_trans r1 r1.size hb, r3.below hb, r4.below hb, s1, b1, r5.below hb⟩ hb
    · go_simp; exact nextX _ rfl rfl hR (Below.refl _ _)
    · go_simp; exact nextX _ rfl rfl hR (Below.refl _ _)
    · go_simp; exact nextX _ rfl rfl hR (Below.refl _ _)
    · go_simp; exact nextX _ rfl rfl hR (Below.refl _ _)
    · go_simp; exact nextX _ rfl rfl hR (Below.refl _ _)
    · go_simp; exact nextX _ rfl rfl hR (Below.refl _ _)
  · refine ⟨unskipped rfl, unskipped rfl, unskipped rfl, unskipped rfl, unskipped rfl, unskipped rfl, unskipped rfl, unskipped rfl, unskipped rfl, unskipped rfl, ?_, unskipped rfl, ?_, trivial⟩
    · intro _ d x wx hR hdi hcl hsrc hd
      refine ⟨fun _ => ?_, fun hX => by simp at hX⟩
      have d4 : d 4 = true := hsrc.reach (K := 10) hcl rfl 20 4 (by decide) (by kernel_rfl)
      have d9 : d 9 = true := hsrc.reach (K := 10) hcl rfl 20 9 (by decide) (by kernel_rfl)
      simp only [DoneX] at hd
      obtain ⟨-, -, -, -, h4, -, -, -, -, h9, -⟩ := hd
      obtain ⟨s, h4, hs⟩ := h4 d4
      have h9 : x 9 = .pointer (some ⟨w.heap.size + 1 + 1, 1, none⟩) := h9 d9
      obtain ⟨r1, r3, r4, s1, b1, r5⟩ := hR
      have k1 := r5.get 1 _
      have g1 := r5.froz 1 (by simp)
      have q := r5.set' 1 (.string s) (by simp)
      simp only [List.set_cons_succ, List.set_cons_zero] at q
      dsimp only
      rw [h4, h9]
      go_simp
      refine nextK undef rfl ⟨s, q.get 1 _, hs⟩ ⟨r1.setCell (by simp; omega) _, r3.other _ _ _ (by omega), r4.other _ _ _ (by omega), _, _, q⟩ ?_
      refine ⟨fun _ _ h => h, fun _ _ h => h, fun _ _ h => h, fun _ _ h => h, fun _ _ h => h, fun _ _ h => h, fun _ _ h => h, fun _ _ h => h, fun _ _ h => h, fun _ _ h => h, fun h => absurd rfl h, fun _ _ h => h, fun _ _ h => ?_, trivial⟩
      exact (World.cell?_setCell_other _ _ _ _ (by simp)).trans h
    · intro _ d x wx hR hdi hcl hsrc hd
      refine ⟨fun _ => ?_, fun hX => by simp at hX⟩
      have d8 : d 8 = true := hsrc.reach (K := 12) hcl rfl 20 8 (by decide) (by kernel_rfl)
      have d11 : d 11 = true := hsrc.reach (K := 12) hcl rfl 20 11 (by decide) (by kernel_rfl)
      simp only [DoneX] at hd
      obtain ⟨-, -, -, -, -, -, -, -, h8, -, -, h11, -⟩ := hd
      have h8 : x 8 = .bool t := h8 d8
      have h11 : x 11 = .pointer (some ⟨w.heap.size + 1 + 1, 2, none⟩) := h11 d11
      obtain ⟨r1, r3, r4, s1, b1, r5⟩ := hR
      have k2 := r5.get 2 _
      have g2 := r5.froz 2 (by simp)
      have q := r5.set' 2 (.bool t) (by simp)
      simp only [List.set_cons_succ, List.set_cons_zero] at q
      dsimp only
      rw [h8, h11]
      go_simp
      refine nextK undef rfl (q.get 2 _) ⟨r1.setCell (by simp; omega) _, r3.other _ _ _ (by omega), r4.other _ _ _ (by omega), _, _, q⟩ ?_
      refine ⟨fun _ _ h => h, fun _ _ h => h, fun _ _ h => h, fun _ _ h => h, fun _ _ h => h, fun _ _ h => h, fun _ _ h => h, fun _ _ h => h, fun _ _ h => h, fun _ _ h => h, fun _ _ h => ?_, fun _ _ h => h, fun h => absurd rfl h, trivial⟩
      obtain ⟨s, h, hs⟩ := h
      exact ⟨s, (World.cell?_setCell_other _ _ _ _ (by simp)).trans h, hs⟩
  · intro x wx hR hx
    obtain ⟨-, -, -, -, -, -, -, -, -, -, ⟨s, hs, hsl⟩, -, hbt, -⟩ := hx
    obtain ⟨r1, r3, r4, s1, b1, r5⟩ := hR
    have e1 : s1 = .string s := by have := (r5.get 1 _).symm.trans hs; simpa using this
    have e2 : b1 = .bool t := by have := (r5.get 2 _).symm.trans hbt; simpa using this
    subst e1 e2
    have t0 := r5.get 0 _
    have t1 := r5.get 1 _
    have t2 := r5.get 2 _
    have t3 := r5.get 3 _
    have q0 := r4.get 0 _
    have q1 := r4.get 1 _
    have q2 := r4.get 2 _
    have q3 := r4.get 3 _
    have f0 := r4.froz 0 (by simp)
    have f1 := r4.froz 1 (by simp)
    have f2 := r4.froz 2 (by simp)
    have f3 := r4.froz 3 (by simp)
    clear r3 r4 r5 hs hbt
    go_wp2_with fail
    refine bodyPost_ret (v := .agg #[.int .i64 7, .string s, .bool t, .slice none 0 0]) (by simp [results, Try.results19, go_sem, q0, q1, q2, q3]) rfl ⟨s, t, rfl, hsl, ?_⟩
    iterate 4 (refine Below.setCell ?_ (by first | (simp; done) | (dsimp only; omega) | (simp; omega)) _)
    exact r1
end Go.Proofs.Ytbjbppnjheaecaa
namespace Go.Proofs.Ytbjbppnjheaecaa
open Go.RowKit Go.ChangeShapes Go.WideShapes Go.ChangeAt Go.Deep
set_option linter.unusedVariables false
set_option linter.unusedSimpArgs false
/-- What the reply by an action is. -/
def ofT (q u : MsgT) (k : Int) (s : ByteArray) (b : Bool) (rs : List RecT) (tcp : Bool) : MsgT :=
  if k = 3 then zeroT else if chg k tcp = false then q.passT u else if k = 4 then q.baseT 3 false [] else
  if k = 7 then (match goalOf 7 s b q.qn with | none => q.baseT 2 false [] | some g => q.baseT 0 false [(q.qn, 5, 60, g)]) else
  if k = 8 then q.baseT 0 false (locR q.qn q.qt rs) else q.baseT 0 (k == 6) []
/-- What is known of a message that upstream answered. -/
structure UpOk (w : World) (u : MsgT) : Prop where
  has : MsgHas w u
  d1 : u.A1 = none → u.n1 = 0 ∧ u.c1 = 0
  d2 : u.A2 = none → u.n2 = 0 ∧ u.c2 = 0
  d3 : u.A3 = none → u.n3 = 0 ∧ u.c3 = 0
  b1 : u.n1 * 40 ≤ 140737488355328
  b2 : u.n2 * 40 ≤ 140737488355328
  b3 : u.n3 * 40 ≤ 140737488355328
theorem UpOk.below {w w' : World} {u : MsgT} (h : UpOk w u) (hb : Below w.heap.size w w') : UpOk w' u := ⟨h.has.below hb, h.d1, h.d2, h.d3, h.b1, h.b2, h.b3⟩
theorem MsgOk.up {w : World} {u : MsgT} (hu : MsgOk w u) (b1 : u.c1 ≤ 3518437208780) (b2 : u.c2 ≤ 3518437208780) (b3 : u.c3 ≤ 3518437208780) : UpOk w u :=
  ⟨hu.has, hu.r1.none_, hu.r2.none_, hu.r3.none_, by have := hu.r1.le; omega, by have := hu.r2.le; omega, by have := hu.r3.le; omega⟩
/-- What is known of an action. -/
structure ActGood (w : World) (K : Nat) (s : ByteArray) (b : Bool) (X : Option Addr) (xn xc : Nat) (rs : List RecT) : Prop where
  lt : K < 10
  size : s.size ≤ 84
  other : K ≠ 8 → X = none ∧ xn = 0 ∧ xc = 0 ∧ rs = []
  len : rs.length = xn
  few : xn ≤ 6
  recs : Recs w X rs
theorem ActGood.below {w w' : World} {K : Nat} {s : ByteArray} {b : Bool} {X : Option Addr} {xn xc : Nat} {rs : List RecT} (h : ActGood w K s b X xn xc rs) (hb : Below w.heap.size w w') : ActGood w' K s b X xn xc rs := ⟨h.lt, h.size, h.other, h.len, h.few, h.recs.below hb⟩
theorem of_any (q u : MsgT) (K : Nat) (s : ByteArray) (b : Bool) (X : Option Addr) (xn xc : Nat) (rs : List RecT) (tcp : Bool) (w : World) (hu : UpOk w u) (ha : ActGood w K s b X xn xc rs) (hn : q.qn.size ≤ 140737488355328) :
    TellsB Try.prog 21 #[q.v, u.v, .agg #[.int .i64 (K : Nat), .string s, .bool b, .slice X xn xc], .bool tcp] w (ofT q u K s b rs tcp) (!((K : Int) == 3)) := by
  have hl := ha.lt
  have hs : s.size ≤ 140737488355328 := by have := ha.size; omega
  by_cases h8 : K = 8
  · subst h8
    rw [show ofT q u ((8 : Nat) : Int) s b rs tcp = q.baseT 0 false (locR q.qn q.qt rs) by cases tcp <;> rfl]
    exact of_local q u s b tcp X xn xc rs w ha.recs ha.len (by have := ha.few; omega)
  · obtain ⟨rfl, rfl, rfl, rfl⟩ := ha.other h8
    by_cases h3 : K = 3
    · subst h3
      exact of_drop q u s b tcp w
    · by_cases hc : chg (K : Int) tcp = false
      · rw [show ofT q u (K : Int) s b [] tcp = q.passT u by unfold ofT; rw [if_neg (by omega), if_pos hc]]
        have e3 : ((K : Int) == 3) = false := by have : (K : Int) ≠ 3 := by omega
                                                 simpa using this
        rw [e3]
        exact of_pass q u _ s b tcp w e3 hc hu.has hu.d1 hu.d2 hu.d3 hu.b1 hu.b2 hu.b3
      · rcases (by omega : K = 0 ∨ K = 1 ∨ K = 2 ∨ K = 4 ∨ K = 5 ∨ K = 6 ∨ K = 7 ∨ K = 9) with rfl | rfl | rfl | rfl | rfl | rfl | rfl | rfl
        · exact absurd (by cases tcp <;> rfl) hc
        · exact absurd (by cases tcp <;> rfl) hc
        · exact absurd (by cases tcp <;> rfl) hc
        · rw [show ofT q u ((4 : Nat) : Int) s b [] tcp = q.baseT 3 false [] by cases tcp <;> rfl]
          exact of_missing q u s b tcp w
        · rw [show ofT q u ((5 : Nat) : Int) s b [] tcp = q.baseT 0 false [] by cases tcp <;> rfl]
          exact of_empty q u s b tcp w
        · cases tcp with
          | true => exact absurd rfl hc
          | false => exact of_tcp q u s b w
        · cases hg : goalOf 7 s b q.qn with
          | none =>
            rw [show ofT q u ((7 : Nat) : Int) s b [] tcp = q.baseT 2 false [] by cases tcp <;> (show (match goalOf 7 s b q.qn with | none => q.baseT 2 false [] | some g => q.baseT 0 false [(q.qn, 5, 60, g)]) = _; rw [hg])]
            exact of_rewN q u s b tcp w hs hn hg
          | some g =>
            rw [show ofT q u ((7 : Nat) : Int) s b [] tcp = q.baseT 0 false [(q.qn, 5, 60, g)] by cases tcp <;> (show (match goalOf 7 s b q.qn with | none => q.baseT 2 false [] | some g => q.baseT 0 false [(q.qn, 5, 60, g)]) = _; rw [hg])]
            exact of_rewS q u s b tcp w g hs hn hg
        · exact absurd (by cases tcp <;> rfl) hc
/-- Where an action changes the answer, what upstream answered is not in it. -/
theorem ofT_chg (q u u' : MsgT) (k : Int) (s : ByteArray) (b : Bool) (rs : List RecT) (tcp : Bool) (h : chg k tcp = true) :
    ofT q u k s b rs tcp = ofT q u' k s b rs tcp ∧ (ofT q u k s b rs tcp).r2 = [] ∧ (ofT q u k s b rs tcp).r3 = [] ∧ ((ofT q u k s b rs tcp).r1 = [] ∨ k = 7 ∨ k = 8) := by
  have ht : ¬ (true = false) := by decide
  unfold ofT
  rw [h]
  by_cases h3 : k = 3
  · simp only [if_pos h3]; exact ⟨trivial, rfl, rfl, .inl rfl⟩
  · by_cases h4 : k = 4
    · simp only [if_neg h3, if_neg ht, if_pos h4]; exact ⟨trivial, rfl, rfl, .inl rfl⟩
    · by_cases h7 : k = 7
      · simp only [if_neg h3, if_neg ht, if_neg h4, if_pos h7]; cases goalOf 7 s b q.qn <;> exact ⟨trivial, rfl, rfl, .inr (.inl h7)⟩
      · by_cases h8 : k = 8
        · simp only [if_neg h3, if_neg ht, if_neg h4, if_neg h7, if_pos h8]; exact ⟨trivial, rfl, rfl, .inr (.inr h8)⟩
        · simp only [if_neg h3, if_neg ht, if_neg h4, if_neg h7, if_neg h8]; exact ⟨trivial, rfl, rfl, .inl rfl⟩
theorem ofT_pass (q u : MsgT) (k : Int) (s : ByteArray) (b : Bool) (rs : List RecT) (tcp : Bool) (h : chg k tcp = false) : ofT q u k s b rs tcp = q.passT u := by
  unfold ofT
  rw [if_neg (by rintro rfl; cases h), if_pos h]
/-- Whether an action changes the answer, whatever records it has. -/
theorem changes_good (K : Nat) (s : ByteArray) (b : Bool) (X : Option Addr) (xn xc : Nat) (rs : List RecT) (tcp : Bool) (w0 w : World) (ha : ActGood w0 K s b X xn xc rs) :
    Calls Try.prog 23 #[.agg #[.int .i64 (K : Nat), .string s, .bool b, .slice X xn xc], .bool tcp] w fun e w' => e = .returned (.bool (chg K tcp)) ∧ Below w.heap.size w w' := by
  by_cases h8 : K = 8
  · subst h8
    rw [show chg ((8 : Nat) : Int) tcp = true by cases tcp <;> rfl]
    exact changes8 s b X xn xc tcp w
  · obtain ⟨rfl, rfl, rfl, rfl⟩ := ha.other h8
    exact changes_any K s b tcp w
theorem choice_any (kn : Nat) (hk : kn < 256) (h : Nat) (hh : h < 256) (A : Option Addr) (n c : Nat) (zs : List Int) (RA : Option Addr) (rn rc : Nat) (ds : List ActT) (w : World) (hS : Sl w w.heap.size 1 A n (zs.map (Value.int .u8))) (hz : ∀ z ∈ zs, 0 ≤ z ∧ z < 256) (hn : n ≤ 140737488355328) (hd : ActsAt w RA rn ds) (hrn : rn ≤ maxLen) :
    Calls Try.prog 19 #[.agg #[.int .u8 (kn : Nat), .int .u8 (h : Nat), .slice A n c, .slice RA rn rc]] w fun e w' =>
      ∃ s b X xn xc rs, e = .returned (.agg #[.int .i64 ((kn % 10 : Nat) : Int), .string s, .bool b, .slice X xn xc]) ∧ ActGood w' (kn % 10) s b X xn xc rs ∧ OwnA w.heap.size X ∧ Below w.heap.size w w' := by
  have hlt : kn % 10 < 10 := by omega
  by_cases h7 : kn % 10 = 7
  · refine (choice_rew kn hk h hh A n c zs RA rn rc ds w h7 hS hz hn).mono ?_
    rintro e w' ⟨s, b, rfl, hs, hb⟩
    rw [h7]
    exact ⟨s, b, none, 0, 0, [], rfl, ⟨by omega, hs, fun _ => ⟨rfl, rfl, rfl, rfl⟩, rfl, by omega, Recs.nil _ _⟩, OwnA.none _, hb⟩
  · by_cases h8 : kn % 10 = 8
    · refine (choice_local kn hk h A n c RA rn rc ds w h8 hd hrn).mono ?_
      rintro e w' ⟨X, xc, rfl, hr, ho, hb⟩
      rw [h8]
      exact ⟨_, _, X, _, xc, recsOf ds 6, rfl, ⟨by omega, Nat.zero_le _, fun h => absurd rfl h, rfl, by rw [recsOf_len]; omega, hr⟩, ho, hb⟩
    · refine (choice_other kn hk h A n c RA rn rc w h7 h8).mono ?_
      rintro e w' ⟨rfl, hb⟩
      exact ⟨_, _, none, 0, 0, [], rfl, ⟨hlt, Nat.zero_le _, fun _ => ⟨rfl, rfl, rfl, rfl⟩, rfl, by omega, Recs.nil _ _⟩, OwnA.none _, hb⟩
/-- The name that a message asks for is no longer than what is there of the argument. -/
theorem msg_qn {H : Type} {enc : TypeId × Value → H} {P : Program} {w : World} {d : DataW H} {p : List MemPlace} {t : TypeId} {f0 f1 f2 f3 f4 f5 q0 q1 : Field} {m : MsgT}
    (hs : P.underlying t = some (.struct #[f0, f1, f2, f3, f4, f5])) (hsp : spotFields P #[f0, f1, f2, f3, f4, f5] = [(0, 8), (8, 2), (10, 1), (11, 1), (12, 1), (13, 1)])
    (hs1 : P.underlying f1.type = some (.struct #[q0, q1])) (hone1 : oneCellFields P #[q0, q1] = true) (uq0 : P.underlying q0.type = some .string)
    (h : DataW.Trod enc P w 0 (fun _ => true) true t m.v d p) : m.qn.data.toList.length ∈ d.weights P t := by
  obtain ⟨fuel, hf⟩ := h
  obtain ⟨xs, n, _, hx, _, hlen, hff⟩ := DataW.trod_struct hs hf
  unfold spotFields at hsp
  simp only [List.map_cons, List.map_nil, List.cons.injEq, Prod.mk.injEq, and_true] at hsp
  obtain ⟨⟨o0, c0⟩, ⟨o1, c1⟩, ⟨o2, c2⟩, ⟨o3, c3⟩, ⟨o4, c4⟩, ⟨o5, c5⟩⟩ := hsp
  match xs, hlen with
  | [y0, y1, y2, y3, y4, y5], _ =>
    have a1 := hff 1 f1 rfl
    rw [o1, c1] at a1
    simp only [MsgT.v, Value.cells, List.drop_zero, List.take_succ_cons, List.take_zero, List.drop_succ_cons, List.getElem?_cons_zero, List.getElem?_cons_succ] at a1
    obtain ⟨qs, n1, _, hq, _, hql, hqf⟩ := DataW.trod_struct hs1 a1
    match qs, hql with
    | [p0, p1], _ =>
      have d0 := hqf 0 q0 rfl
      rw [(hone_of hone1 0 q0 rfl).1, (hone_of hone1 0 q0 rfl).2] at d0
      simp only [List.drop_zero, List.take_succ_cons, List.take_zero, List.drop_succ_cons, List.getElem?_cons_zero, List.getElem?_cons_succ] at d0
      obtain ⟨v8, e8, g8, w8⟩ := DataW.trod_string uq0 d0
      simp only [List.cons.injEq, and_true, Value.string.injEq] at e8
      subst e8
      subst g8
      obtain rfl : d = .agg [y0.1, y1.1, y2.1, y3.1, y4.1, y5.1] := by have := congrArg Prod.fst hx; simpa using this
      subst hq
      simp [DataW.weights, hs, hs1, DataW.weightsEach, uq0]
end Go.Proofs.Ytbjbppnjheaecaa
