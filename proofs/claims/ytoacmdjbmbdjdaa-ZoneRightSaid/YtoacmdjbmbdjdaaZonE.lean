/- The document's examples of layer 8. -/
import Derived.Test.YtoacmdjbmbdjdaaZonD
namespace Go.Proofs.Ytoacmdjbmbdjdaa
open Go.RowKit
set_option linter.unusedVariables false
set_option linter.unusedSimpArgs false
set_option maxRecDepth 20000
attribute [local simp] putsF isV wordOf Deps Region.binds Region.wanted Act.put wantedX isB
def recA8 : RecT := (⟨#[1, 97]⟩, 1, 0, ⟨#[]⟩)
def recB8 : RecT := (⟨#[1, 97]⟩, 16, 0, ⟨#[]⟩)
theorem cmp_ab : cmpR recA8 recB8 = -1 := by
  unfold cmpR
  rw [show cmpS recA8.1 recB8.1 = 0 from cmpS_is.refl _]
  rfl
theorem cmp_ba : cmpR recB8 recA8 = 1 := by rw [cmpR_is.swap, cmp_ab]; rfl
theorem ins_ab : insR [recB8] recA8 = [recA8, recB8] := by
  unfold insR
  have : lowB recA8 recB8 = false := by unfold lowB; rw [cmp_ba]; rfl
  simp [this]
theorem ab_ne : recA8 ∉ [recB8] := by
  intro h
  have h : recA8 = recB8 := by simpa using h
  have := cmp_ab
  rw [h, cmpR_is.refl] at this
  cases this
set_option maxHeartbeats 3200000 in
theorem awake08_any (w : World) : Calls Try.prog 12 #[] w fun e w' => e = .returned (.bool true) ∧ Below w.heap.size w w' := by
  have CM := Lib.hid (fun w => compare_any recA8 recB8 w)
  rw [cmp_ab] at CM
  have EQ := Lib.hid (fun w => rec_eql recA8 recA8 w)
  rw [(eqB_iff recA8 recA8).2 rfl] at EQ
  unfold recV recA8 recB8 at CM
  unfold recV recA8 at EQ
  simp only at CM EQ
  go_enter Try.func12, Try.ntmps12
  obtain ⟨W, hW⟩ : ∃ W, W = (w.alloc (.cells #[.string ⟨#[1, 97]⟩, .int .u16 1, .int .u32 0, .string ⟨#[]⟩] 27)).alloc (.cells #[.string ⟨#[1, 97]⟩, .int .u16 16, .int .u32 0, .string ⟨#[]⟩] 27) := ⟨_, rfl⟩
  obtain ⟨ga, hga⟩ : ∃ g, g = w.heap.size := ⟨_, rfl⟩
  obtain ⟨gb, hgb⟩ : ∃ g, g = w.heap.size + 1 := ⟨_, rfl⟩
  have hA : Cs W ga [.string ⟨#[1, 97]⟩, .int .u16 1, .int .u32 0, .string ⟨#[]⟩] := by rw [hW, hga]; exact (Cs.new w _ _ _).alloc _
  have hB : Cs W gb [.string ⟨#[1, 97]⟩, .int .u16 16, .int .u32 0, .string ⟨#[]⟩] := by rw [hW, hgb]; exact (Cs.new _ _ _ _).at_ _ (by simp)
  have hbW : Below w.heap.size w W := by rw [hW]; exact ((Below.refl _ _).alloc (Nat.le_refl _) _).alloc (by simp) _
  have HW := Lib.hid hW
  have HGA := Lib.hid hga
  have HGB := Lib.hid hgb
  have HA0 := Lib.hid hA
  have HB0 := Lib.hid hB
  have HBW := Lib.hid hbW
  clear hW hga hgb hA hB hbW
  go_wp2_with fail
  rw [← HW.out]
  have hs : w.heap.size + 1 + 1 = W.heap.size := by rw [HW.out]; simp
  have IN := insert_new (some ⟨w.heap.size + 1 + 1, 0, none⟩) 1 1 [recB8] recA8 (W.alloc (.cells #[.string ⟨#[1, 97]⟩, .int .u16 16, .int .u32 0, .string ⟨#[]⟩] 27)) (RowROk.one ((Cs.new W _ _ _).at_ _ hs.symm)) (fun h => by cases h) (Nat.le_refl _) (by decide) (by decide) ab_ne
  unfold recV recA8 at IN
  simp only at IN
  have HIN := Lib.hid IN
  clear IN hs
  refine HIN.out.mono ?_
  rintro e w2 ⟨v, rfl, ho⟩
  have hab := ins_ab
  unfold recA8 at hab
  rw [hab] at ho
  have hRZ : ∀ A c, v = .slice A 2 c → Recs w2 A [recA8, recB8] := fun A c e => by rw [e] at ho; exact ho.recs rfl
  have hb2 := ho.bel
  obtain ⟨Az, cz, rfl, h2c, -, hz⟩ := ho.slice3
  obtain ⟨gz, rfl⟩ : ∃ gz, Az = some ⟨gz, 0, none⟩ := by
    rcases hz with ⟨_, h, _⟩ | ⟨g, h, _⟩
    · omega
    · exact ⟨g, h⟩
  have HBZ := Lib.hid (below_alloc _ HBW.out HBW.out.size hb2)
  have HA := Lib.hid ((HA0.out.alloc (.cells #[.string ⟨#[1, 97]⟩, .int .u16 16, .int .u32 0, .string ⟨#[]⟩] 27)).below hb2)
  have HB := Lib.hid ((HB0.out.alloc (.cells #[.string ⟨#[1, 97]⟩, .int .u16 16, .int .u32 0, .string ⟨#[]⟩] 27)).below hb2)
  have hRZ := hRZ _ _ rfl
  have HRZ := Lib.hid hRZ
  obtain ⟨b', off', he, hlz, y0, y1, y2, y3⟩ := hRZ 0 recA8 rfl
  injection he with he
  injection he with he1 he2
  subst he1 he2
  simp only [Nat.zero_mul, Nat.add_zero, Nat.zero_add] at y0 y1 y2 y3
  unfold recA8 at y0 y1 y2 y3
  have HY := Lib.hid (And.intro hlz (And.intro y0 (And.intro y1 (And.intro y2 y3))))
  have HAS := Lib.hid (fun w h => has_any (some ⟨gz, 0, none⟩) 2 cz [recA8, recB8] recB8 w h rfl (by decide))
  rw [(hasB_iff _ _).2 (by simp)] at HAS
  unfold recV recB8 at HAS
  simp only at HAS
  unfold recA8 at HRZ HAS
  clear ho hb2 hz hRZ hlz y0 y1 y2 y3 HIN
  go_upto_region 3 with fail
  rw [← HGB.out, ← HGA.out]
  refine wp_region_goesG data_follows (fun x => by simp [putsF, Act.put]; rfl) w2.heap.size w2
    [isV (.agg #[.string ⟨#[1, 97]⟩, .int .u16 1, .int .u32 0, .string ⟨#[]⟩]), isV (.agg #[.string ⟨#[1, 97]⟩, .int .u16 16, .int .u32 0, .string ⟨#[]⟩]), isV (.int .i64 (-1)), isV (.bool true), isV (.bool true), isV (.nilIface), isV (.bool true), isV (.bool true), isV (.bool true), isV (.slice (some ⟨gz, 0, none⟩) 2 cz), isV (.int .i64 2), isV (.bool true), isV (.bool true), isV (.bool true), isV (.slice (some ⟨gz, 0, none⟩) 2 cz), isV (.pointer (some ⟨gz, 0, none⟩)), isV (.agg #[.string ⟨#[1, 97]⟩, .int .u16 1, .int .u32 0, .string ⟨#[]⟩]), isV (.agg #[.string ⟨#[1, 97]⟩, .int .u16 1, .int .u32 0, .string ⟨#[]⟩]), isV (.bool true), isV (.bool true), isV (.bool true), isV (.slice (some ⟨gz, 0, none⟩) 2 cz), isV (.agg #[.string ⟨#[1, 97]⟩, .int .u16 16, .int .u32 0, .string ⟨#[]⟩]), isV (.bool true), isV (.bool true), isV (.bool true)]
    (by kernel_rfl) (by kernel_rfl) (by kernel_rfl) rfl ?_ (Below.refl _ _) ?_ ?_
  · repeat (first | exact trivial | refine ⟨isV_stays _, ?_⟩)
  · refine ⟨?_, ?_, ?_, ?_, ?_, ?_, ?_, ?_, ?_, ?_, ?_, ?_, ?_, ?_, ?_, ?_, ?_, ?_, ?_, ?_, ?_, ?_, ?_, ?_, ?_, ?_, trivial⟩
    all_goals
      intro x wx hR hd
      simp at hd ⊢
    all_goals try simp [hd]
    · have hc := HA.out.below hR
      have c0 := hc.get 0 _
      have c1 := hc.get 1 _
      have c2 := hc.get 2 _
      have c3 := hc.get 3 _
      clear hc
      go_simp; exact next_same _ rfl rfl hR
    · have hc := HB.out.below hR
      have c0 := hc.get 0 _
      have c1 := hc.get 1 _
      have c2 := hc.get 2 _
      have c3 := hc.get 3 _
      clear hc
      go_simp; exact next_same _ rfl rfl hR
    · go_simp
      go_at_call 13
      refine (CM.out wx).mono ?_
      rintro e w2 ⟨rfl, hb⟩
      exact next_call _ rfl rfl hR hR.size hb
    · go_simp; exact next_same _ rfl rfl hR
    · go_simp; exact next_same _ rfl rfl hR
    · go_simp; exact next_same _ rfl rfl hR
    · go_simp; exact next_same _ rfl rfl hR
    · go_simp; exact next_same _ rfl rfl hR
    · go_simp; exact next_same _ rfl rfl hR
    · go_simp; exact next_same _ rfl rfl hR
    · go_simp; exact next_same _ rfl rfl hR
    · go_simp; exact next_same _ rfl rfl hR
    · go_simp; exact next_same _ rfl rfl hR
    · go_simp; exact next_same _ rfl rfl hR
    · go_simp; exact next_same _ rfl rfl hR
    · go_simp; exact next_same _ rfl rfl hR
    · have c0 := (hR.cell (p := ⟨gz, 0, none⟩) HY.out.1).trans HY.out.2.1
      have c1 := (hR.cell (p := ⟨gz, 1, none⟩) HY.out.1).trans HY.out.2.2.1
      have c2 := (hR.cell (p := ⟨gz, 2, none⟩) HY.out.1).trans HY.out.2.2.2.1
      have c3 := (hR.cell (p := ⟨gz, 3, none⟩) HY.out.1).trans HY.out.2.2.2.2
      go_simp; exact next_same _ rfl rfl hR
    · have hc := HA.out.below hR
      have c0 := hc.get 0 _
      have c1 := hc.get 1 _
      have c2 := hc.get 2 _
      have c3 := hc.get 3 _
      clear hc
      go_simp; exact next_same _ rfl rfl hR
    · have hq := EQ.out wx
      go_simp; exact next_same _ rfl rfl hR
    · go_simp; exact next_same _ rfl rfl hR
    · go_simp; exact next_same _ rfl rfl hR
    · go_simp; exact next_same _ rfl rfl hR
    · have hc := HB.out.below hR
      have c0 := hc.get 0 _
      have c1 := hc.get 1 _
      have c2 := hc.get 2 _
      have c3 := hc.get 3 _
      clear hc
      go_simp; exact next_same _ rfl rfl hR
    · go_simp
      go_at_call 40
      refine (HAS.out wx (HRZ.out.below hR)).mono ?_
      rintro e w2 ⟨rfl, hb⟩
      exact next_call _ rfl rfl hR hR.size hb
    · go_simp; exact next_same _ rfl rfl hR
    · go_simp; exact next_same _ rfl rfl hR
  · intro x wx hR hx
    simp [AllWords] at hx
    have h25 : x 25 = .bool true := by simp [hx]
    have HBX := Lib.hid (below_trans HBZ.out HBZ.out.size hR)
    rw [h25]
    clear hx
    go_wp2_with fail
    go_ret
    exact ⟨rfl, HBX.out⟩
end Go.Proofs.Ytoacmdjbmbdjdaa
