/- The walk of ReplyBase. -/
import Derived.Test.YtbjbppnjheaecaaRepG
import Derived.Test.YtbjbppnjheaecaaRepI
namespace Go.Proofs.Ytbjbppnjheaecaa
open Go.RowKit
set_option linter.unusedVariables false
set_option linter.unusedSimpArgs false
set_option maxRecDepth 20000
/-- A message whose records are these, wherever they lie. -/
def msgW (mk : Value → Value → Value → Value) (n1 n2 n3 : Nat) (r1 r2 r3 : List RecT) : Value → World → Prop := fun v w => ∃ A1 c1 A2 c2 A3 c3, v = mk (.slice A1 n1 c1) (.slice A2 n2 c2) (.slice A3 n3 c3) ∧ Recs w A1 r1 ∧ Recs w A2 r2 ∧ Recs w A3 r3
theorem msgW_stays (mk : Value → Value → Value → Value) (n1 n2 n3 : Nat) (r1 r2 r3 : List RecT) : ∀ v w w', msgW mk n1 n2 n3 r1 r2 r3 v w → Goes w w' → msgW mk n1 n2 n3 r1 r2 r3 v w' := by
  rintro v w w' ⟨A1, c1, A2, c2, A3, c3, h, h1, h2, h3⟩ hg
  exact ⟨A1, c1, A2, c2, A3, c3, h, h1.below hg, h2.below hg, h3.below hg⟩
attribute [local simp] putsF isV wordOf Deps Region.binds Region.wanted Act.put wantedX isB
set_option maxHeartbeats 6400000 in
theorem replyBase_walk (w : World) (q : MsgT) (hq : MsgOk w q) (bq1 : q.c1 ≤ 3518437208780) (bq2 : q.c2 ≤ 3518437208780) (bq3 : q.c3 ≤ 3518437208780) (code : Int) (hcode : (Lit.int .i64 code).wf = true) (u : MsgT) (hu : MsgOk w u) (bu1 : u.c1 ≤ 3518437208780) (bu2 : u.c2 ≤ 3518437208780) (bu3 : u.c3 ≤ 3518437208780) :
    Calls Try.prog 3 #[q.v, .int .i64 code, u.v] w fun e w' => e = .returned (.bool true) ∧ Below w.heap.size w w' := by
  have BA := fun w => base_any q code w
  have LB := fun w => lbase_any q code w hcode
  have PS := fun (W w : World) h1 h2 h3 => passed_any q u w h1 h2 h3 hu.r1.len hu.r2.len hu.r3.len hu.r1.none_ hu.r2.none_ hu.r3.none_ (by have := hu.r1.le; omega) (by have := hu.r2.le; omega) (by have := hu.r3.le; omega)
  have LP := fun (W w : World) h1 h2 h3 => lpassed_any q u w hu.code h1 h2 h3 hu.r1.len hu.r2.len hu.r3.len hu.r1.none_ hu.r2.none_ hu.r3.none_ (by have := hu.r1.le; omega) (by have := hu.r2.le; omega) (by have := hu.r3.le; omega)
  have R1 := hu.r1.recs
  have R2 := hu.r2.recs
  have R3 := hu.r3.recs
  have l1 := hu.r1.len
  have l2 := hu.r2.len
  have l3 := hu.r3.len
  have m1 := Nat.le_trans hu.r1.le hu.r1.max
  have m2 := Nat.le_trans hu.r2.le hu.r2.max
  have m3 := Nat.le_trans hu.r3.le hu.r3.max
  clear hq hu bq1 bq2 bq3 bu1 bu2 bu3 hcode
  obtain ⟨id, reply, op, auth, trunc, want, avail, cd, qn, qt, A1, n1, c1, r1, A2, n2, c2, r2, A3, n3, c3, r3, z⟩ := q
  obtain ⟨uid, ureply, uop, uauth, utrunc, uwant, uavail, ucd, uqn, uqt, U1, un1, uc1, s1, U2, un2, uc2, s2, U3, un3, uc3, s3, uz⟩ := u
  unfold MsgT.base at BA LB
  unfold MsgT.v at *
  dsimp only at *
  generalize minZ z = mz at *
  have SB := fun w => same_msg id true op false false want true (code % 16) qn qt mz none none none none none none 0 0 0 0 0 0 [] [] [] w (fun i r h => by simp at h) (fun i r h => by simp at h) (fun i r h => by simp at h) (fun i r h => by simp at h) (fun i r h => by simp at h) (fun i r h => by simp at h) (Nat.zero_le _) (Nat.zero_le _) (Nat.zero_le _)
  simp only [List.length_nil] at SB
  have SP := fun (X1 X2 X3 Y1 Y2 Y3 : Option Addr) (x1 x2 x3 z1 z2 z3 : Nat) (w : World) h1 h2 h3 h4 h5 h6 => same_msg id true op uauth false want true (ucd % 16) qn qt mz X1 X2 X3 Y1 Y2 Y3 x1 x2 x3 z1 z2 z3 s1 s2 s3 w h1 h2 h3 h4 h5 h6 (by rw [l1]; exact m1) (by rw [l2]; exact m2) (by rw [l3]; exact m3)
  simp only [l1, l2, l3] at SP
  have AW := Lib.hid (fun w => awake21 w)
  have hQ := (Cs.new w #[.int .u16 id, .bool reply, .int .i64 op, .bool auth, .bool trunc, .bool want, .bool avail, .int .i64 cd, .string qn, .int .u16 qt, .slice A1 n1 c1, .slice A2 n2 c2, .slice A3 n3 c3, .int .i64 z] 31 _).alloc (.cells #[.int .u16 uid, .bool ureply, .int .i64 uop, .bool uauth, .bool utrunc, .bool uwant, .bool uavail, .int .i64 ucd, .string uqn, .int .u16 uqt, .slice U1 un1 uc1, .slice U2 un2 uc2, .slice U3 un3 uc3, .int .i64 uz] 31)
  have hU := (Cs.new (w.alloc (.cells #[.int .u16 id, .bool reply, .int .i64 op, .bool auth, .bool trunc, .bool want, .bool avail, .int .i64 cd, .string qn, .int .u16 qt, .slice A1 n1 c1, .slice A2 n2 c2, .slice A3 n3 c3, .int .i64 z] 31)) #[.int .u16 uid, .bool ureply, .int .i64 uop, .bool uauth, .bool utrunc, .bool uwant, .bool uavail, .int .i64 ucd, .string uqn, .int .u16 uqt, .slice U1 un1 uc1, .slice U2 un2 uc2, .slice U3 un3 uc3, .int .i64 uz] 31 _).at_ (w.heap.size + 1) (by simp)
  have hb0 := ((Below.refl w.heap.size w).alloc (Nat.le_refl _) (.cells #[.int .u16 id, .bool reply, .int .i64 op, .bool auth, .bool trunc, .bool want, .bool avail, .int .i64 cd, .string qn, .int .u16 qt, .slice A1 n1 c1, .slice A2 n2 c2, .slice A3 n3 c3, .int .i64 z] 31)).alloc (by simp) (.cells #[.int .u16 uid, .bool ureply, .int .i64 uop, .bool uauth, .bool utrunc, .bool uwant, .bool uavail, .int .i64 ucd, .string uqn, .int .u16 uqt, .slice U1 un1 uc1, .slice U2 un2 uc2, .slice U3 un3 uc3, .int .i64 uz] 31)
  have BA := Lib.hid BA
  have LB := Lib.hid LB
  have SB := Lib.hid SB
  have SP := Lib.hid SP
  have PS := Lib.hid PS
  have LP := Lib.hid LP
  have R1 := Lib.hid R1
  have R2 := Lib.hid R2
  have R3 := Lib.hid R3
  clear l1 l2 l3 m1 m2 m3
  go_enter Try.func3, Try.ntmps3
  go_wp2_with fail
  refine (AW.out _).mono ?_
  rintro e w1 ⟨rfl, hb1'⟩
  have HQ := Lib.hid (hQ.below hb1')
  have HU := Lib.hid (hU.below hb1')
  have hb1 := below_trans hb0 hb0.size hb1'
  have PS : Hid (∀ wx, Below w1.heap.size w1 wx → Calls Try.prog 13 #[.agg #[.int .u16 id, .bool reply, .int .i64 op, .bool auth, .bool trunc, .bool want, .bool avail, .int .i64 cd, .string qn, .int .u16 qt, .slice A1 n1 c1, .slice A2 n2 c2, .slice A3 n3 c3, .int .i64 z], .agg #[.int .u16 uid, .bool ureply, .int .i64 uop, .bool uauth, .bool utrunc, .bool uwant, .bool uavail, .int .i64 ucd, .string uqn, .int .u16 uqt, .slice U1 un1 uc1, .slice U2 un2 uc2, .slice U3 un3 uc3, .int .i64 uz]] wx _) := Lib.hid (fun wx hx => PS.out w wx ((R1.out.below hb1).below hx) ((R2.out.below hb1).below hx) ((R3.out.below hb1).below hx))
  have LP : Hid (∀ wx, Below w1.heap.size w1 wx → Calls Try.prog 14 #[.agg #[.int .u16 id, .bool reply, .int .i64 op, .bool auth, .bool trunc, .bool want, .bool avail, .int .i64 cd, .string qn, .int .u16 qt, .slice A1 n1 c1, .slice A2 n2 c2, .slice A3 n3 c3, .int .i64 z], .agg #[.int .u16 uid, .bool ureply, .int .i64 uop, .bool uauth, .bool utrunc, .bool uwant, .bool uavail, .int .i64 ucd, .string uqn, .int .u16 uqt, .slice U1 un1 uc1, .slice U2 un2 uc2, .slice U3 un3 uc3, .int .i64 uz]] wx _) := Lib.hid (fun wx hx => LP.out w wx ((R1.out.below hb1).below hx) ((R2.out.below hb1).below hx) ((R3.out.below hb1).below hx))
  have HB1 := Lib.hid hb1
  clear hQ hU hb0 hb1 hb1' R1 R2 R3 AW
  go_upto_region 3 with fail
  refine wp_region_goesG data_follows (fun x => by simp [putsF, Act.put]; rfl) w1.heap.size w1
    [isV (.agg #[.int .u16 id, .bool reply, .int .i64 op, .bool auth, .bool trunc, .bool want, .bool avail, .int .i64 cd, .string qn, .int .u16 qt, .slice A1 n1 c1, .slice A2 n2 c2, .slice A3 n3 c3, .int .i64 z]), isV (.int .i64 code), isV (.agg #[.int .u16 id, .bool true, .int .i64 op, .bool false, .bool false, .bool want, .bool true, .int .i64 (code % 16), .string qn, .int .u16 qt, .slice none 0 0, .slice none 0 0, .slice none 0 0, .int .i64 mz]), isV (.agg #[.int .u16 id, .bool reply, .int .i64 op, .bool auth, .bool trunc, .bool want, .bool avail, .int .i64 cd, .string qn, .int .u16 qt, .slice A1 n1 c1, .slice A2 n2 c2, .slice A3 n3 c3, .int .i64 z]), isV (.int .i64 code), isV (.agg #[.int .u16 id, .bool true, .int .i64 op, .bool false, .bool false, .bool want, .bool true, .int .i64 (code % 16), .string qn, .int .u16 qt, .slice none 0 0, .slice none 0 0, .slice none 0 0, .int .i64 mz]), isV (.bool true), isV (.bool true), isV (.agg #[.int .u16 id, .bool reply, .int .i64 op, .bool auth, .bool trunc, .bool want, .bool avail, .int .i64 cd, .string qn, .int .u16 qt, .slice A1 n1 c1, .slice A2 n2 c2, .slice A3 n3 c3, .int .i64 z]), isV (.agg #[.int .u16 uid, .bool ureply, .int .i64 uop, .bool uauth, .bool utrunc, .bool uwant, .bool uavail, .int .i64 ucd, .string uqn, .int .u16 uqt, .slice U1 un1 uc1, .slice U2 un2 uc2, .slice U3 un3 uc3, .int .i64 uz]), msgW (fun v1 v2 v3 => .agg #[.int .u16 id, .bool true, .int .i64 op, .bool uauth, .bool false, .bool want, .bool true, .int .i64 (ucd % 16), .string qn, .int .u16 qt, v1, v2, v3, .int .i64 mz]) un1 un2 un3 s1 s2 s3, isV (.agg #[.int .u16 id, .bool reply, .int .i64 op, .bool auth, .bool trunc, .bool want, .bool avail, .int .i64 cd, .string qn, .int .u16 qt, .slice A1 n1 c1, .slice A2 n2 c2, .slice A3 n3 c3, .int .i64 z]), isV (.agg #[.int .u16 uid, .bool ureply, .int .i64 uop, .bool uauth, .bool utrunc, .bool uwant, .bool uavail, .int .i64 ucd, .string uqn, .int .u16 uqt, .slice U1 un1 uc1, .slice U2 un2 uc2, .slice U3 un3 uc3, .int .i64 uz]), msgW (fun v1 v2 v3 => .agg #[.int .u16 id, .bool true, .int .i64 op, .bool uauth, .bool false, .bool want, .bool true, .int .i64 (ucd % 16), .string qn, .int .u16 qt, v1, v2, v3, .int .i64 mz]) un1 un2 un3 s1 s2 s3, isV (.bool true), isV (.bool true), isV (.bool true)]
    (by kernel_rfl) (by kernel_rfl) (by kernel_rfl) rfl ?_ (Below.refl _ _) ?_ ?_
  · repeat (first | exact trivial | refine ⟨isV_stays _, ?_⟩ | refine ⟨msgW_stays _ _ _ _ _ _ _, ?_⟩)
  · refine ⟨?_, ?_, ?_, ?_, ?_, ?_, ?_, ?_, ?_, ?_, ?_, ?_, ?_, ?_, ?_, ?_, ?_, trivial⟩
    all_goals
      intro x wx hR hd
      simp at hd ⊢
    all_goals try simp [hd]
    · have q := HQ.out.below hR
      have k0 := q.get 0 _
      have k1 := q.get 1 _
      have k2 := q.get 2 _
      have k3 := q.get 3 _
      have k4 := q.get 4 _
      have k5 := q.get 5 _
      have k6 := q.get 6 _
      have k7 := q.get 7 _
      have k8 := q.get 8 _
      have k9 := q.get 9 _
      have k10 := q.get 10 _
      have k11 := q.get 11 _
      have k12 := q.get 12 _
      have k13 := q.get 13 _
      clear q
      go_simp; exact next_same _ rfl rfl hR
    · go_simp; exact next_same _ rfl rfl hR
    · go_simp
      go_at_call 11
      refine (BA.out _).mono ?_
      rintro e w2 ⟨rfl, hb⟩
      exact next_call _ rfl rfl hR hR.size hb
    · have q := HQ.out.below hR
      have k0 := q.get 0 _
      have k1 := q.get 1 _
      have k2 := q.get 2 _
      have k3 := q.get 3 _
      have k4 := q.get 4 _
      have k5 := q.get 5 _
      have k6 := q.get 6 _
      have k7 := q.get 7 _
      have k8 := q.get 8 _
      have k9 := q.get 9 _
      have k10 := q.get 10 _
      have k11 := q.get 11 _
      have k12 := q.get 12 _
      have k13 := q.get 13 _
      clear q
      go_simp; exact next_same _ rfl rfl hR
    · go_simp; exact next_same _ rfl rfl hR
    · go_simp
      go_at_call 12
      refine (LB.out _).mono ?_
      rintro e w2 ⟨rfl, hb⟩
      exact next_call _ rfl rfl hR hR.size hb
    · go_simp
      go_at_call 10
      refine (SB.out _).mono ?_
      rintro e w2 ⟨rfl, hb⟩
      exact next_call _ rfl rfl hR hR.size hb
    · go_simp; exact next_same _ rfl rfl hR
    · have q := HQ.out.below hR
      have k0 := q.get 0 _
      have k1 := q.get 1 _
      have k2 := q.get 2 _
      have k3 := q.get 3 _
      have k4 := q.get 4 _
      have k5 := q.get 5 _
      have k6 := q.get 6 _
      have k7 := q.get 7 _
      have k8 := q.get 8 _
      have k9 := q.get 9 _
      have k10 := q.get 10 _
      have k11 := q.get 11 _
      have k12 := q.get 12 _
      have k13 := q.get 13 _
      clear q
      go_simp; exact next_same _ rfl rfl hR
    · have q := HU.out.below hR
      have k0 := q.get 0 _
      have k1 := q.get 1 _
      have k2 := q.get 2 _
      have k3 := q.get 3 _
      have k4 := q.get 4 _
      have k5 := q.get 5 _
      have k6 := q.get 6 _
      have k7 := q.get 7 _
      have k8 := q.get 8 _
      have k9 := q.get 9 _
      have k10 := q.get 10 _
      have k11 := q.get 11 _
      have k12 := q.get 12 _
      have k13 := q.get 13 _
      clear q
      go_simp; exact next_same _ rfl rfl hR
    · go_simp
      go_at_call 13
      refine (PS.out _ hR).mono ?_
      rintro e w2 ⟨X1, x1, X2, x2, X3, x3, rfl, y1, y2, y3, hb⟩
      exact next_call _ rfl ⟨X1, x1, X2, x2, X3, x3, rfl, y1, y2, y3⟩ hR hR.size hb
    · have q := HQ.out.below hR
      have k0 := q.get 0 _
      have k1 := q.get 1 _
      have k2 := q.get 2 _
      have k3 := q.get 3 _
      have k4 := q.get 4 _
      have k5 := q.get 5 _
      have k6 := q.get 6 _
      have k7 := q.get 7 _
      have k8 := q.get 8 _
      have k9 := q.get 9 _
      have k10 := q.get 10 _
      have k11 := q.get 11 _
      have k12 := q.get 12 _
      have k13 := q.get 13 _
      clear q
      go_simp; exact next_same _ rfl rfl hR
    · have q := HU.out.below hR
      have k0 := q.get 0 _
      have k1 := q.get 1 _
      have k2 := q.get 2 _
      have k3 := q.get 3 _
      have k4 := q.get 4 _
      have k5 := q.get 5 _
      have k6 := q.get 6 _
      have k7 := q.get 7 _
      have k8 := q.get 8 _
      have k9 := q.get 9 _
      have k10 := q.get 10 _
      have k11 := q.get 11 _
      have k12 := q.get 12 _
      have k13 := q.get 13 _
      clear q
      go_simp; exact next_same _ rfl rfl hR
    · go_simp
      go_at_call 14
      refine (LP.out _ hR).mono ?_
      rintro e w2 ⟨X1, x1, X2, x2, X3, x3, rfl, y1, y2, y3, hb⟩
      exact next_call _ rfl ⟨X1, x1, X2, x2, X3, x3, rfl, y1, y2, y3⟩ hR hR.size hb
    · have h10 : msgW (fun v1 v2 v3 => .agg #[.int .u16 id, .bool true, .int .i64 op, .bool uauth, .bool false, .bool want, .bool true, .int .i64 (ucd % 16), .string qn, .int .u16 qt, v1, v2, v3, .int .i64 mz]) un1 un2 un3 s1 s2 s3 (x 10) wx := by simp [hd]
      have h13 : msgW (fun v1 v2 v3 => .agg #[.int .u16 id, .bool true, .int .i64 op, .bool uauth, .bool false, .bool want, .bool true, .int .i64 (ucd % 16), .string qn, .int .u16 qt, v1, v2, v3, .int .i64 mz]) un1 un2 un3 s1 s2 s3 (x 13) wx := by simp [hd]
      obtain ⟨X1, x1, X2, x2, X3, x3, e1, y1, y2, y3⟩ := h10
      obtain ⟨Y1, z1, Y2, z2, Y3, z3, e2, v1, v2, v3⟩ := h13
      rw [e1, e2]
      go_simp
      go_at_call 10
      refine (SP.out X1 X2 X3 Y1 Y2 Y3 x1 x2 x3 z1 z2 z3 _ y1 y2 y3 v1 v2 v3).mono ?_
      rintro e w2 ⟨rfl, hb⟩
      exact next_call _ rfl rfl hR hR.size hb
    · go_simp; exact next_same _ rfl rfl hR
    · go_simp; exact next_same _ rfl rfl hR
  · intro x wx hR hx
    simp [AllWords] at hx
    have h16 : x 16 = .bool true := by simp [hx]
    have HBX := Lib.hid (below_trans HB1.out HB1.out.size hR)
    rw [h16]
    clear hx
    go_wp2_with fail
    go_ret
    exact ⟨rfl, HBX.out⟩
end Go.Proofs.Ytbjbppnjheaecaa
