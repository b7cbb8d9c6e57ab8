/- Texts that walks stand on, one behind the other. -/
import Derived.Test.YtpbbnpglcadimaaDoorMgSB
import Derived.Test.YtpbbnpglcadimaaDoorNameW
import Derived.Test.YtpbbnpglcadimaaDoorMid
import Derived.Test.YtpbbnpglcadimaaDoorRecA
import Derived.Test.YtpbbnpglcadimaaDoorStrA
import Derived.Outline
import Derived.Test.YtpbbnpglcadimaaDoorView
import Derived.Test.YtpbbnpglcadimaaDoorOb
import Derived.Test.YtpbbnpglcadimaaDoorCs
import Derived.Test.YtpbbnpglcadimaaDoorMgSA
import Derived.Test.YtpbbnpglcadimaaDoorRecB
import Derived.Test.YtpbbnpglcadimaaDoorZonB
import Derived.Lib.AppendZeros
import Derived.Lib.SliceRun
namespace Go.Proofs.YtpbbnpglcadimaaDoor
open Go.RowKit
set_option linter.unusedVariables false
set_option linter.unusedSimpArgs false
set_option maxRecDepth 20000
set_option maxHeartbeats 800000 in
theorem make7_gen (A : Option Addr) (n c : Nat) (zs : List Int) (w : World) (hA : Sl w w.heap.size 1 A n (zs.map (Value.int .u8))) (hz : ∀ z ∈ zs, 0 ≤ z ∧ z < 256) (hn : n ≤ 140737488355328) (s r y e : Nat) (hs : s < 4294967296) (hr : r < 256) (hy : y < 256) (he : e < 256) :
    Calls Tryd.prog 26 #[.slice A n c, .int .u32 s, .int .u8 r, .int .u8 y, .int .u8 e] w fun ex w' => ex = .returned (sv (dataL (nameZ zs) (nameZ zs) [s, r, y, e, 1])) ∧ Below w.heap.size w w' := by
  have NA := Lib.hid (name_any A n c zs w hA hz (by unfold maxLen; omega))
  have lN := nameZ_len zs hz
  generalize nameZ zs = X at *
  obtain ⟨N, hN⟩ : ∃ N, N = ByteArray.mk X.toArray := ⟨_, rfl⟩
  have nX : N.data.toList = X := by rw [hN, mk_toList]
  have sN : N.size ≤ 84 := by rw [hN, mk_size]; exact lN
  unfold sv at NA
  rw [← hN] at NA
  have i1 : IntKind.u32.wrap (r : Int) = r := by rw [IntKind.wrap_u32']; omega
  have i2 : IntKind.u32.wrap (y : Int) = y := by rw [IntKind.wrap_u32']; omega
  have i3 : IntKind.u32.wrap (e : Int) = e := by rw [IntKind.wrap_u32']; omega
  have q1 : ¬ 9223372036854775807 < N.size + 1 := by omega
  have q2 : ¬ 9223372036854775807 < N.size + 1 + N.size := by omega
  have q3 : ¬ 9223372036854775807 < N.size + 1 + N.size + 1 := by omega
  have q4 : ¬ 9223372036854775807 < N.size + 1 + N.size + 1 + 20 := by omega
  clear hN hA hz lN
  go_enter Tryd.func26, Tryd.ntmps26
  go_wp2_with fail
  refine NA.out.mono ?_
  rintro ex w1 ⟨rfl, hb1⟩
  clear NA
  go_wp2_with fail
  refine (put32_any none 0 0 [] _ 5 5 [s, r, y, e, 1] _ (Sl.nil _ _ _ _) (fun _ => ⟨rfl, rfl⟩) (Sl.fresh _ _ _ _ _ rfl rfl) (by simp; omega) (by omega)).mono ?_
  rintro ex w3 ⟨g, rfl, hown, hb3⟩
  have hB3 := below_alloc _ hb1 hb1.size hb3
  have hcv := run_string_own (P := Tryd.prog) w3 64 9 5 _ _ _ _ _ Tryd.underlying64 Tryd.underlying5 Tryd.underlying9 hown
  have hlT : ([] ++ List.flatMap b32 [s, r, y, e, 1]).length = 20 := by rw [List.nil_append, b32_len]; rfl
  obtain ⟨L, hL⟩ : ∃ L, [] ++ List.flatMap b32 [s, r, y, e, 1] = L := ⟨_, rfl⟩
  rw [hL] at hcv hlT
  obtain ⟨T, hT⟩ : ∃ T, T = (ByteArray.mk L.toArray) := ⟨_, rfl⟩
  rw [← hT] at hcv
  have sT : T.size = 20 := by rw [hT, mk_size]; exact hlT
  have hfin : Value.string (N ++ ⟨#[0]⟩ ++ N ++ ⟨#[0]⟩ ++ T) = sv (dataL X X [s, r, y, e, 1]) := by
    rw [hT, ← hL, sv_append]
    unfold sv dataL
    simp [nX]
  have HF := Lib.hid hfin
  have q5 : ¬ 9223372036854775807 < (N ++ ⟨#[0]⟩ ++ N ++ ⟨#[0]⟩ : ByteArray).size + T.size := by simp only [ByteArray.size_append]; show ¬ _ < N.size + 1 + N.size + 1 + T.size; omega
  have q6 : ¬ 9223372036854775807 < N.size + 1 + N.size + 1 + T.size := by omega
  clear hown hT hL hlT hfin sT nX
  go_wp2_with fail
  go_ret
  exact ⟨by rw [← HF.out]; rfl, hB3⟩

/-- The data of a zone's SOA of a serial number. -/
def soaD (n : Nat) : ByteArray := ⟨(dataL (nameZ []) (nameZ []) [n, 10, 3, 40, 1]).toArray⟩
/-- A zone's SOA. -/
def soaR (o : ByteArray) (n : Nat) : RecT := (o, 6, 9, soaD n)
/-- A zone's name, by a number. -/
def originB (n : Nat) : ByteArray := ⟨(nameZ [((n % 6 : Nat) : Int)]).toArray⟩
set_option maxHeartbeats 1600000 in
theorem soa9_any (o : ByteArray) (n : Nat) (hn : n < 4294967296) (w : World) : Calls Tryd.prog 10 #[.string o, .int .u32 (n : Nat)] w fun e w' => e = .returned (recV (soaR o n)) ∧ Below w.heap.size w w' := by
  have MK : Hid (∀ w, Calls Tryd.prog 26 #[.slice none 0 0, .int .u32 (n : Nat), .int .u8 10, .int .u8 3, .int .u8 40] w fun e w' => e = .returned (.string (soaD n)) ∧ Below w.heap.size w w') :=
    Lib.hid (fun w => make7_gen none 0 0 [] w (Sl.nil _ _ _ _) (by simp) (by omega) n 10 3 40 hn (by omega) (by omega) (by omega))
  unfold soaR recV
  simp only
  generalize soaD n = D at *
  have hb := (Below.refl w.heap.size w).alloc (Nat.le_refl _) (.cells #[.string ⟨#[]⟩, .int .u16 0, .int .u32 0, .string ⟨#[]⟩] 41)
  have hC := Cs.new w #[.string ⟨#[]⟩, .int .u16 0, .int .u32 0, .string ⟨#[]⟩] 41 [.string ⟨#[]⟩, .int .u16 0, .int .u32 0, .string ⟨#[]⟩]
  have H0 := Lib.hid (And.intro hb hC)
  clear hb hC
  go_enter Tryd.func10, Tryd.ntmps10
  go_wp2_with fail
  refine (MK.out _).mono ?_
  rintro e w1 ⟨rfl, hb1⟩
  have hC1 := H0.out.2.below hb1
  have HTH := Lib.hid (hC1.there 4 rfl)
  have HM := Lib.hid (hC1.mid [.string o, .int .u16 6, .int .u32 9, .string D] rfl)
  have HBM := Lib.hid (below_setCells' (B := w.heap.size) (g := w.heap.size) (Nat.le_refl _) [.string o, .int .u16 6, .int .u32 9, .string D] 0 (below_trans H0.out.1 H0.out.1.size hb1))
  clear hb1 hC1
  go_wp2_with (first | refine wpList_store_mid rfl 41 _ _ rfl w.heap.size 0 #[.string o, .int .u16 6, .int .u32 9, .string D] rfl rfl HTH.out (by kernel_rfl) (by simp [Value.oneCell']) ?_)
  exact bodyPost_ret (v := .agg #[.string o, .int .u16 6, .int .u32 9, .string D]) (results_cell1 Tryd.results10 _ _ _ w.heap.size 0 _ _ rfl HM.out.range Tryd.underlying41 rfl (by kernel_rfl)) rfl ⟨rfl, HBM.out⟩
set_option maxHeartbeats 1600000 in
theorem origin_any (n : Nat) (hn : n < 256) (w : World) : Calls Tryd.prog 6 #[.int .u8 (n : Nat)] w fun e w' => e = .returned (.string (originB n)) ∧ Below w.heap.size w w' := by
  have hm : (n : Int).tmod 6 = ((n % 6 : Nat) : Int) := by rw [Int.tmod_eq_emod_of_nonneg (by omega)]; omega
  have NM : Hid (Calls Tryd.prog 20 #[.slice (some ⟨w.heap.size, 0, none⟩) 1 1] (w.alloc (.cells #[.int .u8 ((n % 6 : Nat) : Int)] 5)) fun e w' => e = .returned (.string (originB n)) ∧ Below (w.alloc (.cells #[.int .u8 ((n % 6 : Nat) : Int)] 5)).heap.size (w.alloc (.cells #[.int .u8 ((n % 6 : Nat) : Int)] 5)) w') :=
    Lib.hid (name_any (some ⟨w.heap.size, 0, none⟩) 1 1 [((n % 6 : Nat) : Int)] _ (Sl.fresh _ _ _ 1 _ rfl rfl) (by intro z hz; rw [List.mem_singleton] at hz; subst hz; omega) (by decide))
  generalize originB n = O at *
  obtain ⟨q, hq⟩ : ∃ q : Nat, q = n % 6 := ⟨_, rfl⟩
  rw [← hq] at hm NM
  clear hq
  go_enter Tryd.func6, Tryd.ntmps6
  go_wp2_with fail
  refine NM.out.mono ?_
  rintro e w1 ⟨rfl, hb1⟩
  have HB := Lib.hid (below_alloc _ (Below.refl w.heap.size w) (Nat.le_refl _) hb1)
  clear hb1
  go_wp2_with fail
  go_ret
  exact ⟨rfl, HB.out⟩
end Go.Proofs.YtpbbnpglcadimaaDoor
namespace Go.Proofs.YtpbbnpglcadimaaDoor
open Go.RowKit
set_option linter.unusedVariables false
set_option maxRecDepth 20000

set_option maxHeartbeats 800000 in
theorem cutSoa_any (s : ByteArray) (w : World) (hs : s.size ≤ 140737488355328) :
    Calls Tryd.prog 77 #[.string s] w fun e w' => Below w.heap.size w w' ∧ ((∃ a b t, IsSoa s.data.toList a b t ∧ e = .returned (.tuple #[sv a, sv b, sv t, .bool true])) ∨ ((∀ a b t, ¬ IsSoa s.data.toList a b t) ∧ e = .returned (.tuple #[.string ⟨#[]⟩, .string ⟨#[]⟩, .string ⟨#[]⟩, .bool false]))) := by
  have hlen : s.data.toList.length = s.size := by simp
  obtain ⟨L, hL⟩ : ∃ L, s.data.toList = L := ⟨_, rfl⟩
  have HC := Lib.hid (fun w => cutp_any s w hs)
  rw [hL] at HC hlen
  rw [hL]
  clear hL
  go_enter Tryd.func77, Tryd.ntmps77
  go_wp2_with fail
  refine (HC.out _).mono ?_
  rintro e w1 ⟨hb1, ⟨a, r, hc1, rfl⟩ | ⟨hno, rfl⟩⟩
  · have HC1 := Lib.hid hc1
    have hl1 := hc1.len
    have HC2 := Lib.hid (fun w => cutp_any ⟨r.toArray⟩ w (by rw [mk_size]; omega))
    rw [mk_toList] at HC2
    clear hc1
    unfold sv
    go_wp2_with fail
    refine (HC2.out _).mono ?_
    rintro e w2 ⟨hb2', ⟨b, t, hc2, rfl⟩ | ⟨hno, rfl⟩⟩
    all_goals have hb2 := below_trans hb1 hb1.size hb2'
    · unfold sv
      by_cases h20 : t.length = 20
      · have hsz : (ByteArray.mk t.toArray).size = 20 := by rw [mk_size]; exact h20
        have HY := Lib.hid (isSoa_yes HC1.out hc2 h20)
        have hne : (((ByteArray.mk t.toArray).size : Int) != 20) = false := by rw [hsz]; decide
        obtain ⟨T, hT⟩ : ∃ T, T = ByteArray.mk t.toArray := ⟨_, rfl⟩
        rw [← hT] at hsz hne ⊢
        have HT := Lib.hid hT
        clear hc2 HC1 HC2 HC h20 hT
        go_wp2_with fail
        refine bodyPost_ret (v := .tuple #[.string ⟨a.toArray⟩, .string ⟨b.toArray⟩, .string T, .bool true]) (by simp [results, Tryd.results77, go_sem]) rfl ⟨hb2, .inl ⟨a, b, t, HY.out, ?_⟩⟩
        rw [HT.out]; rfl
      · have hne : (((ByteArray.mk t.toArray).size : Int) != 20) = true := by rw [mk_size]; simp; omega
        have HN := Lib.hid (isSoa_no3 HC1.out hc2 h20)
        generalize ByteArray.mk t.toArray = T at *
        clear hc2 HC1 HC2 HC h20
        go_wp2_with fail
        refine bodyPost_ret (v := .tuple #[.string ⟨#[]⟩, .string ⟨#[]⟩, .string ⟨#[]⟩, .bool false]) (by simp [results, Tryd.results77, go_sem]) rfl ⟨hb2, .inr ⟨HN.out, rfl⟩⟩
    · have HN := Lib.hid (isSoa_no2 HC1.out hno)
      clear HC1 HC2 HC hno
      go_wp2_with fail
      refine bodyPost_ret (v := .tuple #[.string ⟨#[]⟩, .string ⟨#[]⟩, .string ⟨#[]⟩, .bool false]) (by simp [results, Tryd.results77, go_sem]) rfl ⟨hb2, .inr ⟨HN.out, rfl⟩⟩
  · have HN := Lib.hid (isSoa_no1 hno)
    clear HC hno
    go_wp2_with fail
    refine bodyPost_ret (v := .tuple #[.string ⟨#[]⟩, .string ⟨#[]⟩, .string ⟨#[]⟩, .bool false]) (by simp [results, Tryd.results77, go_sem]) rfl ⟨hb1, .inr ⟨HN.out, rfl⟩⟩
theorem rmay_soa (s : ByteArray) (w : World) (hs : s.size ≤ 140737488355328) :
    Calls Tryd.prog 61 #[.int .u16 6, .string s] w fun e w' => Below w.heap.size w w' ∧ (((∃ a b t, IsSoa s.data.toList a b t) ∧ e = .returned (.bool true)) ∨ ((∀ a b t, ¬ IsSoa s.data.toList a b t) ∧ e = .returned (.bool false))) := by
  have HC := Lib.hid (fun w => cutSoa_any s w hs)
  go_enter Tryd.func61, Tryd.ntmps61
  go_wp2_with fail
  refine (HC.out _).mono ?_
  rintro e w1 ⟨hb1, ⟨a, b, t, hy, rfl⟩ | ⟨hno, rfl⟩⟩
  · have HY := Lib.hid hy
    clear hy
    unfold sv
    go_wp2_with fail
    go_ret
    exact ⟨hb1, .inl ⟨⟨a, b, t, HY.out⟩, rfl⟩⟩
  · have HN := Lib.hid hno
    clear hno
    go_wp2_with fail
    go_ret
    exact ⟨hb1, .inr ⟨HN.out, rfl⟩⟩
end Go.Proofs.YtpbbnpglcadimaaDoor
namespace Go.Proofs.YtpbbnpglcadimaaDoor
open Go.RowKit
set_option linter.unusedVariables false
set_option maxRecDepth 20000

theorem at8_mk (t : List UInt8) (i : Nat) (h : i < t.length) : at8 ⟨t.toArray⟩ i = (t[i]).toNat := by
  unfold at8; simp [List.getD_eq_getElem?_getD, List.getElem?_eq_getElem h]
theorem n32_lt (s : ByteArray) (a : Nat) : n32 s a < 4294967296 := by
  have h1 := at8_lt s a; have h2 := at8_lt s (a + 1); have h3 := at8_lt s (a + 2); have h4 := at8_lt s (a + 3)
  unfold n32; omega
theorem b32_n32 (t : List UInt8) (a : Nat) (h : a + 4 ≤ t.length) : b32 (n32 ⟨t.toArray⟩ a) = (t.drop a).take 4 := by
  have h0 := at8_mk t a (by omega)
  have h1 := at8_mk t (a + 1) (by omega)
  have h2 := at8_mk t (a + 2) (by omega)
  have h3 := at8_mk t (a + 3) (by omega)
  have l0 := (t[a]'(by omega)).toNat_lt
  have l1 := (t[a+1]'(by omega)).toNat_lt
  have l2 := (t[a+2]'(by omega)).toNat_lt
  have l3 := (t[a+3]'(by omega)).toNat_lt
  have hd : (t.drop a).take 4 = [t[a]'(by omega), t[a+1]'(by omega), t[a+2]'(by omega), t[a+3]'(by omega)] := by
    rw [List.drop_eq_getElem_cons (by omega), List.drop_eq_getElem_cons (by omega), List.drop_eq_getElem_cons (by omega), List.drop_eq_getElem_cons (by omega)]; rfl
  rw [hd]
  unfold b32 n32
  rw [h0, h1, h2, h3]
  have key : ∀ (x : UInt8) (m : Nat), m = x.toNat → UInt8.ofNat m = x := by rintro x m rfl; simp
  simp only [List.cons.injEq, and_true]
  refine ⟨key _ _ ?_, key _ _ ?_, key _ _ ?_, key _ _ ?_⟩ <;> omega
/-- The five numbers of twenty bytes. -/
def nums (t : List UInt8) : List Nat := [n32 ⟨t.toArray⟩ 0, n32 ⟨t.toArray⟩ 4, n32 ⟨t.toArray⟩ 8, n32 ⟨t.toArray⟩ 12, n32 ⟨t.toArray⟩ 16]
theorem nums_bytes (t : List UInt8) (h : t.length = 20) : (nums t).flatMap b32 = t := by
  unfold nums
  simp only [List.flatMap_cons, List.flatMap_nil, List.append_nil]
  rw [b32_n32 t 0 (by omega), b32_n32 t 4 (by omega), b32_n32 t 8 (by omega), b32_n32 t 12 (by omega), b32_n32 t 16 (by omega)]
  have e : ∀ a, t.drop a = (t.drop a).take 4 ++ t.drop (a + 4) := fun a => by rw [← List.drop_drop]; exact (List.take_append_drop 4 _).symm
  have e5 : (t.drop 16).take 4 = t.drop 16 := List.take_of_length_le (by simp; omega)
  rw [e5, ← e 12, ← e 8, ← e 4, ← e 0, List.drop_zero]
theorem dataL_soa {l a b t : List UInt8} (h : IsSoa l a b t) : dataL a b (nums t) = l := by
  unfold dataL
  rw [nums_bytes t h.2.2]
  exact h.1.2.symm
end Go.Proofs.YtpbbnpglcadimaaDoor
namespace Go.Proofs.YtpbbnpglcadimaaDoor
open Go.RowKit
set_option linter.unusedVariables false
set_option maxRecDepth 20000

theorem b32_inj {x y : Nat} (hx : x < 4294967296) (hy : y < 4294967296) (h : b32 x = b32 y) : x = y := by
  have key : ∀ n : Nat, n < 4294967296 → (b32 n).map (·.toNat) = [n / 16777216, n / 65536 % 256, n / 256 % 256, n % 256] := by
    intro n hn
    unfold b32
    simp only [List.map_cons, List.map_nil]
    rw [ofNat_small _ (by omega), ofNat_small _ (by omega), ofNat_small _ (by omega), ofNat_small _ (by omega)]
  have h2 := congrArg (List.map (·.toNat)) h
  rw [key x hx, key y hy] at h2
  simp only [List.cons.injEq, and_true] at h2
  omega
theorem flat_inj : ∀ (xs ys : List Nat), xs.length = ys.length → (∀ x ∈ xs, x < 4294967296) → (∀ y ∈ ys, y < 4294967296) → xs.flatMap b32 = ys.flatMap b32 → xs = ys
  | [], [], _, _, _, _ => rfl
  | x :: xs, y :: ys, hl, hx, hy, h => by
    simp only [List.flatMap_cons] at h
    obtain ⟨h1, h2⟩ := List.append_inj h (by simp [b32])
    rw [b32_inj (hx x (by simp)) (hy y (by simp)) h1, flat_inj xs ys (by simpa using hl) (fun z hz => hx z (by simp [hz])) (fun z hz => hy z (by simp [hz])) h2]
theorem isSoa_data {a b : List UInt8} {ns : List Nat} (ha : mayL a) (hb : mayL b) (hn : ns.length = 5) : IsSoa (dataL a b ns) a b (ns.flatMap b32) := ⟨⟨ha, rfl⟩, hb, by rw [b32_len, hn]⟩
theorem dataL_inj {a b a' b' : List UInt8} {ns ns' : List Nat} (ha : mayL a) (hb : mayL b) (ha' : mayL a') (hb' : mayL b') (hn : ns.length = 5) (hn' : ns'.length = 5) (hx : ∀ x ∈ ns, x < 4294967296) (hy : ∀ x ∈ ns', x < 4294967296)
    (h : dataL a b ns = dataL a' b' ns') : a = a' ∧ b = b' ∧ ns = ns' := by
  have h1 := isSoa_data (ns := ns) ha hb hn
  rw [h] at h1
  obtain ⟨e1, e2, e3⟩ := h1.one (isSoa_data ha' hb' hn')
  exact ⟨e1, e2, flat_inj _ _ (by omega) hx hy e3⟩
end Go.Proofs.YtpbbnpglcadimaaDoor
namespace Go.Proofs.YtpbbnpglcadimaaDoor
open Go.RowKit
set_option linter.unusedVariables false
set_option maxRecDepth 20000

theorem soaV_data {a b : List UInt8} {n1 n2 n3 n4 n5 : Nat} (ha : mayL a) (hb : mayL b) (h1 : n1 < 4294967296) (h2 : n2 < 4294967296) (h3 : n3 < 4294967296) (h4 : n4 < 4294967296) (h5 : n5 < 4294967296) {a' b' t : List UInt8} (h : IsSoa (dataL a b [n1, n2, n3, n4, n5]) a' b' t) :
    soaV a' b' t = .agg #[sv a, sv b, .int .u32 n1, .int .u32 n2, .int .u32 n3, .int .u32 n4, .int .u32 n5] := by
  obtain ⟨rfl, rfl, rfl⟩ := h.one (isSoa_data ha hb rfl)
  have hl : ([n1, n2, n3, n4, n5].flatMap b32).length = 20 := by rw [b32_len]; rfl
  have hn := flat_inj (nums ([n1, n2, n3, n4, n5].flatMap b32)) [n1, n2, n3, n4, n5] rfl (by intro x hx; unfold nums at hx; simp at hx; rcases hx with rfl | rfl | rfl | rfl | rfl <;> exact n32_lt _ _)
    (by intro x hx; simp at hx; omega) (nums_bytes _ hl)
  unfold nums at hn
  simp only [List.cons.injEq, and_true] at hn
  obtain ⟨e1, e2, e3, e4, e5⟩ := hn
  unfold soaV
  rw [e1, e2, e3, e4, e5]
set_option maxHeartbeats 800000 in
theorem sof_other (nm d : ByteArray) (t ttl : Int) (w : World) (ht : (t != 6) = true) :
    Calls Tryd.prog 42 #[.agg #[.string nm, .int .u16 t, .int .u32 ttl, .string d]] w fun e w' => e = .returned (.tuple #[soa0, .bool false]) ∧ Below w.heap.size w w' := by
  go_enter Tryd.func42, Tryd.ntmps42
  go_wp2_with fail
  refine bodyPost_ret (v := .tuple #[soa0, .bool false]) (by simp [soa0, results, Tryd.results42, go_sem]) rfl ⟨rfl, ?_⟩
  exact ((Below.refl w.heap.size w).alloc (Nat.le_refl _) _).alloc (by simp) _
set_option maxHeartbeats 1600000 in
theorem sof_soa (nm d : ByteArray) (ttl : Int) (w : World) (hd : d.size ≤ 140737488355328) :
    Calls Tryd.prog 42 #[.agg #[.string nm, .int .u16 6, .int .u32 ttl, .string d]] w fun e w' => Below w.heap.size w w' ∧ ((∃ a b t, IsSoa d.data.toList a b t ∧ e = .returned (.tuple #[soaV a b t, .bool true])) ∨ ((∀ a b t, ¬ IsSoa d.data.toList a b t) ∧ e = .returned (.tuple #[soa0, .bool false]))) := by
  have PA := Lib.hid (fun w => parse_any d w hd)
  go_enter Tryd.func42, Tryd.ntmps42
  go_wp2_with fail
  have hC := Cs.new (w.alloc (.cells #[.string nm, .int .u16 6, .int .u32 ttl, .string d] 41)) #[.string ⟨#[]⟩, .string ⟨#[]⟩, .int .u32 0, .int .u32 0, .int .u32 0, .int .u32 0, .int .u32 0] 60 [.string ⟨#[]⟩, .string ⟨#[]⟩, .int .u32 0, .int .u32 0, .int .u32 0, .int .u32 0, .int .u32 0]
  have hP : (w.alloc (.cells #[.string nm, .int .u16 6, .int .u32 ttl, .string d] 41)).heap.size = w.heap.size + 1 := by simp
  rw [hP] at hC
  have hbW := ((Below.refl w.heap.size w).alloc (Nat.le_refl _) (.cells #[.string nm, .int .u16 6, .int .u32 ttl, .string d] 41)).alloc (by simp) (.cells #[.string ⟨#[]⟩, .string ⟨#[]⟩, .int .u32 0, .int .u32 0, .int .u32 0, .int .u32 0, .int .u32 0] 60)
  generalize hW : (w.alloc (.cells #[.string nm, .int .u16 6, .int .u32 ttl, .string d] 41)).alloc (.cells #[.string ⟨#[]⟩, .string ⟨#[]⟩, .int .u32 0, .int .u32 0, .int .u32 0, .int .u32 0, .int .u32 0] 60) = W at *
  clear hW hP
  refine (PA.out _).mono ?_
  rintro e w2 ⟨hb2', h2⟩
  have hC2 := hC.below hb2'
  have hb2 := below_trans hbW hbW.size hb2'
  have d0 := hC2.get 0 _
  have d1 := hC2.get 1 _
  have d2 := hC2.get 2 _
  have d3 := hC2.get 3 _
  have d4 := hC2.get 4 _
  have d5 := hC2.get 5 _
  have d6 := hC2.get 6 _
  have fz : ∀ j, j < 7 → w2.frozen? ⟨w.heap.size + 1, j, none⟩ = false := fun j hj => hC2.froz j hj
  have f0 := fz 0 (by omega)
  have f1 := fz 1 (by omega)
  have f2 := fz 2 (by omega)
  have f3 := fz 3 (by omega)
  have f4 := fz 4 (by omega)
  have f5 := fz 5 (by omega)
  have f6 := fz 6 (by omega)
  clear hC2 hC hbW hb2' PA fz
  rcases h2 with ⟨a, b, t, hy, rfl⟩ | ⟨hno, rfl⟩
  · have HY := Lib.hid hy
    clear hy
    obtain ⟨a1, a2, a3, a4, a5, a6, a7, ha⟩ : ∃ a1 a2 a3 a4 a5 a6 a7, soaV a b t = .agg #[.string a1, .string a2, .int .u32 a3, .int .u32 a4, .int .u32 a5, .int .u32 a6, .int .u32 a7] := ⟨_, _, _, _, _, _, _, rfl⟩
    rw [ha]
    have HA := Lib.hid ha
    clear ha
    go_wp2_with fail
    refine bodyPost_ret (v := .tuple #[.agg #[.string a1, .string a2, .int .u32 a3, .int .u32 a4, .int .u32 a5, .int .u32 a6, .int .u32 a7], .bool true]) (by simp [results, Tryd.results42, go_sem, d0, d1, d2, d3, d4, d5, d6]) rfl ⟨?_, .inl ⟨a, b, t, HY.out, by rw [HA.out]⟩⟩
    iterate 7 (refine Below.setCell ?_ (by simp) _)
    exact hb2
  · have HN := Lib.hid hno
    clear hno
    unfold soa0
    go_wp2_with fail
    refine bodyPost_ret (v := .tuple #[soa0, .bool false]) (by simp [soa0, results, Tryd.results42, go_sem, d0, d1, d2, d3, d4, d5, d6]) rfl ⟨?_, .inr ⟨HN.out, rfl⟩⟩
    iterate 7 (refine Below.setCell ?_ (by simp) _)
    exact hb2
end Go.Proofs.YtpbbnpglcadimaaDoor
namespace Go.Proofs.YtpbbnpglcadimaaDoor
open Go.RowKit
set_option linter.unusedVariables false
set_option linter.unusedSimpArgs false
set_option maxRecDepth 20000
theorem dataL_len9 (a b : List UInt8) (ns : List Nat) : (dataL a b ns).length = a.length + b.length + 4 * ns.length + 2 := by
  unfold dataL
  rw [List.length_append, List.length_cons, List.length_append, List.length_cons, b32_len]; omega
theorem sof_soaR (o : ByteArray) (n : Nat) (hn : n < 4294967296) (w : World) : Calls Tryd.prog 42 #[recV (soaR o n)] w fun e w' => e = .returned (.tuple #[.agg #[sv (nameZ []), sv (nameZ []), .int .u32 n, .int .u32 10, .int .u32 3, .int .u32 40, .int .u32 1], .bool true]) ∧ Below w.heap.size w w' := by
  have hm := nameZ_may [] (by simp)
  have hl := nameZ_len [] (by simp)
  have hd : (soaD n).size ≤ 140737488355328 := by
    unfold soaD
    rw [mk_size, dataL_len9]
    simp
    omega
  have hdl : (soaD n).data.toList = dataL (nameZ []) (nameZ []) [n, 10, 3, 40, 1] := by unfold soaD; simp
  refine (sof_soa o (soaD n) 9 w hd).mono ?_
  rintro e w' ⟨hb, ⟨a, b, t, hs, rfl⟩ | ⟨hno, rfl⟩⟩
  · rw [hdl] at hs
    rw [soaV_data hm hm hn (by omega) (by omega) (by omega) (by omega) hs]
    exact ⟨rfl, hb⟩
  · exfalso
    rw [hdl] at hno
    exact hno _ _ _ (isSoa_data hm hm rfl)
set_option maxHeartbeats 1600000 in
theorem serial_soa (o : ByteArray) (n : Nat) (hn : n < 4294967296) (w : World) : Calls Tryd.prog 22 #[recV (soaR o n)] w fun e w' => e = .returned (.int .u32 (n : Nat)) ∧ Below w.heap.size w w' := by
  have OF : Hid (∀ w, Calls Tryd.prog 42 #[.agg #[.string o, .int .u16 6, .int .u32 9, .string (soaD n)]] w fun e w' => (∃ EX, EX = Value.agg #[sv (nameZ []), sv (nameZ []), .int .u32 n, .int .u32 10, .int .u32 3, .int .u32 40, .int .u32 1] ∧ e = .returned (.tuple #[EX, .bool true])) ∧ Below w.heap.size w w') :=
    Lib.hid (fun w => (sof_soaR o n hn w).mono (by rintro e w' ⟨rfl, hb⟩; exact ⟨⟨_, rfl, rfl⟩, hb⟩))
  unfold soaR recV
  simp only
  generalize soaD n = D at *
  have hb := (Below.refl w.heap.size w).alloc (Nat.le_refl _) (.cells #[.string o, .int .u16 6, .int .u32 9, .string D] 41)
  have HB := Lib.hid hb
  clear hb
  go_enter Tryd.func22, Tryd.ntmps22
  go_wp2_with fail
  refine (OF.out _).mono ?_
  rintro e w2 ⟨⟨EX, hEX, rfl⟩, hb2⟩
  have HEX := Lib.hid hEX
  clear hEX
  have hZ := Cs.new w2 #[.string ⟨#[]⟩, .string ⟨#[]⟩, .int .u32 0, .int .u32 0, .int .u32 0, .int .u32 0, .int .u32 0] 60 [.string ⟨#[]⟩, .string ⟨#[]⟩, .int .u32 0, .int .u32 0, .int .u32 0, .int .u32 0, .int .u32 0]
  have HTH := Lib.hid (hZ.there 7 rfl)
  have hM := hZ.mid [sv (nameZ []), sv (nameZ []), .int .u32 n, .int .u32 10, .int .u32 3, .int .u32 40, .int .u32 1] rfl
  have hbZ := below_setCells' (B := w.heap.size) (g := w2.heap.size) (Nat.le_trans HB.out.size hb2.size) [sv (nameZ []), sv (nameZ []), .int .u32 n, .int .u32 10, .int .u32 3, .int .u32 40, .int .u32 1] 0 ((below_trans HB.out HB.out.size hb2).alloc (Nat.le_trans HB.out.size hb2.size) (.cells #[.string ⟨#[]⟩, .string ⟨#[]⟩, .int .u32 0, .int .u32 0, .int .u32 0, .int .u32 0, .int .u32 0] 60))
  have k2 := hM.get 2 _
  have HBZ := Lib.hid hbZ
  have HK2 := Lib.hid k2
  clear hb2 hZ hM hbZ k2
  go_upto_region 2 with (first | refine wpList_store_mid rfl 60 _ _ rfl w2.heap.size 0 #[sv (nameZ []), sv (nameZ []), .int .u32 n, .int .u32 10, .int .u32 3, .int .u32 40, .int .u32 1] rfl HEX.out HTH.out (by kernel_rfl) (by simp [Value.oneCell', sv]) ?_)
  have k2 := HK2.out
  generalize (w2.alloc (.cells #[.string ⟨#[]⟩, .string ⟨#[]⟩, .int .u32 0, .int .u32 0, .int .u32 0, .int .u32 0, .int .u32 0] 60)).setCells w2.heap.size 0 [sv (nameZ []), sv (nameZ []), .int .u32 n, .int .u32 10, .int .u32 3, .int .u32 40, .int .u32 1] = w5 at *
  go_wp2_with fail
  go_ret
  exact ⟨rfl, HBZ.out⟩
end Go.Proofs.YtpbbnpglcadimaaDoor
namespace Go.Proofs.YtpbbnpglcadimaaDoor
open Go.RowKit
set_option linter.unusedVariables false
set_option linter.unusedSimpArgs false
set_option maxRecDepth 20000
/-- The example's SOA of a serial number. -/
def exD (n : Nat) : ByteArray := ⟨(dataL [] [] [n, 0, 0, 0, 0]).toArray⟩
def exR (n : Nat) : RecT := (⟨#[]⟩, 6, 0, exD n)
set_option maxHeartbeats 1600000 in
theorem ex9_any (n : Nat) (hn : n < 4294967296) (w : World) : Calls Tryd.prog 17 #[.int .u32 (n : Nat)] w fun e w' => e = .returned (recV (exR n)) ∧ Below w.heap.size w w' := by
  have DT : Hid (∀ w, Calls Tryd.prog 18 #[.agg #[.string ⟨#[]⟩, .string ⟨#[]⟩, .int .u32 (n : Nat), .int .u32 0, .int .u32 0, .int .u32 0, .int .u32 0]] w fun e w' => e = .returned (.tuple #[.string (exD n), .bool true]) ∧ Below w.heap.size w w') :=
    Lib.hid (fun w => (sdata_any ⟨#[]⟩ ⟨#[]⟩ n 0 0 0 0 w (by decide) (by decide) hn (by omega) (by omega) (by omega) (by omega)).mono (by
      rintro e w' ⟨hb, ⟨-, rfl⟩ | ⟨hno, -⟩⟩
      · exact ⟨rfl, hb⟩
      · exact absurd ⟨rfl, rfl⟩ hno))
  unfold exR recV
  simp only
  generalize exD n = D at *
  have hb := (Below.refl w.heap.size w).alloc (Nat.le_refl _) (.cells #[.string ⟨#[]⟩, .int .u16 0, .int .u32 0, .string ⟨#[]⟩] 41)
  have hC := Cs.new w #[.string ⟨#[]⟩, .int .u16 0, .int .u32 0, .string ⟨#[]⟩] 41 [.string ⟨#[]⟩, .int .u16 0, .int .u32 0, .string ⟨#[]⟩]
  have H0 := Lib.hid (And.intro hb hC)
  clear hb hC
  go_enter Tryd.func17, Tryd.ntmps17
  go_wp2_with fail
  refine (DT.out _).mono ?_
  rintro e w1 ⟨rfl, hb1⟩
  have hC1 := H0.out.2.below hb1
  have HTH := Lib.hid (hC1.there 4 rfl)
  have HM := Lib.hid (hC1.mid [.string ⟨#[]⟩, .int .u16 6, .int .u32 0, .string D] rfl)
  have HBM := Lib.hid (below_setCells' (B := w.heap.size) (g := w.heap.size) (Nat.le_refl _) [.string ⟨#[]⟩, .int .u16 6, .int .u32 0, .string D] 0 (below_trans H0.out.1 H0.out.1.size hb1))
  clear hb1 hC1
  go_wp2_with (first | refine wpList_store_mid rfl 41 _ _ rfl w.heap.size 0 #[.string ⟨#[]⟩, .int .u16 6, .int .u32 0, .string D] rfl rfl HTH.out (by kernel_rfl) (by simp [Value.oneCell']) ?_)
  exact bodyPost_ret (v := .agg #[.string ⟨#[]⟩, .int .u16 6, .int .u32 0, .string D]) (results_cell1 Tryd.results17 _ _ _ w.heap.size 0 _ _ rfl HM.out.range Tryd.underlying41 rfl (by kernel_rfl)) rfl ⟨rfl, HBM.out⟩
end Go.Proofs.YtpbbnpglcadimaaDoor
namespace Go.Proofs.YtpbbnpglcadimaaDoor
open Go.RowKit
set_option linter.unusedVariables false
set_option linter.unusedSimpArgs false
set_option maxRecDepth 20000
/-- What serial tells of any record. -/
def SerF (sf : RecT → Nat) : Prop := ∀ r : RecT, (∀ a b t, IsSoa r.2.2.2.data.toList a b t → sf r = n32 ⟨t.toArray⟩ 0) ∧ ((∀ a b t, ¬ IsSoa r.2.2.2.data.toList a b t) → sf r = 0)
theorem ser_fun : ∃ sf : RecT → Nat, SerF sf := by
  have h : ∀ r : RecT, ∃ k : Nat, (∀ a b t, IsSoa r.2.2.2.data.toList a b t → k = n32 ⟨t.toArray⟩ 0) ∧ ((∀ a b t, ¬ IsSoa r.2.2.2.data.toList a b t) → k = 0) := by
    intro r
    by_cases hx : ∃ a b t, IsSoa r.2.2.2.data.toList a b t
    · obtain ⟨a, b, t, hx⟩ := hx
      refine ⟨n32 ⟨t.toArray⟩ 0, fun a' b' t' h' => ?_, fun hno => absurd hx (hno a b t)⟩
      obtain ⟨-, -, rfl⟩ := hx.one h'
      rfl
    · exact ⟨0, fun a b t h' => absurd ⟨a, b, t, h'⟩ hx, fun _ => rfl⟩
  exact ⟨fun r => (h r).choose, fun r => (h r).choose_spec⟩
theorem SerF.of_soa {sf : RecT → Nat} (h : SerF sf) (o : ByteArray) (n : Nat) (hn : n < 4294967296) : sf (soaR o n) = n := by
  have hm := nameZ_may [] (by simp)
  have hdl : (soaD n).data.toList = dataL (nameZ []) (nameZ []) [n, 10, 3, 40, 1] := by unfold soaD; simp
  have hi : IsSoa (soaD n).data.toList (nameZ []) (nameZ []) ([n, 10, 3, 40, 1].flatMap b32) := by rw [hdl]; exact isSoa_data hm hm rfl
  have h1 := (h (soaR o n)).1 _ _ _ hi
  rw [hdl] at hi
  have h2 := soaV_data hm hm hn (by omega) (by omega) (by omega) (by omega) hi
  unfold soaV at h2
  injection h2 with h2
  injection h2 with h2
  injection h2 with _ h2
  injection h2 with _ h2
  injection h2 with h2 _
  injection h2 with _ h2
  rw [h1]
  omega
theorem SerF.of_ex {sf : RecT → Nat} (h : SerF sf) (n : Nat) (hn : n < 4294967296) : sf (exR n) = n := by
  have hm : mayL ([] : List UInt8) := rfl
  have hdl : (exD n).data.toList = dataL [] [] [n, 0, 0, 0, 0] := by unfold exD; simp
  have hi : IsSoa (exD n).data.toList [] [] ([n, 0, 0, 0, 0].flatMap b32) := by rw [hdl]; exact isSoa_data hm hm rfl
  have h1 := (h (exR n)).1 _ _ _ hi
  rw [hdl] at hi
  have h2 := soaV_data hm hm hn (by omega) (by omega) (by omega) (by omega) hi
  unfold soaV at h2
  injection h2 with h2
  injection h2 with h2
  injection h2 with _ h2
  injection h2 with _ h2
  injection h2 with h2 _
  injection h2 with _ h2
  rw [h1]
  omega
set_option maxHeartbeats 1600000 in
theorem serial_gen (r0 : ByteArray) (r1 r2 : Int) (r3 s1 s2 : ByteArray) (n0 n1 n2 n3 n4 : Int) (q : Bool) (w : World)
    (OF : ∀ w, Calls Tryd.prog 42 #[.agg #[.string r0, .int .u16 r1, .int .u32 r2, .string r3]] w fun e w' => e = .returned (.tuple #[.agg #[.string s1, .string s2, .int .u32 n0, .int .u32 n1, .int .u32 n2, .int .u32 n3, .int .u32 n4], .bool q]) ∧ Below w.heap.size w w') :
    Calls Tryd.prog 22 #[.agg #[.string r0, .int .u16 r1, .int .u32 r2, .string r3]] w fun e w' => e = .returned (.int .u32 n0) ∧ Below w.heap.size w w' := by
  have OF : Hid (∀ w, Calls Tryd.prog 42 #[.agg #[.string r0, .int .u16 r1, .int .u32 r2, .string r3]] w fun e w' => (∃ EX, EX = Value.agg #[.string s1, .string s2, .int .u32 n0, .int .u32 n1, .int .u32 n2, .int .u32 n3, .int .u32 n4] ∧ e = .returned (.tuple #[EX, .bool q])) ∧ Below w.heap.size w w') :=
    Lib.hid (fun w => (OF w).mono (by rintro e w' ⟨rfl, hb⟩; exact ⟨⟨_, rfl, rfl⟩, hb⟩))
  have hb := (Below.refl w.heap.size w).alloc (Nat.le_refl _) (.cells #[.string r0, .int .u16 r1, .int .u32 r2, .string r3] 41)
  have HB := Lib.hid hb
  clear hb
  go_enter Tryd.func22, Tryd.ntmps22
  go_wp2_with fail
  refine (OF.out _).mono ?_
  rintro e w2 ⟨⟨EX, hEX, rfl⟩, hb2⟩
  have HEX := Lib.hid hEX
  clear hEX
  have hZ := Cs.new w2 #[.string ⟨#[]⟩, .string ⟨#[]⟩, .int .u32 0, .int .u32 0, .int .u32 0, .int .u32 0, .int .u32 0] 60 [.string ⟨#[]⟩, .string ⟨#[]⟩, .int .u32 0, .int .u32 0, .int .u32 0, .int .u32 0, .int .u32 0]
  have HTH := Lib.hid (hZ.there 7 rfl)
  have hM := hZ.mid [.string s1, .string s2, .int .u32 n0, .int .u32 n1, .int .u32 n2, .int .u32 n3, .int .u32 n4] rfl
  have hbZ := below_setCells' (B := w.heap.size) (g := w2.heap.size) (Nat.le_trans HB.out.size hb2.size) [.string s1, .string s2, .int .u32 n0, .int .u32 n1, .int .u32 n2, .int .u32 n3, .int .u32 n4] 0 ((below_trans HB.out HB.out.size hb2).alloc (Nat.le_trans HB.out.size hb2.size) (.cells #[.string ⟨#[]⟩, .string ⟨#[]⟩, .int .u32 0, .int .u32 0, .int .u32 0, .int .u32 0, .int .u32 0] 60))
  have k2 := hM.get 2 _
  have HBZ := Lib.hid hbZ
  have HK2 := Lib.hid k2
  clear hb2 hZ hM hbZ k2
  go_upto_region 2 with (first | refine wpList_store_mid rfl 60 _ _ rfl w2.heap.size 0 #[.string s1, .string s2, .int .u32 n0, .int .u32 n1, .int .u32 n2, .int .u32 n3, .int .u32 n4] rfl HEX.out HTH.out (by kernel_rfl) (by simp [Value.oneCell']) ?_)
  have k2 := HK2.out
  generalize (w2.alloc (.cells #[.string ⟨#[]⟩, .string ⟨#[]⟩, .int .u32 0, .int .u32 0, .int .u32 0, .int .u32 0, .int .u32 0] 60)).setCells w2.heap.size 0 [.string s1, .string s2, .int .u32 n0, .int .u32 n1, .int .u32 n2, .int .u32 n3, .int .u32 n4] = w5 at *
  go_wp2_with fail
  go_ret
  exact ⟨rfl, HBZ.out⟩
theorem serial_any {sf : RecT → Nat} (h : SerF sf) (r : RecT) (hr : soaB r = true) (hd : r.2.2.2.size ≤ 140737488355328) (w : World) : Calls Tryd.prog 22 #[recV r] w fun e w' => e = .returned (.int .u32 (sf r : Nat)) ∧ Below w.heap.size w w' := by
  have hsf := h r
  obtain ⟨r0, r1, r2, r3⟩ := r
  unfold soaB at hr
  simp only [beq_iff_eq] at hr
  subst hr
  unfold recV
  simp only at hd hsf ⊢
  by_cases hx : ∃ a b t, IsSoa r3.data.toList a b t
  · obtain ⟨a, b, t, hx⟩ := hx
    rw [hsf.1 a b t hx]
    refine serial_gen r0 6 r2 r3 ⟨a.toArray⟩ ⟨b.toArray⟩ (n32 ⟨t.toArray⟩ 0) (n32 ⟨t.toArray⟩ 4) (n32 ⟨t.toArray⟩ 8) (n32 ⟨t.toArray⟩ 12) (n32 ⟨t.toArray⟩ 16) true w (fun w => (sof_soa r0 r3 r2 w hd).mono ?_)
    rintro e w' ⟨hb, ⟨a', b', t', hs, rfl⟩ | ⟨hno, -⟩⟩
    · obtain ⟨rfl, rfl, rfl⟩ := hx.one hs
      exact ⟨rfl, hb⟩
    · exact absurd hx (hno a b t)
  · rw [hsf.2 (fun a b t h' => hx ⟨a, b, t, h'⟩)]
    refine serial_gen r0 6 r2 r3 ⟨#[]⟩ ⟨#[]⟩ 0 0 0 0 0 false w (fun w => (sof_soa r0 r3 r2 w hd).mono ?_)
    rintro e w' ⟨hb, ⟨a', b', t', hs, rfl⟩ | ⟨hno, rfl⟩⟩
    · exact absurd ⟨a', b', t', hs⟩ hx
    · exact ⟨rfl, hb⟩
set_option maxHeartbeats 1600000 in
theorem mayrec_of (r : RecT) (q : Bool) (h41 : ¬ r.2.1 = 41) (hl : (labelsOf r.1).isSome = true) (hn : r.1.size ≤ 100000) (hq : ∀ w, Calls Tryd.prog 61 #[.int .u16 r.2.1, .string r.2.2.2] w fun e w' => e = .returned (.bool q) ∧ Below w.heap.size w w') (w : World) :
    Calls Tryd.prog 40 #[recV r] w fun e w' => e = .returned (.bool q) ∧ Below w.heap.size w w' := by
  have HM := Lib.hid (fun w => may_any r.1 w (by unfold maxLen; omega))
  rw [hl] at HM
  clear hl
  unfold recV
  have e41 : (r.2.1 != 41) = true := by simp [h41]
  have HQ := Lib.hid hq
  clear hq
  go_enter Tryd.func40, Tryd.ntmps40
  go_wp2_with fail
  refine (HM.out _).mono ?_
  rintro e w1 ⟨rfl, hb⟩
  have hc := (Cs.new w #[.string r.1, .int .u16 r.2.1, .int .u32 r.2.2.1, .string r.2.2.2] 41 [.string r.1, .int .u16 r.2.1, .int .u32 r.2.2.1, .string r.2.2.2]).below hb
  have c1 := hc.get 1 _
  have c3 := hc.get 3 _
  have HB := Lib.hid (below_alloc _ (Below.refl _ _) (Nat.le_refl _) hb)
  clear hb hc
  go_wp2_with fail
  refine (HQ.out w1).mono ?_
  rintro e w2 ⟨rfl, hb2⟩
  have HB2 := Lib.hid (below_trans HB.out HB.out.size hb2)
  clear hb2
  go_wp2_with fail
  go_ret
  exact ⟨rfl, HB2.out⟩
theorem rmay_99 (w : World) : Calls Tryd.prog 61 #[.int .u16 99, .string ⟨#[]⟩] w fun e w' => e = .returned (.bool true) ∧ Below w.heap.size w w' := by
  go_enter Tryd.func61, Tryd.ntmps61
  go_wp2_with fail
  go_ret
  exact ⟨rfl, Below.refl _ _⟩
theorem mayrec_exR (n : Nat) (w : World) : Calls Tryd.prog 40 #[recV (exR n)] w fun e w' => e = .returned (.bool true) ∧ Below w.heap.size w w' := by
  have hl : (exD n).size ≤ 140737488355328 := by unfold exD; rw [mk_size, dataL_len9]; simp
  have hdl : (exD n).data.toList = dataL [] [] [n, 0, 0, 0, 0] := by unfold exD; simp
  refine mayrec_of (exR n) true (show ¬ (6 : Int) = 41 by decide) (show (labelsOf ⟨#[]⟩).isSome = true by rfl) (show (ByteArray.mk #[]).size ≤ 100000 by decide) (fun w => (rmay_soa (exD n) w hl).mono ?_) w
  rintro e w' ⟨hb, ⟨-, rfl⟩ | ⟨hno, -⟩⟩
  · exact ⟨rfl, hb⟩
  · refine absurd ?_ (hno [] [] ([n, 0, 0, 0, 0].flatMap b32))
    rw [hdl]
    exact isSoa_data rfl rfl rfl
/-- The other records of the example. -/
def xR (c : UInt8) : RecT := (⟨#[1, c]⟩, 99, 0, ⟨#[]⟩)
theorem mayrec_x (w : World) : Calls Tryd.prog 40 #[recV (xR 120)] w fun e w' => e = .returned (.bool true) ∧ Below w.heap.size w w' :=
  mayrec_of (xR 120) true (by decide) (by rfl) (by decide) (fun w => rmay_99 w) w
theorem mayrec_y (w : World) : Calls Tryd.prog 40 #[recV (xR 121)] w fun e w' => e = .returned (.bool true) ∧ Below w.heap.size w w' :=
  mayrec_of (xR 121) true (by decide) (by rfl) (by decide) (fun w => rmay_99 w) w
def rs6 : List RecT := [exR 3, exR 2, xR 120, exR 3, xR 121, exR 3]
theorem eqB_refl (r : RecT) : eqB r r = true := by unfold eqB; simp
theorem part6 {sf : RecT → Nat} (h : SerF sf) : partR (fun _ => true) sf ⟨#[]⟩ 2 rs6 = .inr (some (some [(1, 3, 5)])) := by
  have h2 := h.of_ex 2 (by omega)
  have h3 := h.of_ex 3 (by omega)
  have e0 : ∀ n, admB (fun _ => true) ⟨#[]⟩ (exR n) = true := by
    intro n
    unfold admB
    rw [show (stripOf (exR n).1 ⟨#[]⟩).isSome = true from (by kernel_rfl : (stripOf ⟨#[]⟩ ⟨#[]⟩).isSome = true), show ((exR n).1.toList == (ByteArray.mk #[]).toList) = true from by unfold exR; simp]
    simp
  have e1 : ∀ c, (stripOf (xR c).1 ⟨#[]⟩).isSome = true → admB (fun _ => true) ⟨#[]⟩ (xR c) = true := by
    intro c hc
    unfold admB
    rw [hc, show soaB (xR c) = false from rfl]
    simp
  have ha : admR (fun _ => true) ⟨#[]⟩ rs6 = true := by
    unfold admR rs6
    simp only [List.all_cons, List.all_nil, e0, e1 120 (by kernel_rfl), e1 121 (by kernel_rfl)]
    rfl
  have hf : fullR (fun _ => true) ⟨#[]⟩ rs6 = false := by
    unfold fullR rs6
    simp only
    rw [show (List.take _ (List.drop 1 [exR 3, exR 2, xR 120, exR 3, xR 121, exR 3])).any soaB = true from rfl]
    simp
  have hd : deltasR sf 2 rs6 = .inr [(1, 3, 5)] := by
    have d1 : deltaR sf 2 rs6 1 = .inr (3, 5) := by
      unfold deltaR
      rw [show rs6[1]? = some (exR 2) from rfl]
      simp only
      rw [show soaB (exR 2) = true from rfl, if_pos rfl, h2, if_pos rfl]
      rfl
    have g1 : deltasG sf rs6 6 2 1 = .inr [(1, 3, 5)] := by
      unfold deltasG
      rw [if_pos (by decide), d1]
      rfl
    unfold deltasR
    rw [show rs6.length = 6 from rfl, g1]
    simp only
    rw [if_pos]
    unfold endOk
    show (eqB (exR 3) (exR 3) && eqB (exR 3) (exR 3)) = true
    rw [eqB_refl]; rfl
  unfold partR
  rw [if_pos ha, if_neg (by decide), hf, if_neg (by simp), hd]
end Go.Proofs.YtpbbnpglcadimaaDoor
namespace Go.Proofs.YtpbbnpglcadimaaDoor
open Go.RowKit
set_option linter.unusedVariables false
set_option linter.unusedSimpArgs false
set_option maxRecDepth 20000
attribute [local simp] putsF isV wordOf Deps Region.binds Region.wanted Act.put wantedX isB
/-- What Part brings at the example. -/
def PW6 (mk : Option Addr → Nat → Value) (B : Nat) (W : World) (l1 : Option Addr → Nat → Option Addr → Nat → List Value) (l2 l3 : List Value) : Value → World → Prop :=
  fun v w => ∃ (A : Option Addr) (c : Nat) (A1 : Option Addr) (c1 : Nat) (A2 : Option Addr) (c2 : Nat), v = mk A c ∧ OBM 10 B W (.slice A 1 c) 1 (l1 A1 c1 A2 c2) w ∧ OBM 4 B W (.slice A1 1 c1) 1 l2 w ∧ OBM 4 B W (.slice A2 1 c2) 1 l3 w
theorem pw_stays (mk : Option Addr → Nat → Value) (B : Nat) (W : World) (l1 : Option Addr → Nat → Option Addr → Nat → List Value) (l2 l3 : List Value) : ∀ v w w', PW6 mk B W l1 l2 l3 v w → Goes w w' → PW6 mk B W l1 l2 l3 v w' := by
  rintro v w w' ⟨A, c, A1, c1, A2, c2, e, o1, o2, o3⟩ hb
  exact ⟨A, c, A1, c1, A2, c2, e, o1.keep hb (Nat.le_refl _), o2.keep hb (Nat.le_refl _), o3.keep hb (Nat.le_refl _)⟩
/-- What holds while the example's result is put into its box. -/
structure RA (W : World) (F : Value → World → Prop) (d : Nat → Bool) (x : Nat → Value) (w : World) : Prop where
  bel : d 16 = false → Below W.heap.size W w
  all : d 16 = true → ∀ i, i < 14 ∨ i = 15 → d i = true
  f16 : d 16 = true → F (x 15) w
section
variable {W w w' : World} {F : Value → World → Prop} {d : Nat → Bool} {x : Nat → Value}
theorem RA.no16 (h : RA W F d x w) {i : Nat} (hd : d i = false) (hi : i < 14 ∨ i = 15) : d 16 = false := by
  cases e : d 16 with
  | false => rfl
  | true => have := h.all e i hi; rw [hd] at this; cases this
theorem RA.next (h : RA W F d x w) {i : Nat} (hd : d i = false) (he : Goes w w') (v : Value) (hi : i < 14 ∨ i = 15 := by decide) : RA W F (setD d i) (fun j => if j = i then v else x j) w' := by
  have h16 := h.no16 hd hi
  have e : setD d i 16 = false := by rw [setD_ne d (by omega)]; exact h16
  exact ⟨fun _ => below_trans (h.bel h16) (h.bel h16).size he, fun k => (by rw [e] at k; cases k), fun k => (by rw [e] at k; cases k)⟩
theorem RA.late (h : RA W F d x w) {i : Nat} (v : Value) (hi : i = 14 ∨ i = 17 := by decide) : RA W F (setD d i) (fun j => if j = i then v else x j) w := by
  have e : setD d i 16 = d 16 := setD_ne d (by omega)
  refine ⟨fun k => h.bel (by rw [← e]; exact k), fun k j hj => ?_, fun k => ?_⟩
  · rw [setD_ne d (by omega)]; exact h.all (by rw [← e]; exact k) j hj
  · have : (15 : Nat) ≠ i := by omega
    simp only [this, if_false]
    exact h.f16 (by rw [← e]; exact k)
theorem RA.store (h : RA W F d x w) (hall : ∀ i, i < 14 ∨ i = 15 → d i = true) (v : Value) (hf : F (x 15) w') : RA W F (setD d 16) (fun j => if j = 16 then v else x j) w' :=
  ⟨fun k => (by rw [setD_self] at k; cases k), fun _ i hi => (by rw [setD_ne d (by omega)]; exact hall i hi), fun _ => hf⟩
end
/-- A value of this shape; ahead of operation 16 it is more. -/
def andUntil (p q : Value → World → Prop) : (Nat → Bool) → Value → World → Prop := fun d v w => p v w ∧ until_ 16 q d v w
theorem andUntil_stays {p q : Value → World → Prop} (hp : ∀ v w w', p v w → p v w') (hq : ∀ v w w', q v w → Goes w w' → q v w') : StaysX (andUntil p q) := fun d d' v w w' hd he h => ⟨hp v w w' h.1, until_stays hq d d' v w w' hd he h.2⟩
/-- The shape alone. -/
def shapeW (mk : Option Addr → Nat → Value) : Value → World → Prop := fun v _ => ∃ A c, v = mk A c
theorem PW6.shape {mk : Option Addr → Nat → Value} {B : Nat} {W : World} {l1 : Option Addr → Nat → Option Addr → Nat → List Value} {l2 l3 : List Value} {v : Value} {w : World} (h : PW6 mk B W l1 l2 l3 v w) : shapeW mk v w := by
  obtain ⟨A, c, A1, c1, A2, c2, e, -⟩ := h
  exact ⟨A, c, e⟩
/-- Where a cell is no bool lies no box that begins with one. -/
theorem apart_bool {w : World} {q g : Nat} {b : Bool} {v : Value} (h1 : w.cell? ⟨q, 0, none⟩ = some (.bool b)) (h2 : w.cell? ⟨g, 0, none⟩ = some v) (hv : ∀ b, v ≠ .bool b) : g ≠ q := by
  rintro rfl
  rw [h1] at h2
  exact hv b (Option.some.inj h2).symm
/-- What the example has brought. -/
def FIN6 (D2 D3 : ByteArray) (w3 : World) : Value → World → Prop := (fun vq v => Below w3.heap.size w3 v ∧ ∃ (q : Nat) (A : Option Addr) (c : Nat) (A1 : Option Addr) (c1 : Nat) (A2 : Option Addr) (c2 : Nat), vq = .pointer (some ⟨q, 0, none⟩) ∧ w3.heap.size ≤ q ∧ Cs v q [.bool false, .slice none 0 0, .slice A 1 c] ∧ OBM 10 w3.heap.size w3 (.slice A 1 c) 1 [.string ⟨#[]⟩, .int .u16 6, .int .u32 0, .string D2, .string ⟨#[]⟩, .int .u16 6, .int .u32 0, .string D3, .slice A1 1 c1, .slice A2 1 c2] v ∧ OBM 4 w3.heap.size w3 (.slice A1 1 c1) 1 [.string ⟨#[1, 120]⟩, .int .u16 99, .int .u32 0, .string ⟨#[]⟩] v ∧ OBM 4 w3.heap.size w3 (.slice A2 1 c2) 1 [.string ⟨#[1, 121]⟩, .int .u16 99, .int .u32 0, .string ⟨#[]⟩] v)
theorem part6_any {sf : RecT → Nat} (hsf : SerF sf) (g : Nat) (w : World) (hc : Cs w g (flatR rs6)) : Calls Tryd.prog 8 #[.string ⟨#[]⟩, .int .u32 2, .slice (some ⟨g, 0, none⟩) 6 6] w fun e w' => ∃ (A : Option Addr) (c : Nat) (A1 : Option Addr) (c1 : Nat) (A2 : Option Addr) (c2 : Nat), e = .returned (.tuple #[.agg #[.bool false, .slice none 0 0, .slice A 1 c], .nilIface]) ∧
    OBM 10 w.heap.size w (.slice A 1 c) 1 (delC (exR 2) (exR 3) (.slice A1 1 c1) (.slice A2 1 c2)) w' ∧ OBM 4 w.heap.size w (.slice A1 1 c1) 1 (flatR [xR 120]) w' ∧ OBM 4 w.heap.size w (.slice A2 1 c2) 1 (flatR [xR 121]) w' := by
  have hsl : Sl w w.heap.size 4 (some ⟨g, 0, none⟩) 6 (flatR rs6) := ⟨rfl, fun _ => ⟨g, 0, rfl, hc.lt, fun j u hu => by rw [Nat.zero_add]; exact hc.get j u hu⟩⟩
  have hsz : ∀ n, (exD n).size ≤ 140737488355328 := fun n => by unfold exD; rw [mk_size, dataL_len9]; simp
  have hall : ∀ r ∈ rs6, r = exR 3 ∨ r = exR 2 ∨ r = xR 120 ∨ r = xR 121 := by
    intro r hr
    unfold rs6 at hr
    simp only [List.mem_cons, List.not_mem_nil, or_false] at hr
    rcases hr with h | h | h | h | h | h <;> simp [h]
  refine (part_any (fun _ => true) sf ⟨#[]⟩ 2 (some ⟨g, 0, none⟩) 6 6 rs6 w (hsl.recs (Nat.le_refl _) rfl) rfl (by decide) (by decide) (by decide) (by decide) ?_ ?_ ?_).mono ?_
  · intro r hr
    rcases hall r hr with rfl | rfl | rfl | rfl <;> (first | exact (show (ByteArray.mk #[]).size ≤ maxLen by decide) | exact (show (ByteArray.mk #[1, 120]).size ≤ maxLen by decide) | exact (show (ByteArray.mk #[1, 121]).size ≤ maxLen by decide))
  · intro r hr w
    rcases hall r hr with rfl | rfl | rfl | rfl
    · exact mayrec_exR 3 w
    · exact mayrec_exR 2 w
    · exact mayrec_x w
    · exact mayrec_y w
  · intro r hr hs w
    rcases hall r hr with rfl | rfl | rfl | rfl
    · exact serial_any hsf _ hs (hsz 3) w
    · exact serial_any hsf _ hs (hsz 2) w
    · cases hs
    · cases hs
  · rintro e w' (⟨er, h, -⟩ | ⟨h, -⟩ | ⟨h, -⟩ | ⟨xs, A, c, h, rfl, ho, hx⟩)
    · rw [part6 hsf] at h; cases h
    · rw [part6 hsf] at h; cases h
    · rw [part6 hsf] at h; cases h
    · rw [part6 hsf] at h
      injection h with h; injection h with h; injection h with h
      match xs, h, ho, hx with
      | [(t, v1, v2)], h, ho, hx =>
        have ht : t = (1, 3, 5) := by simpa using h.symm
        subst ht
        have hd := hx _ (List.mem_singleton.2 rfl)
        have o1 : OBM 4 w.heap.size w v1 1 (flatR [xR 120]) w' := hd.gone
        have o2 : OBM 4 w.heap.size w v2 1 (flatR [xR 121]) w' := hd.new
        obtain ⟨A1, c1, rfl, -⟩ := o1.slice
        obtain ⟨A2, c2, rfl, -⟩ := o2.slice
        exact ⟨A, c, A1, c1, A2, c2, rfl, ho, o1, o2⟩
set_option maxHeartbeats 3200000 in
theorem awake09_any (w : World) : Calls Tryd.prog 5 #[] w fun e w' => e = .returned (.bool true) ∧ Below w.heap.size w w' := by
  obtain ⟨sf, hsf⟩ := ser_fun
  have PT := fun g w hc => part6_any hsf g w hc
  have CS2 := fun w => ex9_any 2 (by decide) w
  have CS3 := fun w => ex9_any 3 (by decide) w
  have hdn : Hid (∀ (g : Nat) (w : World), Cs w g (flatR [exR 3]) → Calls Tryd.prog 19 #[.slice (some ⟨g, 0, none⟩) 1 1] w fun e w' => e = .returned (.bool true) ∧ Below w.heap.size w w') := Lib.hid (fun g w hc => done_any (some ⟨g, 0, none⟩) 1 1 [exR 3] w ((show Sl w w.heap.size 4 (some ⟨g, 0, none⟩) 1 (flatR [exR 3]) from ⟨rfl, fun _ => ⟨g, 0, rfl, hc.lt, fun j u hu => by rw [Nat.zero_add]; exact hc.get j u hu⟩⟩).recs (Nat.le_refl _) rfl) rfl (by decide))
  have DN : Hid (∀ (g : Nat) (w : World), Cs w g (flatR [exR 3]) → Calls Tryd.prog 19 #[.slice (some ⟨g, 0, none⟩) 1 1] w fun e w' => e = .returned (.bool true) ∧ Below w.heap.size w w') := hdn
  clear hdn hsf
  unfold flatR rs6 exR xR at PT
  unfold recV exR at CS2 CS3
  unfold flatR exR at DN
  simp only [List.flatMap_cons, List.flatMap_nil, recCells, delC, List.cons_append, List.nil_append, List.append_nil] at PT CS2 CS3 DN
  generalize exD 2 = D2 at *
  generalize exD 3 = D3 at *
  obtain ⟨VS2, hVS2⟩ : ∃ v : Value, v = .agg #[.string ⟨#[]⟩, .int .u16 6, .int .u32 0, .string D2] := ⟨_, rfl⟩
  obtain ⟨VS3, hVS3⟩ : ∃ v : Value, v = .agg #[.string ⟨#[]⟩, .int .u16 6, .int .u32 0, .string D3] := ⟨_, rfl⟩
  obtain ⟨VX, hVX⟩ : ∃ v : Value, v = .agg #[.string ⟨#[1, 120]⟩, .int .u16 99, .int .u32 0, .string ⟨#[]⟩] := ⟨_, rfl⟩
  obtain ⟨VY, hVY⟩ : ∃ v : Value, v = .agg #[.string ⟨#[1, 121]⟩, .int .u16 99, .int .u32 0, .string ⟨#[]⟩] := ⟨_, rfl⟩
  have HEX : Hid (∀ w, (binOp .eql 41 VX VX).run Tryd.prog w = .ok (.bool true) w) := Lib.hid (fun w => by rw [hVX]; have := rec_eql (xR 120) (xR 120) w; rw [eqB_refl] at this; exact this)
  have HEY : Hid (∀ w, (binOp .eql 41 VY VY).run Tryd.prog w = .ok (.bool true) w) := Lib.hid (fun w => by rw [hVY]; have := rec_eql (xR 121) (xR 121) w; rw [eqB_refl] at this; exact this)
  rw [← hVS2] at CS2
  rw [← hVS3] at CS3
  have PT := Lib.hid PT
  have CS2 := Lib.hid CS2
  have CS3 := Lib.hid CS3
  have HVS2 := Lib.hid hVS2
  have HVS3 := Lib.hid hVS3
  have HVX := Lib.hid hVX
  have HVY := Lib.hid hVY
  clear hVS2 hVS3 hVX hVY
  have hcx := (Cs.new w #[.string ⟨#[1, 120]⟩, .int .u16 99, .int .u32 0, .string ⟨#[]⟩] 41 [.string ⟨#[1, 120]⟩, .int .u16 99, .int .u32 0, .string ⟨#[]⟩]).alloc (.cells #[.string ⟨#[1, 121]⟩, .int .u16 99, .int .u32 0, .string ⟨#[]⟩] 41)
  have hcy := Cs.new (w.alloc (.cells #[.string ⟨#[1, 120]⟩, .int .u16 99, .int .u32 0, .string ⟨#[]⟩] 41)) #[.string ⟨#[1, 121]⟩, .int .u16 99, .int .u32 0, .string ⟨#[]⟩] 41 [.string ⟨#[1, 121]⟩, .int .u16 99, .int .u32 0, .string ⟨#[]⟩]
  have hb3 := ((Below.refl w.heap.size w).alloc (Nat.le_refl _) (.cells #[.string ⟨#[1, 120]⟩, .int .u16 99, .int .u32 0, .string ⟨#[]⟩] 41)).alloc (by simp) (.cells #[.string ⟨#[1, 121]⟩, .int .u16 99, .int .u32 0, .string ⟨#[]⟩] 41)
  rw [show (w.alloc (.cells #[.string ⟨#[1, 120]⟩, .int .u16 99, .int .u32 0, .string ⟨#[]⟩] 41)).heap.size = w.heap.size + 1 by simp] at hcy
  have H0 := Lib.hid (And.intro hcx (And.intro hcy hb3))
  clear hcx hcy hb3
  go_enter Tryd.func5, Tryd.ntmps5
  go_upto_region 3 with fail
  obtain ⟨hcx, hcy, hb3⟩ := H0.out
  generalize (w.alloc (.cells #[.string ⟨#[1, 120]⟩, .int .u16 99, .int .u32 0, .string ⟨#[]⟩] 41)).alloc (.cells #[.string ⟨#[1, 121]⟩, .int .u16 99, .int .u32 0, .string ⟨#[]⟩] 41) = w3 at *
  obtain ⟨by_, hby⟩ : ∃ g, g = w.heap.size + 1 := ⟨_, rfl⟩
  obtain ⟨bx, hbx⟩ : ∃ g, g = w.heap.size := ⟨_, rfl⟩
  rw [← hby] at hcy ⊢
  rw [← hbx] at hcx ⊢
  have HB3 := Lib.hid hb3
  have HBX := Lib.hid hbx
  have HRX : Hid (∀ wx, Below w3.heap.size w3 wx → wx.rangeAt bx 0 [.string ⟨#[1, 120]⟩, .int .u16 99, .int .u32 0, .string ⟨#[]⟩]) := Lib.hid (fun wx hb => (hcx.below hb).range)
  have HRY : Hid (∀ wx, Below w3.heap.size w3 wx → wx.rangeAt by_ 0 [.string ⟨#[1, 121]⟩, .int .u16 99, .int .u32 0, .string ⟨#[]⟩]) := Lib.hid (fun wx hb => (hcy.below hb).range)
  clear hcx hcy hb3 hby hbx H0
  refine wp_region_expR data_follows (fun x => by simp [putsF, Act.put]; rfl) (RA w3 (FIN6 D2 D3 w3))
    [isX (.func (.func 17) #[] #[]), isX VS3, isX (.func (.func 17) #[] #[]), isX VS2, isX VX, isX (.func (.func 17) #[] #[]), isX VS3, isX VY, isX (.func (.func 17) #[] #[]), isX VS3, until_ 16 (litW 6 [.string ⟨#[]⟩, .int .u16 6, .int .u32 0, .string D3, .string ⟨#[]⟩, .int .u16 6, .int .u32 0, .string D2, .string ⟨#[1, 120]⟩, .int .u16 99, .int .u32 0, .string ⟨#[]⟩, .string ⟨#[]⟩, .int .u16 6, .int .u32 0, .string D3, .string ⟨#[1, 121]⟩, .int .u16 99, .int .u32 0, .string ⟨#[]⟩, .string ⟨#[]⟩, .int .u16 6, .int .u32 0, .string D3]), until_ 16 (PW6 (fun A c => .tuple #[.agg #[.bool false, .slice none 0 0, .slice A 1 c], .nilIface]) w3.heap.size w3 (fun A1 c1 A2 c2 => [.string ⟨#[]⟩, .int .u16 6, .int .u32 0, .string D2, .string ⟨#[]⟩, .int .u16 6, .int .u32 0, .string D3, .slice A1 1 c1, .slice A2 1 c2]) [.string ⟨#[1, 120]⟩, .int .u16 99, .int .u32 0, .string ⟨#[]⟩] [.string ⟨#[1, 121]⟩, .int .u16 99, .int .u32 0, .string ⟨#[]⟩]), andUntil (shapeW (fun A c => .tuple #[.agg #[.bool false, .slice none 0 0, .slice A 1 c], .nilIface])) (PW6 (fun A c => .tuple #[.agg #[.bool false, .slice none 0 0, .slice A 1 c], .nilIface]) w3.heap.size w3 (fun A1 c1 A2 c2 => [.string ⟨#[]⟩, .int .u16 6, .int .u32 0, .string D2, .string ⟨#[]⟩, .int .u16 6, .int .u32 0, .string D3, .slice A1 1 c1, .slice A2 1 c2]) [.string ⟨#[1, 120]⟩, .int .u16 99, .int .u32 0, .string ⟨#[]⟩] [.string ⟨#[1, 121]⟩, .int .u16 99, .int .u32 0, .string ⟨#[]⟩]), until_ 16 (PW6 (fun A c => .agg #[.bool false, .slice none 0 0, .slice A 1 c]) w3.heap.size w3 (fun A1 c1 A2 c2 => [.string ⟨#[]⟩, .int .u16 6, .int .u32 0, .string D2, .string ⟨#[]⟩, .int .u16 6, .int .u32 0, .string D3, .slice A1 1 c1, .slice A2 1 c2]) [.string ⟨#[1, 120]⟩, .int .u16 99, .int .u32 0, .string ⟨#[]⟩] [.string ⟨#[1, 121]⟩, .int .u16 99, .int .u32 0, .string ⟨#[]⟩]), isX .nilIface, until_ 16 (boxW w3.heap.size [.bool false, .slice none 0 0, .slice none 0 0]), always (fun _ _ => True), isX .nilIface]
    [16] (by kernel_rfl) (by kernel_rfl) (by kernel_rfl) rfl ?_ ⟨fun _ => (Below.refl _ _).drew, fun h => (by cases h), fun h => (by cases h)⟩ ?_ ?_ ?_
  · repeat (first | exact trivial | refine ⟨by first | exact isX_stays _ | exact until_stays (litW_stays _ _) | exact until_stays (boxW_stays _ _) | exact until_stays (pw_stays _ _ _ _ _ _) | exact andUntil_stays (fun _ _ _ h => h) (pw_stays _ _ _ _ _ _) | exact always_stays (fun _ _ _ _ _ => trivial), ?_⟩)
  · refine ⟨?_, ?_, ?_, ?_, ?_, ?_, ?_, ?_, ?_, ?_, ?_, ?_, ?_, ?_, ?_, ?_, skipped rfl, ?_, trivial⟩
    all_goals
      intro _ d x wx hR hdi hsrc hd
      refine ⟨fun _ => ?_, fun hX => by simp at hX⟩
    · have h16 := hR.no16 hdi (by decide)
      have hRb := hR.bel h16
      simp [wordX, isX] at hd ⊢
      go_simp; exact nextXR _ rfl rfl (hR.next hdi (Below.refl _ _) _) (Below.refl _ _)
    · have h16 := hR.no16 hdi (by decide)
      have hRb := hR.bel h16
      simp [wordX, isX] at hd ⊢
      try simp [hd]
      go_simp
      go_at_call 17
      refine (CS3.out wx).mono ?_
      rintro r wy ⟨rfl, hb⟩
      exact nextXR _ rfl rfl (hR.next hdi hb _) hb
    · have h16 := hR.no16 hdi (by decide)
      have hRb := hR.bel h16
      simp [wordX, isX] at hd ⊢
      go_simp; exact nextXR _ rfl rfl (hR.next hdi (Below.refl _ _) _) (Below.refl _ _)
    · have h16 := hR.no16 hdi (by decide)
      have hRb := hR.bel h16
      simp [wordX, isX] at hd ⊢
      try simp [hd]
      go_simp
      go_at_call 17
      refine (CS2.out wx).mono ?_
      rintro r wy ⟨rfl, hb⟩
      exact nextXR _ rfl rfl (hR.next hdi hb _) hb
    · have h16 := hR.no16 hdi (by decide)
      have hRb := hR.bel h16
      simp [wordX, isX] at hd ⊢
      refine wp_load_mid 41 _ rfl bx 0 (by simp [go_sem]) _ _ (HRX.out wx hRb) Tryd.underlying41 rfl (by kernel_rfl) ?_
      exact nextXR _ rfl HVX.out.symm (hR.next hdi (Below.refl _ _) _) (Below.refl _ _)
    · have h16 := hR.no16 hdi (by decide)
      have hRb := hR.bel h16
      simp [wordX, isX] at hd ⊢
      go_simp; exact nextXR _ rfl rfl (hR.next hdi (Below.refl _ _) _) (Below.refl _ _)
    · have h16 := hR.no16 hdi (by decide)
      have hRb := hR.bel h16
      simp [wordX, isX] at hd ⊢
      try simp [hd]
      go_simp
      go_at_call 17
      refine (CS3.out wx).mono ?_
      rintro r wy ⟨rfl, hb⟩
      exact nextXR _ rfl rfl (hR.next hdi hb _) hb
    · have h16 := hR.no16 hdi (by decide)
      have hRb := hR.bel h16
      simp [wordX, isX] at hd ⊢
      refine wp_load_mid 41 _ rfl by_ 0 (by simp [go_sem]) _ _ (HRY.out wx hRb) Tryd.underlying41 rfl (by kernel_rfl) ?_
      exact nextXR _ rfl HVY.out.symm (hR.next hdi (Below.refl _ _) _) (Below.refl _ _)
    · have h16 := hR.no16 hdi (by decide)
      have hRb := hR.bel h16
      simp [wordX, isX] at hd ⊢
      go_simp; exact nextXR _ rfl rfl (hR.next hdi (Below.refl _ _) _) (Below.refl _ _)
    · have h16 := hR.no16 hdi (by decide)
      have hRb := hR.bel h16
      simp [wordX, isX] at hd ⊢
      try simp [hd]
      go_simp
      go_at_call 17
      refine (CS3.out wx).mono ?_
      rintro r wy ⟨rfl, hb⟩
      exact nextXR _ rfl rfl (hR.next hdi hb _) hb
    · have h16 := hR.no16 hdi (by decide)
      have hRb := hR.bel h16
      simp [wordX, isX] at hd ⊢
      simp only [hd, HVS3.out, HVS2.out, HVX.out, HVY.out]
      clear hd
      go_simp
      exact nextXR _ rfl (until_of (litW_new 6 _ _ _ _)) (hR.next hdi ((Below.refl _ _).alloc (Nat.le_refl _) _) _) ((Below.refl _ _).alloc (Nat.le_refl _) _)
    · have h16 := hR.no16 hdi (by decide)
      have hRb := hR.bel h16
      simp [wordX] at hd ⊢
      obtain ⟨g, hg, hcs⟩ : litW 6 [.string ⟨#[]⟩, .int .u16 6, .int .u32 0, .string D3, .string ⟨#[]⟩, .int .u16 6, .int .u32 0, .string D2, .string ⟨#[1, 120]⟩, .int .u16 99, .int .u32 0, .string ⟨#[]⟩, .string ⟨#[]⟩, .int .u16 6, .int .u32 0, .string D3, .string ⟨#[1, 121]⟩, .int .u16 99, .int .u32 0, .string ⟨#[]⟩, .string ⟨#[]⟩, .int .u16 6, .int .u32 0, .string D3] (x 10) wx := by first | exact hd h16 | exact hd.1 h16 | exact hd.2 h16
      simp only [hg]
      clear hd
      go_simp
      go_at_call 8
      refine (PT.out g wx hcs).mono ?_
      rintro r wy ⟨A, c, A1, c1, A2, c2, rfl, o1, o2, o3⟩
      exact nextXR _ rfl (until_of ⟨A, c, A1, c1, A2, c2, rfl, o1.out hRb.size hRb, o2.out hRb.size hRb, o3.out hRb.size hRb⟩) (hR.next hdi o1.bel _) o1.bel
    · have h16 := hR.no16 hdi (by decide)
      have hRb := hR.bel h16
      simp [wordX] at hd ⊢
      obtain ⟨A, c, A1, c1, A2, c2, hv, o1, o2, o3⟩ : PW6 (fun A c => .tuple #[.agg #[.bool false, .slice none 0 0, .slice A 1 c], .nilIface]) w3.heap.size w3 (fun A1 c1 A2 c2 => [.string ⟨#[]⟩, .int .u16 6, .int .u32 0, .string D2, .string ⟨#[]⟩, .int .u16 6, .int .u32 0, .string D3, .slice A1 1 c1, .slice A2 1 c2]) [.string ⟨#[1, 120]⟩, .int .u16 99, .int .u32 0, .string ⟨#[]⟩] [.string ⟨#[1, 121]⟩, .int .u16 99, .int .u32 0, .string ⟨#[]⟩] (x 11) wx := hd h16
      simp only [hv]
      go_simp
      exact nextXR _ rfl ⟨⟨A, c, rfl⟩, until_of ⟨A, c, A1, c1, A2, c2, rfl, o1, o2, o3⟩⟩ (hR.next hdi (Below.refl _ _) _) (Below.refl _ _)
    · have h16 := hR.no16 hdi (by decide)
      have hRb := hR.bel h16
      simp [wordX] at hd ⊢
      obtain ⟨A, c, A1, c1, A2, c2, hv, o1, o2, o3⟩ : PW6 (fun A c => .tuple #[.agg #[.bool false, .slice none 0 0, .slice A 1 c], .nilIface]) w3.heap.size w3 (fun A1 c1 A2 c2 => [.string ⟨#[]⟩, .int .u16 6, .int .u32 0, .string D2, .string ⟨#[]⟩, .int .u16 6, .int .u32 0, .string D3, .slice A1 1 c1, .slice A2 1 c2]) [.string ⟨#[1, 120]⟩, .int .u16 99, .int .u32 0, .string ⟨#[]⟩] [.string ⟨#[1, 121]⟩, .int .u16 99, .int .u32 0, .string ⟨#[]⟩] (x 12) wx := hd.2 h16
      simp only [hv]
      go_simp
      exact nextXR _ rfl (until_of ⟨A, c, A1, c1, A2, c2, rfl, o1, o2, o3⟩) (hR.next hdi (Below.refl _ _) _) (Below.refl _ _)
    · simp [wordX] at hd ⊢
      obtain ⟨A, c, hv⟩ : shapeW (fun A c => .tuple #[.agg #[.bool false, .slice none 0 0, .slice A 1 c], .nilIface]) (x 12) wx := by first | exact hd.1 | exact hd.1.1
      simp only [hv]
      go_simp
      exact nextXR _ rfl rfl (hR.late _) (Below.refl _ _)
    · have h16 := hR.no16 hdi (by decide)
      have hRb := hR.bel h16
      simp [wordX] at hd ⊢
      go_simp; exact nextXR _ rfl (until_of ⟨_, rfl, hRb.size, Cs.new _ _ _ _⟩) (hR.next hdi ((Below.refl _ _).alloc (Nat.le_refl _) _) _) ((Below.refl _ _).alloc (Nat.le_refl _) _)
    · simp [wordX, isX] at hd ⊢
      go_simp; exact nextXR _ rfl rfl (hR.late _) (Below.refl _ _)
  · refine ⟨unskipped rfl, unskipped rfl, unskipped rfl, unskipped rfl, unskipped rfl, unskipped rfl, unskipped rfl, unskipped rfl, unskipped rfl, unskipped rfl, unskipped rfl, unskipped rfl, unskipped rfl, unskipped rfl, unskipped rfl, unskipped rfl, ?_, unskipped rfl, trivial⟩
    intro _ d x wx hR hdi hcl hsrc hd
    refine ⟨fun _ => ?_, fun hX => by simp at hX⟩
    have hall : ∀ i, i < 14 ∨ i = 15 → d i = true := fun i hi => by
      refine SrcX.reach (K := 16) hcl hsrc rfl 20 i (by omega) ?_
      have h16 : i < 16 := by omega
      have h14 : (i == 14) = false := by rw [beq_eq_false_iff_ne]; omega
      clear hi
      revert i
      decide +kernel
    have hRb := hR.bel hdi
    simp only [DoneX] at hd
    obtain ⟨-, -, -, -, -, -, -, -, -, -, -, -, -, h13, -, h15, -⟩ := hd
    obtain ⟨A, c, A1, c1, A2, c2, x13, o1, o2, o3⟩ : PW6 (fun A c => .agg #[.bool false, .slice none 0 0, .slice A 1 c]) w3.heap.size w3 (fun A1 c1 A2 c2 => [.string ⟨#[]⟩, .int .u16 6, .int .u32 0, .string D2, .string ⟨#[]⟩, .int .u16 6, .int .u32 0, .string D3, .slice A1 1 c1, .slice A2 1 c2]) [.string ⟨#[1, 120]⟩, .int .u16 99, .int .u32 0, .string ⟨#[]⟩] [.string ⟨#[1, 121]⟩, .int .u16 99, .int .u32 0, .string ⟨#[]⟩] (x 13) wx := h13 (hall 13 (by decide)) hdi
    obtain ⟨q, x15, hq, hcq⟩ : boxW w3.heap.size [.bool false, .slice none 0 0, .slice none 0 0] (x 15) wx := h15 (hall 15 (by decide)) hdi
    have n1 : ∀ k, (Value.slice A 1 c).ownBlock = some k → k ≠ q := fun k hk => by
      obtain ⟨A', c', e, -, -, h3⟩ := o1.slice3
      injection e with e1 e2 e3
      subst e1 e3
      rcases h3 with ⟨-, h, -⟩ | ⟨g, rfl, -⟩
      · cases h
      · injection hk with hk
        subst hk
        exact apart_bool (hcq.get 0 _) (o1.cell 0 _ rfl) (fun b => by intro e; cases e)
    have n2 : ∀ k, (Value.slice A1 1 c1).ownBlock = some k → k ≠ q := fun k hk => by
      obtain ⟨A', c', e, -, -, h3⟩ := o2.slice3
      injection e with e1 e2 e3
      subst e1 e3
      rcases h3 with ⟨-, h, -⟩ | ⟨g, rfl, -⟩
      · cases h
      · injection hk with hk
        subst hk
        exact apart_bool (hcq.get 0 _) (o2.cell 0 _ rfl) (fun b => by intro e; cases e)
    have n3 : ∀ k, (Value.slice A2 1 c2).ownBlock = some k → k ≠ q := fun k hk => by
      obtain ⟨A', c', e, -, -, h3⟩ := o3.slice3
      injection e with e1 e2 e3
      subst e1 e3
      rcases h3 with ⟨-, h, -⟩ | ⟨g, rfl, -⟩
      · cases h
      · injection hk with hk
        subst hk
        exact apart_bool (hcq.get 0 _) (o3.cell 0 _ rfl) (fun b => by intro e; cases e)
    have hst := setCells_heap wx q [.bool false, .slice none 0 0, .slice A 1 c] 0
    have hbs := below_setCells' hq [.bool false, .slice none 0 0, .slice A 1 c] 0 hRb
    have hX := hR.store hall undef (w' := wx.setCells q 0 [.bool false, .slice none 0 0, .slice A 1 c]) ⟨hbs, q, A, c, A1, c1, A2, c2, x15, hq, hcq.mid _ rfl,
      o1.block hbs (by rw [hst.1]; exact Nat.le_refl _) (fun k hk => hst.2 k (n1 k hk)),
      o2.block hbs (by rw [hst.1]; exact Nat.le_refl _) (fun k hk => hst.2 k (n2 k hk)),
      o3.block hbs (by rw [hst.1]; exact Nat.le_refl _) (fun k hk => hst.2 k (n3 k hk))⟩
    dsimp only
    refine wp_store_mid 31 _ _ rfl q 0 #[.bool false, .slice none 0 0, .slice A 1 c] x15 x13 (hcq.there 3 rfl) (by kernel_rfl) (by simp [Value.oneCell']) ?_
    refine nextKR _ rfl trivial hX ?_
    exact ⟨fun _ _ h => h, fun _ _ h => h, fun _ _ h => h, fun _ _ h => h, fun _ _ h => h, fun _ _ h => h, fun _ _ h => h, fun _ _ h => h, fun _ _ h => h, fun _ _ h => h, fun _ _ _ => until_self, fun _ _ _ => until_self, fun _ _ h => ⟨h.1, until_self⟩, fun _ _ _ => until_self, fun _ _ h => h, fun _ _ _ => until_self, fun h => absurd rfl h, fun _ _ h => h, trivial⟩
  intro x w5 d hall hR hx
  have hR16 := hR.f16 (hall 16 (by decide))
  obtain ⟨hb5, q, A, c, A1, c1, A2, c2, x15, hq, hcq, o1, o2, o3⟩ := hR16
  simp only [AllX] at hx
  obtain ⟨-, -, -, -, -, -, -, -, -, -, -, -, -, -, -, -, -, x17, -⟩ := hx
  have x17 : x 17 = .nilIface := x17
  rw [x15, x17]
  go_upto_region 4 with fail
  obtain ⟨A_, c_, e1, -, -, h1⟩ := o1.slice3
  injection e1 with e1 e2 e3
  subst e1 e3
  rcases h1 with ⟨-, h, -⟩ | ⟨g1, rfl, hg1, hg1'⟩
  · cases h
  obtain ⟨A_, c_, e1, -, -, h1⟩ := o2.slice3
  injection e1 with e1 e2 e3
  subst e1 e3
  rcases h1 with ⟨-, h, -⟩ | ⟨ga, rfl, hga, hga'⟩
  · cases h
  obtain ⟨A_, c_, e1, -, -, h1⟩ := o3.slice3
  injection e1 with e1 e2 e3
  subst e1 e3
  rcases h1 with ⟨-, h, -⟩ | ⟨gb, rfl, hgb, hgb'⟩
  · cases h
  have k2 := hcq.get 2 _
  have k8 := o1.cell 8 _ rfl
  have k9 := o1.cell 9 _ rfl
  have hql := hcq.lt
  have HB5 := Lib.hid hb5
  have HRA : Hid (∀ wx, Below w5.heap.size w5 wx → wx.rangeAt ga 0 [.string ⟨#[1, 120]⟩, .int .u16 99, .int .u32 0, .string ⟨#[]⟩]) := Lib.hid (fun wx hb j v hv => by rw [Nat.zero_add]; exact (o2.keep hb (Nat.le_refl _)).cell j v hv)
  have HRB : Hid (∀ wx, Below w5.heap.size w5 wx → wx.rangeAt gb 0 [.string ⟨#[1, 121]⟩, .int .u16 99, .int .u32 0, .string ⟨#[]⟩]) := Lib.hid (fun wx hb j v hv => by rw [Nat.zero_add]; exact (o3.keep hb (Nat.le_refl _)).cell j v hv)
  clear o1 o2 o3 hcq hb5 hR hall x15 x17 hq PT CS2
  refine wp_region_goesG data_follows (fun x => by simp [putsF, Act.put]; rfl) w5.heap.size w5
    [isV .nilIface, isV (.bool true), isV (.bool true), isV (.pointer (some ⟨q, 2, none⟩)), isV (.slice (some ⟨g1, 0, none⟩) 1 c), isV (.int .i64 1), isV (.bool true), isV (.bool true), isV (.bool true), isV (.pointer (some ⟨q, 2, none⟩)), isV (.slice (some ⟨g1, 0, none⟩) 1 c), isV (.pointer (some ⟨g1, 0, none⟩)), isV (.pointer (some ⟨g1, 8, none⟩)), isV (.slice (some ⟨ga, 0, none⟩) 1 c1), isV (.int .i64 1), isV (.bool true), isV (.bool true), isV (.bool true), isV (.pointer (some ⟨q, 2, none⟩)), isV (.slice (some ⟨g1, 0, none⟩) 1 c), isV (.pointer (some ⟨g1, 0, none⟩)), isV (.pointer (some ⟨g1, 9, none⟩)), isV (.slice (some ⟨gb, 0, none⟩) 1 c2), isV (.int .i64 1), isV (.bool true), isV (.bool true), isV (.bool true), isV (.pointer (some ⟨q, 2, none⟩)), isV (.slice (some ⟨g1, 0, none⟩) 1 c), isV (.pointer (some ⟨g1, 0, none⟩)), isV (.pointer (some ⟨g1, 8, none⟩)), isV (.slice (some ⟨ga, 0, none⟩) 1 c1), isV (.pointer (some ⟨ga, 0, none⟩)), isV VX, isV VX, isV (.bool true), isV (.bool true), isV (.bool true), isV (.pointer (some ⟨q, 2, none⟩)), isV (.slice (some ⟨g1, 0, none⟩) 1 c), isV (.pointer (some ⟨g1, 0, none⟩)), isV (.pointer (some ⟨g1, 9, none⟩)), isV (.slice (some ⟨gb, 0, none⟩) 1 c2), isV (.pointer (some ⟨gb, 0, none⟩)), isV VY, isV VY, isV (.bool true), isV (.bool true), isV (.bool true), isV (.func (.func 17) #[] #[]), isV VS3, litW 1 [.string ⟨#[]⟩, .int .u16 6, .int .u32 0, .string D3], isV (.bool true), isV (.bool true), isV (.bool true)]
    (by kernel_rfl) (by kernel_rfl) (by kernel_rfl) rfl ?_ (Below.refl _ _) ?_ ?_
  · repeat (first | exact trivial | refine ⟨by first | exact isV_stays _ | exact litW_stays _ _, ?_⟩)
  · refine ⟨?_, ?_, ?_, ?_, ?_, ?_, ?_, ?_, ?_, ?_, ?_, ?_, ?_, ?_, ?_, ?_, ?_, ?_, ?_, ?_, ?_, ?_, ?_, ?_, ?_, ?_, ?_, ?_, ?_, ?_, ?_, ?_, ?_, ?_, ?_, ?_, ?_, ?_, ?_, ?_, ?_, ?_, ?_, ?_, ?_, ?_, ?_, ?_, ?_, ?_, ?_, ?_, ?_, ?_, ?_, trivial⟩
    all_goals
      intro x wx hR hd
      simp at hd
      have k2' := (hR.cell (p := ⟨q, 2, none⟩) hql).trans k2
      have k8' := (hR.cell (p := ⟨g1, 8, none⟩) hg1').trans k8
      have k9' := (hR.cell (p := ⟨g1, 9, none⟩) hg1').trans k9
    · refine ⟨fun _ => ?_, fun hX => by first | (simp at hX; done) | (simp [hd] at hX; done)⟩
      (try simp [hd]); go_simp; exact next_same _ rfl rfl hR
    · refine ⟨fun _ => ?_, fun hX => by first | (simp at hX; done) | (simp [hd] at hX; done)⟩
      (try simp [hd]); go_simp; exact next_same _ rfl rfl hR
    · refine ⟨fun _ => ?_, fun hX => by first | (simp at hX; done) | (simp [hd] at hX; done)⟩
      (try simp [hd]); go_simp; exact next_same _ rfl rfl hR
    · refine ⟨fun _ => ?_, fun hX => by first | (simp at hX; done) | (simp [hd] at hX; done)⟩
      (try simp [hd]); go_simp; exact next_same _ rfl rfl hR
    · refine ⟨fun _ => ?_, fun hX => by first | (simp at hX; done) | (simp [hd] at hX; done)⟩
      (try simp [hd]); go_simp; exact next_same _ rfl rfl hR
    · refine ⟨fun _ => ?_, fun hX => by first | (simp at hX; done) | (simp [hd] at hX; done)⟩
      (try simp [hd]); go_simp; exact next_same _ rfl rfl hR
    · refine ⟨fun _ => ?_, fun hX => by first | (simp at hX; done) | (simp [hd] at hX; done)⟩
      (try simp [hd]); go_simp; exact next_same _ rfl rfl hR
    · refine ⟨fun _ => ?_, fun hX => by first | (simp at hX; done) | (simp [hd] at hX; done)⟩
      (try simp [hd]); go_simp; exact next_same _ rfl rfl hR
    · refine ⟨fun _ => ?_, fun hX => by first | (simp at hX; done) | (simp [hd] at hX; done)⟩
      (try simp [hd]); go_simp; exact next_same _ rfl rfl hR
    · refine ⟨fun _ => ?_, fun hX => by first | (simp at hX; done) | (simp [hd] at hX; done)⟩
      (try simp [hd]); go_simp; exact next_same _ rfl rfl hR
    · refine ⟨fun _ => ?_, fun hX => by first | (simp at hX; done) | (simp [hd] at hX; done)⟩
      (try simp [hd]); go_simp; exact next_same _ rfl rfl hR
    · refine ⟨fun _ => ?_, fun hX => by first | (simp at hX; done) | (simp [hd] at hX; done)⟩
      (try simp [hd]); go_simp; exact next_same _ rfl rfl hR
    · refine ⟨fun _ => ?_, fun hX => by first | (simp at hX; done) | (simp [hd] at hX; done)⟩
      (try simp [hd]); go_simp; exact next_same _ rfl rfl hR
    · refine ⟨fun _ => ?_, fun hX => by first | (simp at hX; done) | (simp [hd] at hX; done)⟩
      (try simp [hd]); go_simp; exact next_same _ rfl rfl hR
    · refine ⟨fun _ => ?_, fun hX => by first | (simp at hX; done) | (simp [hd] at hX; done)⟩
      (try simp [hd]); go_simp; exact next_same _ rfl rfl hR
    · refine ⟨fun _ => ?_, fun hX => by first | (simp at hX; done) | (simp [hd] at hX; done)⟩
      (try simp [hd]); go_simp; exact next_same _ rfl rfl hR
    · refine ⟨fun _ => ?_, fun hX => by first | (simp at hX; done) | (simp [hd] at hX; done)⟩
      (try simp [hd]); go_simp; exact next_same _ rfl rfl hR
    · refine ⟨fun _ => ?_, fun hX => by first | (simp at hX; done) | (simp [hd] at hX; done)⟩
      (try simp [hd]); go_simp; exact next_same _ rfl rfl hR
    · refine ⟨fun _ => ?_, fun hX => by first | (simp at hX; done) | (simp [hd] at hX; done)⟩
      (try simp [hd]); go_simp; exact next_same _ rfl rfl hR
    · refine ⟨fun _ => ?_, fun hX => by first | (simp at hX; done) | (simp [hd] at hX; done)⟩
      (try simp [hd]); go_simp; exact next_same _ rfl rfl hR
    · refine ⟨fun _ => ?_, fun hX => by first | (simp at hX; done) | (simp [hd] at hX; done)⟩
      (try simp [hd]); go_simp; exact next_same _ rfl rfl hR
    · refine ⟨fun _ => ?_, fun hX => by first | (simp at hX; done) | (simp [hd] at hX; done)⟩
      (try simp [hd]); go_simp; exact next_same _ rfl rfl hR
    · refine ⟨fun _ => ?_, fun hX => by first | (simp at hX; done) | (simp [hd] at hX; done)⟩
      (try simp [hd]); go_simp; exact next_same _ rfl rfl hR
    · refine ⟨fun _ => ?_, fun hX => by first | (simp at hX; done) | (simp [hd] at hX; done)⟩
      (try simp [hd]); go_simp; exact next_same _ rfl rfl hR
    · refine ⟨fun _ => ?_, fun hX => by first | (simp at hX; done) | (simp [hd] at hX; done)⟩
      (try simp [hd]); go_simp; exact next_same _ rfl rfl hR
    · refine ⟨fun _ => ?_, fun hX => by first | (simp at hX; done) | (simp [hd] at hX; done)⟩
      (try simp [hd]); go_simp; exact next_same _ rfl rfl hR
    · refine ⟨fun _ => ?_, fun hX => by first | (simp at hX; done) | (simp [hd] at hX; done)⟩
      (try simp [hd]); go_simp; exact next_same _ rfl rfl hR
    · refine ⟨fun _ => ?_, fun hX => by first | (simp at hX; done) | (simp [hd] at hX; done)⟩
      (try simp [hd]); go_simp; exact next_same _ rfl rfl hR
    · refine ⟨fun _ => ?_, fun hX => by first | (simp at hX; done) | (simp [hd] at hX; done)⟩
      (try simp [hd]); go_simp; exact next_same _ rfl rfl hR
    · refine ⟨fun _ => ?_, fun hX => by first | (simp at hX; done) | (simp [hd] at hX; done)⟩
      (try simp [hd]); go_simp; exact next_same _ rfl rfl hR
    · refine ⟨fun _ => ?_, fun hX => by first | (simp at hX; done) | (simp [hd] at hX; done)⟩
      (try simp [hd]); go_simp; exact next_same _ rfl rfl hR
    · refine ⟨fun _ => ?_, fun hX => by first | (simp at hX; done) | (simp [hd] at hX; done)⟩
      (try simp [hd]); go_simp; exact next_same _ rfl rfl hR
    · refine ⟨fun _ => ?_, fun hX => by first | (simp at hX; done) | (simp [hd] at hX; done)⟩
      (try simp [hd]); go_simp; exact next_same _ rfl rfl hR
    · refine ⟨fun _ => ?_, fun hX => by first | (simp at hX; done) | (simp [hd] at hX; done)⟩
      refine wp_load_mid 41 _ rfl ga 0 (by simp [go_sem, hd]) _ _ (HRA.out wx hR) Tryd.underlying41 rfl (by kernel_rfl) ?_
      exact next_same _ rfl HVX.out.symm hR
    · refine ⟨fun _ => ?_, fun hX => by first | (simp at hX; done) | (simp [hd] at hX; done)⟩
      refine wp_load_mid 41 _ rfl bx 0 (by simp [go_sem, hd]) _ _ (HRX.out wx (below_trans HB5.out HB5.out.size hR)) Tryd.underlying41 rfl (by kernel_rfl) ?_
      exact next_same _ rfl HVX.out.symm hR
    · refine ⟨fun _ => ?_, fun hX => by first | (simp at hX; done) | (simp [hd] at hX; done)⟩
      first
        | (obtain ⟨hd0, hd1, -⟩ := hd; exact wp_binop _ _ _ _ _ rfl hd0 hd1 (by rw [HVX.out]; first | kernel_rfl | rfl) (HEX.out wx) (next_same _ rfl rfl hR))
        | (obtain ⟨hd0, hd1⟩ := hd; exact wp_binop _ _ _ _ _ rfl hd0 hd1 (by rw [HVX.out]; first | kernel_rfl | rfl) (HEX.out wx) (next_same _ rfl rfl hR))
    · refine ⟨fun _ => ?_, fun hX => by first | (simp at hX; done) | (simp [hd] at hX; done)⟩
      (try simp [hd]); go_simp; exact next_same _ rfl rfl hR
    · refine ⟨fun _ => ?_, fun hX => by first | (simp at hX; done) | (simp [hd] at hX; done)⟩
      (try simp [hd]); go_simp; exact next_same _ rfl rfl hR
    · refine ⟨fun _ => ?_, fun hX => by first | (simp at hX; done) | (simp [hd] at hX; done)⟩
      (try simp [hd]); go_simp; exact next_same _ rfl rfl hR
    · refine ⟨fun _ => ?_, fun hX => by first | (simp at hX; done) | (simp [hd] at hX; done)⟩
      (try simp [hd]); go_simp; exact next_same _ rfl rfl hR
    · refine ⟨fun _ => ?_, fun hX => by first | (simp at hX; done) | (simp [hd] at hX; done)⟩
      (try simp [hd]); go_simp; exact next_same _ rfl rfl hR
    · refine ⟨fun _ => ?_, fun hX => by first | (simp at hX; done) | (simp [hd] at hX; done)⟩
      (try simp [hd]); go_simp; exact next_same _ rfl rfl hR
    · refine ⟨fun _ => ?_, fun hX => by first | (simp at hX; done) | (simp [hd] at hX; done)⟩
      (try simp [hd]); go_simp; exact next_same _ rfl rfl hR
    · refine ⟨fun _ => ?_, fun hX => by first | (simp at hX; done) | (simp [hd] at hX; done)⟩
      (try simp [hd]); go_simp; exact next_same _ rfl rfl hR
    · refine ⟨fun _ => ?_, fun hX => by first | (simp at hX; done) | (simp [hd] at hX; done)⟩
      refine wp_load_mid 41 _ rfl gb 0 (by simp [go_sem, hd]) _ _ (HRB.out wx hR) Tryd.underlying41 rfl (by kernel_rfl) ?_
      exact next_same _ rfl HVY.out.symm hR
    · refine ⟨fun _ => ?_, fun hX => by first | (simp at hX; done) | (simp [hd] at hX; done)⟩
      refine wp_load_mid 41 _ rfl by_ 0 (by simp [go_sem, hd]) _ _ (HRY.out wx (below_trans HB5.out HB5.out.size hR)) Tryd.underlying41 rfl (by kernel_rfl) ?_
      exact next_same _ rfl HVY.out.symm hR
    · refine ⟨fun _ => ?_, fun hX => by first | (simp at hX; done) | (simp [hd] at hX; done)⟩
      first
        | (obtain ⟨hd0, hd1, -⟩ := hd; exact wp_binop _ _ _ _ _ rfl hd0 hd1 (by rw [HVY.out]; first | kernel_rfl | rfl) (HEY.out wx) (next_same _ rfl rfl hR))
        | (obtain ⟨hd0, hd1⟩ := hd; exact wp_binop _ _ _ _ _ rfl hd0 hd1 (by rw [HVY.out]; first | kernel_rfl | rfl) (HEY.out wx) (next_same _ rfl rfl hR))
    · refine ⟨fun _ => ?_, fun hX => by first | (simp at hX; done) | (simp [hd] at hX; done)⟩
      (try simp [hd]); go_simp; exact next_same _ rfl rfl hR
    · refine ⟨fun _ => ?_, fun hX => by first | (simp at hX; done) | (simp [hd] at hX; done)⟩
      (try simp [hd]); go_simp; exact next_same _ rfl rfl hR
    · refine ⟨fun _ => ?_, fun hX => by first | (simp at hX; done) | (simp [hd] at hX; done)⟩
      (try simp [hd]); go_simp; exact next_same _ rfl rfl hR
    · refine ⟨fun _ => ?_, fun hX => by first | (simp at hX; done) | (simp [hd] at hX; done)⟩
      try simp [hd]
      go_simp
      go_at_call 17
      refine (CS3.out wx).mono ?_
      rintro r wy ⟨rfl, hb⟩
      exact next_call _ rfl rfl hR hR.size hb
    · refine ⟨fun _ => ?_, fun hX => by first | (simp at hX; done) | (simp [hd] at hX; done)⟩
      have hx50 : x 50 = VS3 := by first | exact hd | exact hd.1 | exact hd.2
      simp only [hx50, HVS3.out]
      clear hd
      go_simp
      exact next_call _ rfl (litW_new 1 _ _ _ _) hR hR.size ((Below.refl _ _).alloc (Nat.le_refl _) _)
    · refine ⟨fun _ => ?_, fun hX => by first | (simp at hX; done) | (simp [hd] at hX; done)⟩
      obtain ⟨g, hg, hcs⟩ : litW 1 [.string ⟨#[]⟩, .int .u16 6, .int .u32 0, .string D3] (x 51) wx := by first | exact hd | exact hd.1 | exact hd.2
      simp only [hg]
      clear hd
      go_simp
      go_at_call 19
      refine (DN.out g wx hcs).mono ?_
      rintro r wy ⟨rfl, hb⟩
      exact next_call _ rfl rfl hR hR.size hb
    · refine ⟨fun _ => ?_, fun hX => by first | (simp at hX; done) | (simp [hd] at hX; done)⟩
      (try simp [hd]); go_simp; exact next_same _ rfl rfl hR
    · refine ⟨fun _ => ?_, fun hX => by first | (simp at hX; done) | (simp [hd] at hX; done)⟩
      (try simp [hd]); go_simp; exact next_same _ rfl rfl hR
  intro x w7 hR hx
  simp [AllWords] at hx
  have h54 : x 54 = .bool true := by simp [hx]
  rw [h54]
  clear hx h54
  have HB7 := Lib.hid (below_trans HB3.out HB3.out.size (below_trans HB5.out HB5.out.size hR))
  clear hR
  go_wp2_with fail
  go_ret
  exact ⟨rfl, HB7.out⟩
end Go.Proofs.YtpbbnpglcadimaaDoor
namespace Go.Proofs.YtpbbnpglcadimaaDoor
open Go.RowKit
set_option linter.unusedVariables false
set_option linter.unusedSimpArgs false
set_option maxRecDepth 20000
attribute [local simp] putsF isV wordOf Deps Region.binds Region.wanted Act.put wantedX isB
theorem full_facts (n c L : Nat) (h : L = n - 1) (hc : n ≤ c) (h2 : 2 ≤ n) : ¬ c = 1 ∧ (1 : Int) ≤ L ∧ 1 ≤ L ∧ (L : Int) ≤ c ∧ L ≤ c ∧ ¬ L = 0 := by omega
end Go.Proofs.YtpbbnpglcadimaaDoor
namespace Go.Proofs.YtpbbnpglcadimaaDoor
open Go.RowKit
set_option linter.unusedVariables false
set_option linter.unusedSimpArgs false
set_option maxRecDepth 20000
/-- A name below another one; that one, where it is too long. -/
def underN (o s : ByteArray) : ByteArray := if (joinOf s o).isSome = true then strOf (joinOf s o) else o
/-- A record below a name. -/
def underR (o : ByteArray) (soas : Bool) (a : ActT) : RecT :=
  if ((recOf a).2.1 == 6) = true then (if soas = true then soaR o (a.2.2.1.toNat % 6) else (o, 16, a.2.2.1, ⟨#[1, 120]⟩)) else (underN o (recOf a).1, (recOf a).2.1, (recOf a).2.2.1, (recOf a).2.2.2)
def undersOf (o : ByteArray) (soas : Bool) (ds : List ActT) (most : Nat) : List RecT := (ds.take most).map (underR o soas)
theorem undersOf_len (o : ByteArray) (s : Bool) (ds : List ActT) (most : Nat) : (undersOf o s ds most).length = min most ds.length := by unfold undersOf; simp
theorem undersOf_next {o : ByteArray} {s : Bool} {ds : List ActT} {most k : Nat} {a : ActT} (hk : k < most) (ha : ds[k]? = some a) : undersOf o s (ds.take (k + 1)) most = undersOf o s (ds.take k) most ++ [underR o s a] := by
  unfold undersOf
  rw [List.take_take, List.take_take, Nat.min_eq_right (by omega), Nat.min_eq_right (by omega), List.take_add_one, ha]
  simp
theorem recCells_one (r : RecT) : ∀ u ∈ recCells r, u.oneCell' = true := by
  intro u hu
  unfold recCells at hu
  simp at hu
  rcases hu with rfl | rfl | rfl | rfl <;> rfl
theorem rec_zero : (Tryd.prog.info? 41).map (fun i => (i.zero, i.size, i.bytes)) = some (some (.agg #[.string ⟨#[]⟩, .int .u16 0, .int .u32 0, .string ⟨#[]⟩]), 4, 40) := by kernel_rfl
set_option maxHeartbeats 6400000 in
theorem under_any (o : ByteArray) (A : Option Addr) (n c most : Nat) (soas : Bool) (ds : List ActT) (w : World) (h : ActsAt w A n ds) (hn : n ≤ maxLen) (hm : most ≤ 1000) (ho : o.size ≤ maxLen) :
    Calls Tryd.prog 12 #[.string o, .slice A n c, .int .i64 (most : Nat), .bool soas] w fun e w' => ∃ v, e = .returned v ∧ OBM 4 w.heap.size w v (undersOf o soas ds most).length (flatR (undersOf o soas ds most)) w' := by
  unfold maxLen at hn
  have hl := h.len
  obtain ⟨i0, hi, hz0, hz1, hz2⟩ := info_parts4 rec_zero
  have H := Lib.hid h
  have HL := Lib.hid hl
  have HO0 := Lib.hid ho
  have HMOST := Lib.hid hm
  clear h hl ho
  go_enter Tryd.func12, Tryd.ntmps12
  go_wp2_with fail
  go_loopw [9, 17] (fun v i wr => ∃ k : Nat, k ≤ n ∧ k ≤ most ∧ i = .int .i64 k ∧ Hid (OBM 4 w.heap.size w v (undersOf o soas (ds.take k) most).length (flatR (undersOf o soas (ds.take k) most)) wr)) (fun _ i _ => n - (intOf i).toNat)
  case atStart => exact ⟨0, Nat.zero_le _, Nat.zero_le _, rfl, Lib.hid (by have := OBM.start (sz := 4) w; simpa [undersOf, flatR] using this)⟩
  case round =>
    obtain ⟨k, hk, hkm, rfl, HB⟩ := hrel
    by_cases hlt : k < n
    · have hlt' : (k : Int) < n := by omega
      obtain ⟨a, ha⟩ : ∃ r, ds[k]? = some r := ⟨_, List.getElem?_eq_getElem (by rw [HL.out]; omega)⟩
      have hA := H.out.below (HB.out.bel)
      obtain ⟨b, off, rfl, hb, g0, g1, g2, g3, g4⟩ := hA.cells k a ha
      have hok := hA.ok a (List.mem_of_getElem? ha)
      unfold rowV at g0 g3
      by_cases hkeq : k = most
      · have hki : ((k : Int) == (most : Int)) = true := by rw [beq_iff_eq]; omega
        have hend : undersOf o soas (ds.take k) most = undersOf o soas ds most := by
          unfold undersOf
          rw [List.take_take, Nat.min_eq_right (by omega), hkeq]
        have HE := Lib.hid hend
        clear hA hok ha hend
        subst hkeq
        go_wp2_with fail
        go_ret
        have := HB.out.alloc (.cells #[.slice a.1.1 a.1.2.1 a.1.2.2.1, .int .u8 a.2.1, .int .u32 a.2.2.1, .slice a.2.2.2.1.1 a.2.2.2.1.2.1 a.2.2.2.1.2.2.1, .string a.2.2.2.2] 75)
        rw [HE.out] at this
        exact ⟨_, rfl, this⟩
      · have hki : ((k : Int) == (most : Int)) = false := by rw [beq_eq_false_iff_ne]; omega
        have hkm' : k < most := by omega
        have hnx := undersOf_next (o := o) (s := soas) hkm' ha
        have RC := Lib.hid (fun w h => record_any a w h)
        unfold actA rowV at RC
        have hun : underR o soas a = underR o soas a := rfl
        unfold underR at hun
        have HNX := Lib.hid hnx
        have HOK := Lib.hid hok
        have hlen := undersOf_len o soas (ds.take k) most
        have HL2 := Lib.hid (show (undersOf o soas (ds.take k) most).length ≤ 1000 by omega)
        have hT := hok.t
        have hrn : (recOf a).1.size ≤ maxLen := by unfold recOf nmB; rw [mk_size]; exact Nat.le_trans (nameZ_le _ (intsB_ok _)) (by decide)
        clear hA hok ha hnx hlen hun
        generalize hrs : undersOf o soas (ds.take k) most = rs at *
        clear hrs
        obtain ⟨TT, hTT⟩ : ∃ t : Nat, a.2.2.1 = t := ⟨a.2.2.1.toNat, by omega⟩
        obtain ⟨r, hr⟩ : ∃ r, recOf a = r := ⟨_, rfl⟩
        obtain ⟨ur, hur⟩ : ∃ u, u = underR o soas a := ⟨_, rfl⟩
        have HUR : Hid (ur = if (r.2.1 == 6) = true then (if soas = true then soaR o (TT % 6) else (o, 16, (TT : Int), ⟨#[1, 120]⟩)) else (underN o r.1, r.2.1, r.2.2.1, r.2.2.2)) := Lib.hid (by rw [hur, ← hr]; unfold underR; rw [hTT]; simp)
        rw [hr] at RC hrn
        have HR0S := Lib.hid hrn
        clear hrn
        rw [← hur] at HNX
        rw [hTT] at g2 hT RC
        have hT2 : TT < 4294967296 := by omega
        clear hr hur hTT hT
        obtain ⟨r0, r1, r2, r3⟩ := r
        unfold recV at RC
        simp only at RC HUR HR0S
        go_wp2_with fail
        refine (RC.out _ (HOK.out.below ((Below.refl _ _).alloc (Nat.le_refl _) _))).mono ?_
        rintro e w2 ⟨rfl, hb2⟩
        have hbA : Below wr.heap.size wr w2 := below_alloc _ (Below.refl _ _) (Nat.le_refl _) hb2
        have hCA := (Cs.new wr #[.slice a.1.1 a.1.2.1 a.1.2.2.1, .int .u8 a.2.1, .int .u32 (TT : Nat), .slice a.2.2.2.1.1 a.2.2.2.1.2.1 a.2.2.2.1.2.2.1, .string a.2.2.2.2] 75 [.slice a.1.1 a.1.2.1 a.1.2.2.1, .int .u8 a.2.1, .int .u32 (TT : Nat), .slice a.2.2.2.1.1 a.2.2.2.1.2.1 a.2.2.2.1.2.2.1, .string a.2.2.2.2]).below hb2
        have hC2 := Cs.new w2 #[.string r0, .int .u16 r1, .int .u32 r2, .string r3] 41 [.string r0, .int .u16 r1, .int .u32 r2, .string r3]
        have hCA2 := hCA.alloc (.cells #[.string r0, .int .u16 r1, .int .u32 r2, .string r3] 41)
        have hb3 := hbA.alloc hbA.size (.cells #[.string r0, .int .u16 r1, .int .u32 r2, .string r3] 41)
        have hr0s : r0.size ≤ maxLen := HR0S.out
        have JN := Lib.hid (fun w => join_any r0 o w hr0s HO0.out)
        have H3 := Lib.hid (And.intro hC2 (And.intro hCA2 hb3))
        have HG := Lib.hid (show wr.heap.size < w2.heap.size by have := hCA.lt; exact this)
        clear hb2 hbA hCA hC2 hCA2 hb3 hr0s g0 g1 g2 g3 g4
        go_upto_region 7 with fail
        obtain ⟨hC2, hCA2, hb3⟩ := H3.out
        generalize w2.alloc (.cells #[.string r0, .int .u16 r1, .int .u32 r2, .string r3] 41) = w3 at *
        obtain ⟨g12, hg12⟩ : ∃ g, g = w2.heap.size := ⟨_, rfl⟩
        obtain ⟨g11, hg11⟩ : ∃ g, g = wr.heap.size := ⟨_, rfl⟩
        have hgg := HG.out
        rw [← hg12] at hC2 hgg ⊢
        rw [← hg11] at hCA2 hgg ⊢
        have HG12 : Hid (wr.heap.size ≤ g12) := Lib.hid (by omega)
        have HNE : Hid (g11 ≠ g12) := Lib.hid (by omega)
        have HC3 := Lib.hid (And.intro hC2 (And.intro hCA2 hb3))
        have c0 := hC2.get 0 _
        clear hC2 hCA2 hb3 hg12 hg11 hgg H3
        go_wp2_with fail
        refine (JN.out _).mono ?_
        rintro e w4 ⟨rfl, hb4⟩
        clear c0
        have hC4 := HC3.out.1.below hb4
        have hA4 := HC3.out.2.1.below hb4
        have hB4 := HC3.out.2.2.trans (hb4.mono HC3.out.2.2.size)
        have c0 := hC4.get 0 _
        have f0 := hC4.froz 0 (by simp)
        obtain ⟨JS, hJS⟩ : ∃ x, x = strOf (joinOf r0 o) := ⟨_, rfl⟩
        rw [← hJS]
        have HJS := Lib.hid hJS
        clear hJS hb4
        cases hjb : (joinOf r0 o).isSome with
        | true =>
          have HJB := Lib.hid hjb
          have HC5 := Lib.hid (And.intro (hC4.set' 0 (.string JS) (by simp)) (And.intro (hA4.other g12 0 (.string JS) HNE.out.symm) (hB4.setCell (p := ⟨g12, 0, none⟩) HG12.out (.string JS))))
          have HC5 : Hid (Cs (w4.setCell ⟨g12, 0, none⟩ (.string JS)) g12 [.string JS, .int .u16 r1, .int .u32 r2, .string r3] ∧ Cs (w4.setCell ⟨g12, 0, none⟩ (.string JS)) g11 [.slice a.1.1 a.1.2.1 a.1.2.2.1, .int .u8 a.2.1, .int .u32 (TT : Nat), .slice a.2.2.2.1.1 a.2.2.2.1.2.1 a.2.2.2.1.2.2.1, .string a.2.2.2.2] ∧ Below wr.heap.size wr (w4.setCell ⟨g12, 0, none⟩ (.string JS))) := HC5
          clear hC4 hA4 hB4 hjb
          go_upto_region 11 with fail
          generalize w4.setCell ⟨g12, 0, none⟩ (.string JS) = w5 at *
          have hC := HC5.out.1
          have hB5 := HC5.out.2.2
          have c1 := hC.get 1 _
          have c2 := HC5.out.2.1.get 2 _
          have hun : underN o r0 = JS := by unfold underN; rw [HJB.out, if_pos rfl, HJS.out]
          have HUN := Lib.hid hun
          clear hun f0 c0
          cases hq6 : (r1 == 6) with
          | false =>
            have hur : ur = (JS, r1, r2, r3) := by rw [HUR.out, hq6, HUN.out]; rfl
            clear c2
            go_upto_region 15 with fail
            have HRX := Lib.hid hC.range
            have ho := Lib.hid ((HB.out.keep hB5 (Nat.le_refl _)).alloc (.cells #[.string JS, .int .u16 r1, .int .u32 r2, .string r3] 41))
            have hS : Hid (Src Tryd.prog 4 27 (.slice (some ⟨w5.heap.size, 0, none⟩) 1 1) 1 [.string JS, .int .u16 r1, .int .u32 r2, .string r3] (w5.alloc (.cells #[.string JS, .int .u16 r1, .int .u32 r2, .string r3] 41))) := by
              refine Lib.hid (Src.ofSlice _ Tryd.underlying27 _ 1 1 _ rfl ?_ (recCells_one (JS, r1, r2, r3)))
              exact news_at w5 #[.string JS, .int .u16 r1, .int .u32 r2, .string r3] _
            have hfl : flatR (rs ++ [ur]) = flatR rs ++ [.string JS, .int .u16 r1, .int .u32 r2, .string r3] := by rw [flatR_snoc, hur]; rfl
            have HFL := Lib.hid hfl
            clear hC hfl hur
            go_wp2_with (first | (at_builtin; go_loud (refine wpList_append_obm rfl _ _ 27 27 rfl 41 i0 _ 40 Tryd.underlying27 hi hz0 hz1 hz2 rfl ho.out rfl rfl hS.out rfl (by have := HL2.out; unfold maxLen; omega) (by have := HL2.out; omega) ?_)) | refine wpList_load_mid rfl 41 _ rfl g12 0 rfl _ _ HRX.out Tryd.underlying41 rfl (by kernel_rfl) ?_)
            intro v' w' q1 q2 q3 q4
            have Q1 := Lib.hid q1
            clear q1 q2 q3 q4
            go_wp2_with fail
            go_round
            case rel => exact ⟨k + 1, by omega, by omega, by go_num, Lib.hid (by rw [HNX.out, HFL.out, List.length_append]; exact Q1.out)⟩
            case measure => simp [intOf]; omega
          | true =>
            have hq6' := hq6
            rw [beq_iff_eq] at hq6'
            have HQ6 := Lib.hid hq6
            have SO : Hid (∀ w, Calls Tryd.prog 10 #[.string o, .int .u32 ((TT % 6 : Nat) : Int)] w fun e w' => e = .returned (.agg #[.string o, .int .u16 6, .int .u32 9, .string (soaD (TT % 6))]) ∧ Below w.heap.size w w') := Lib.hid (fun w => soa9_any o (TT % 6) (by omega) w)
            have htm : (TT : Int).tmod 6 = ((TT % 6 : Nat) : Int) := by rw [Int.tmod_eq_emod_of_nonneg (by omega)]; omega
            obtain ⟨D, hD⟩ : ∃ d, d = soaD (TT % 6) := ⟨_, rfl⟩
            obtain ⟨tm, htq⟩ : ∃ t : Nat, t = TT % 6 := ⟨_, rfl⟩
            rw [← hD] at SO
            rw [← htq] at SO htm
            have HD := Lib.hid hD
            have H5 := Lib.hid hC
            have HBB5 := Lib.hid hB5
            have HA5 := Lib.hid HC5.out.2.1
            clear hD htq hq6' hC hB5
            go_wp2_with fail
            refine (SO.out _).mono ?_
            rintro e w6 ⟨rfl, hb6⟩
            have hC6 := H5.out.below hb6
            have HTH := Lib.hid (hC6.there 4 rfl)
            have hM := hC6.mid [.string o, .int .u16 6, .int .u32 9, .string D] rfl
            have hb7 := below_setCells' (B := wr.heap.size) (g := g12) HG12.out [.string o, .int .u16 6, .int .u32 9, .string D] 0 (HBB5.out.trans (hb6.mono HBB5.out.size))
            have H7 := Lib.hid (And.intro hM (And.intro hb7 (HA5.out.below hb6)))
            clear hC6 hM hb7 hb6 c1 c2 htm
            go_upto_region 13 with (first | refine wpList_store_mid rfl 41 _ _ rfl g12 0 #[.string o, .int .u16 6, .int .u32 9, .string D] rfl rfl HTH.out (by kernel_rfl) (by simp [Value.oneCell']) ?_)
            obtain ⟨hC, hB7, hA6⟩ := H7.out
            have hA7 : Cs (w6.setCells g12 0 [.string o, .int .u16 6, .int .u32 9, .string D]) g11 [.slice a.1.1 a.1.2.1 a.1.2.2.1, .int .u8 a.2.1, .int .u32 (TT : Nat), .slice a.2.2.2.1.1 a.2.2.2.1.2.1 a.2.2.2.1.2.2.1, .string a.2.2.2.2] := hA6.block ((setCells_heap w6 g12 [.string o, .int .u16 6, .int .u32 9, .string D] 0).2 g11 HNE.out) (by rw [(setCells_heap w6 g12 [.string o, .int .u16 6, .int .u32 9, .string D] 0).1]; exact Nat.le_refl _)
            generalize w6.setCells g12 0 [.string o, .int .u16 6, .int .u32 9, .string D] = w7 at *
            have HQD := Lib.hid (show soaR o (TT % 6) = (o, 6, 9, D) by rw [HD.out]; rfl)
            cases soas with
            | true =>
              have hur : ur = (o, 6, 9, D) := by rw [HUR.out, HQ6.out, if_pos rfl, if_pos rfl, HQD.out]
              clear hA6 hA7
              go_upto_region 15 with fail
              have HRX := Lib.hid hC.range
              have ho := Lib.hid ((HB.out.keep hB7 (Nat.le_refl _)).alloc (.cells #[.string o, .int .u16 6, .int .u32 9, .string D] 41))
              have hS : Hid (Src Tryd.prog 4 27 (.slice (some ⟨w7.heap.size, 0, none⟩) 1 1) 1 [.string o, .int .u16 6, .int .u32 9, .string D] (w7.alloc (.cells #[.string o, .int .u16 6, .int .u32 9, .string D] 41))) := by
                refine Lib.hid (Src.ofSlice _ Tryd.underlying27 _ 1 1 _ rfl ?_ (recCells_one (o, 6, 9, D)))
                exact news_at w7 #[.string o, .int .u16 6, .int .u32 9, .string D] _
              have hfl : flatR (rs ++ [ur]) = flatR rs ++ [.string o, .int .u16 6, .int .u32 9, .string D] := by rw [flatR_snoc, hur]; rfl
              have HFL := Lib.hid hfl
              clear hC hfl hur
              go_wp2_with (first | (at_builtin; go_loud (refine wpList_append_obm rfl _ _ 27 27 rfl 41 i0 _ 40 Tryd.underlying27 hi hz0 hz1 hz2 rfl ho.out rfl rfl hS.out rfl (by have := HL2.out; unfold maxLen; omega) (by have := HL2.out; omega) ?_)) | refine wpList_load_mid rfl 41 _ rfl g12 0 rfl _ _ HRX.out Tryd.underlying41 rfl (by kernel_rfl) ?_)
              intro v' w' q1 q2 q3 q4
              have Q1 := Lib.hid q1
              clear q1 q2 q3 q4
              go_wp2_with fail
              go_round
              case rel => exact ⟨k + 1, by omega, by omega, by go_num, Lib.hid (by rw [HNX.out, HFL.out, List.length_append]; exact Q1.out)⟩
              case measure => simp [intOf]; omega
            | false =>
              have hur : ur = (o, 16, (TT : Int), ⟨#[1, 120]⟩) := by rw [HUR.out, HQ6.out]; rfl
              have HUX := Lib.hid hur
              have c2 := hA7.get 2 _
              have HTH2 := Lib.hid (hC.there 4 rfl)
              have hM := hC.mid [.string o, .int .u16 16, .int .u32 (TT : Nat), .string ⟨#[1, 120]⟩] rfl
              have hb8 := below_setCells' (B := wr.heap.size) (g := g12) HG12.out [.string o, .int .u16 16, .int .u32 (TT : Nat), .string ⟨#[1, 120]⟩] 0 hB7
              have H8 := Lib.hid (And.intro hM hb8)
              clear hC hB7 hA6 hA7 hM hb8 hur
              go_upto_region 15 with (first | refine wpList_store_mid rfl 41 _ _ rfl g12 0 #[.string o, .int .u16 16, .int .u32 (TT : Nat), .string ⟨#[1, 120]⟩] rfl rfl HTH2.out (by kernel_rfl) (by simp [Value.oneCell']) ?_)
              obtain ⟨hC, hB8⟩ := H8.out
              have hur := HUX.out
              generalize w7.setCells g12 0 [.string o, .int .u16 16, .int .u32 (TT : Nat), .string ⟨#[1, 120]⟩] = w8 at *
              clear c2
              have HRX := Lib.hid hC.range
              have ho := Lib.hid ((HB.out.keep hB8 (Nat.le_refl _)).alloc (.cells #[.string o, .int .u16 16, .int .u32 (TT : Nat), .string ⟨#[1, 120]⟩] 41))
              have hS : Hid (Src Tryd.prog 4 27 (.slice (some ⟨w8.heap.size, 0, none⟩) 1 1) 1 [.string o, .int .u16 16, .int .u32 (TT : Nat), .string ⟨#[1, 120]⟩] (w8.alloc (.cells #[.string o, .int .u16 16, .int .u32 (TT : Nat), .string ⟨#[1, 120]⟩] 41))) := by
                refine Lib.hid (Src.ofSlice _ Tryd.underlying27 _ 1 1 _ rfl ?_ (recCells_one (o, 16, (TT : Int), ⟨#[1, 120]⟩)))
                exact news_at w8 #[.string o, .int .u16 16, .int .u32 (TT : Nat), .string ⟨#[1, 120]⟩] _
              have hfl : flatR (rs ++ [ur]) = flatR rs ++ [.string o, .int .u16 16, .int .u32 (TT : Nat), .string ⟨#[1, 120]⟩] := by rw [flatR_snoc, hur]; rfl
              have HFL := Lib.hid hfl
              clear hC hfl hur
              go_wp2_with (first | (at_builtin; go_loud (refine wpList_append_obm rfl _ _ 27 27 rfl 41 i0 _ 40 Tryd.underlying27 hi hz0 hz1 hz2 rfl ho.out rfl rfl hS.out rfl (by have := HL2.out; unfold maxLen; omega) (by have := HL2.out; omega) ?_)) | refine wpList_load_mid rfl 41 _ rfl g12 0 rfl _ _ HRX.out Tryd.underlying41 rfl (by kernel_rfl) ?_)
              intro v' w' q1 q2 q3 q4
              have Q1 := Lib.hid q1
              clear q1 q2 q3 q4
              go_wp2_with fail
              go_round
              case rel => exact ⟨k + 1, by omega, by omega, by go_num, Lib.hid (by rw [HNX.out, HFL.out, List.length_append]; exact Q1.out)⟩
              case measure => simp [intOf]; omega
        | false =>
          have HJB := Lib.hid hjb
          have HC5 := Lib.hid (And.intro (hC4.set' 0 (.string o) (by simp)) (And.intro (hA4.other g12 0 (.string o) HNE.out.symm) (hB4.setCell (p := ⟨g12, 0, none⟩) HG12.out (.string o))))
          have HC5 : Hid (Cs (w4.setCell ⟨g12, 0, none⟩ (.string o)) g12 [.string o, .int .u16 r1, .int .u32 r2, .string r3] ∧ Cs (w4.setCell ⟨g12, 0, none⟩ (.string o)) g11 [.slice a.1.1 a.1.2.1 a.1.2.2.1, .int .u8 a.2.1, .int .u32 (TT : Nat), .slice a.2.2.2.1.1 a.2.2.2.1.2.1 a.2.2.2.1.2.2.1, .string a.2.2.2.2] ∧ Below wr.heap.size wr (w4.setCell ⟨g12, 0, none⟩ (.string o))) := HC5
          clear hC4 hA4 hB4 hjb
          go_upto_region 11 with fail
          generalize w4.setCell ⟨g12, 0, none⟩ (.string o) = w5 at *
          have hC := HC5.out.1
          have hB5 := HC5.out.2.2
          have c1 := hC.get 1 _
          have c2 := HC5.out.2.1.get 2 _
          have hun : underN o r0 = o := by unfold underN; rw [HJB.out]; rfl
          have HUN := Lib.hid hun
          clear hun f0 c0
          cases hq6 : (r1 == 6) with
          | false =>
            have hur : ur = (o, r1, r2, r3) := by rw [HUR.out, hq6, HUN.out]; rfl
            clear c2
            go_upto_region 15 with fail
            have HRX := Lib.hid hC.range
            have ho := Lib.hid ((HB.out.keep hB5 (Nat.le_refl _)).alloc (.cells #[.string o, .int .u16 r1, .int .u32 r2, .string r3] 41))
            have hS : Hid (Src Tryd.prog 4 27 (.slice (some ⟨w5.heap.size, 0, none⟩) 1 1) 1 [.string o, .int .u16 r1, .int .u32 r2, .string r3] (w5.alloc (.cells #[.string o, .int .u16 r1, .int .u32 r2, .string r3] 41))) := by
              refine Lib.hid (Src.ofSlice _ Tryd.underlying27 _ 1 1 _ rfl ?_ (recCells_one (o, r1, r2, r3)))
              exact news_at w5 #[.string o, .int .u16 r1, .int .u32 r2, .string r3] _
            have hfl : flatR (rs ++ [ur]) = flatR rs ++ [.string o, .int .u16 r1, .int .u32 r2, .string r3] := by rw [flatR_snoc, hur]; rfl
            have HFL := Lib.hid hfl
            clear hC hfl hur
            go_wp2_with (first | (at_builtin; go_loud (refine wpList_append_obm rfl _ _ 27 27 rfl 41 i0 _ 40 Tryd.underlying27 hi hz0 hz1 hz2 rfl ho.out rfl rfl hS.out rfl (by have := HL2.out; unfold maxLen; omega) (by have := HL2.out; omega) ?_)) | refine wpList_load_mid rfl 41 _ rfl g12 0 rfl _ _ HRX.out Tryd.underlying41 rfl (by kernel_rfl) ?_)
            intro v' w' q1 q2 q3 q4
            have Q1 := Lib.hid q1
            clear q1 q2 q3 q4
            go_wp2_with fail
            go_round
            case rel => exact ⟨k + 1, by omega, by omega, by go_num, Lib.hid (by rw [HNX.out, HFL.out, List.length_append]; exact Q1.out)⟩
            case measure => simp [intOf]; omega
          | true =>
            have hq6' := hq6
            rw [beq_iff_eq] at hq6'
            have HQ6 := Lib.hid hq6
            have SO : Hid (∀ w, Calls Tryd.prog 10 #[.string o, .int .u32 ((TT % 6 : Nat) : Int)] w fun e w' => e = .returned (.agg #[.string o, .int .u16 6, .int .u32 9, .string (soaD (TT % 6))]) ∧ Below w.heap.size w w') := Lib.hid (fun w => soa9_any o (TT % 6) (by omega) w)
            have htm : (TT : Int).tmod 6 = ((TT % 6 : Nat) : Int) := by rw [Int.tmod_eq_emod_of_nonneg (by omega)]; omega
            obtain ⟨D, hD⟩ : ∃ d, d = soaD (TT % 6) := ⟨_, rfl⟩
            obtain ⟨tm, htq⟩ : ∃ t : Nat, t = TT % 6 := ⟨_, rfl⟩
            rw [← hD] at SO
            rw [← htq] at SO htm
            have HD := Lib.hid hD
            have H5 := Lib.hid hC
            have HBB5 := Lib.hid hB5
            have HA5 := Lib.hid HC5.out.2.1
            clear hD htq hq6' hC hB5
            go_wp2_with fail
            refine (SO.out _).mono ?_
            rintro e w6 ⟨rfl, hb6⟩
            have hC6 := H5.out.below hb6
            have HTH := Lib.hid (hC6.there 4 rfl)
            have hM := hC6.mid [.string o, .int .u16 6, .int .u32 9, .string D] rfl
            have hb7 := below_setCells' (B := wr.heap.size) (g := g12) HG12.out [.string o, .int .u16 6, .int .u32 9, .string D] 0 (HBB5.out.trans (hb6.mono HBB5.out.size))
            have H7 := Lib.hid (And.intro hM (And.intro hb7 (HA5.out.below hb6)))
            clear hC6 hM hb7 hb6 c1 c2 htm
            go_upto_region 13 with (first | refine wpList_store_mid rfl 41 _ _ rfl g12 0 #[.string o, .int .u16 6, .int .u32 9, .string D] rfl rfl HTH.out (by kernel_rfl) (by simp [Value.oneCell']) ?_)
            obtain ⟨hC, hB7, hA6⟩ := H7.out
            have hA7 : Cs (w6.setCells g12 0 [.string o, .int .u16 6, .int .u32 9, .string D]) g11 [.slice a.1.1 a.1.2.1 a.1.2.2.1, .int .u8 a.2.1, .int .u32 (TT : Nat), .slice a.2.2.2.1.1 a.2.2.2.1.2.1 a.2.2.2.1.2.2.1, .string a.2.2.2.2] := hA6.block ((setCells_heap w6 g12 [.string o, .int .u16 6, .int .u32 9, .string D] 0).2 g11 HNE.out) (by rw [(setCells_heap w6 g12 [.string o, .int .u16 6, .int .u32 9, .string D] 0).1]; exact Nat.le_refl _)
            generalize w6.setCells g12 0 [.string o, .int .u16 6, .int .u32 9, .string D] = w7 at *
            have HQD := Lib.hid (show soaR o (TT % 6) = (o, 6, 9, D) by rw [HD.out]; rfl)
            cases soas with
            | true =>
              have hur : ur = (o, 6, 9, D) := by rw [HUR.out, HQ6.out, if_pos rfl, if_pos rfl, HQD.out]
              clear hA6 hA7
              go_upto_region 15 with fail
              have HRX := Lib.hid hC.range
              have ho := Lib.hid ((HB.out.keep hB7 (Nat.le_refl _)).alloc (.cells #[.string o, .int .u16 6, .int .u32 9, .string D] 41))
              have hS : Hid (Src Tryd.prog 4 27 (.slice (some ⟨w7.heap.size, 0, none⟩) 1 1) 1 [.string o, .int .u16 6, .int .u32 9, .string D] (w7.alloc (.cells #[.string o, .int .u16 6, .int .u32 9, .string D] 41))) := by
                refine Lib.hid (Src.ofSlice _ Tryd.underlying27 _ 1 1 _ rfl ?_ (recCells_one (o, 6, 9, D)))
                exact news_at w7 #[.string o, .int .u16 6, .int .u32 9, .string D] _
              have hfl : flatR (rs ++ [ur]) = flatR rs ++ [.string o, .int .u16 6, .int .u32 9, .string D] := by rw [flatR_snoc, hur]; rfl
              have HFL := Lib.hid hfl
              clear hC hfl hur
              go_wp2_with (first | (at_builtin; go_loud (refine wpList_append_obm rfl _ _ 27 27 rfl 41 i0 _ 40 Tryd.underlying27 hi hz0 hz1 hz2 rfl ho.out rfl rfl hS.out rfl (by have := HL2.out; unfold maxLen; omega) (by have := HL2.out; omega) ?_)) | refine wpList_load_mid rfl 41 _ rfl g12 0 rfl _ _ HRX.out Tryd.underlying41 rfl (by kernel_rfl) ?_)
              intro v' w' q1 q2 q3 q4
              have Q1 := Lib.hid q1
              clear q1 q2 q3 q4
              go_wp2_with fail
              go_round
              case rel => exact ⟨k + 1, by omega, by omega, by go_num, Lib.hid (by rw [HNX.out, HFL.out, List.length_append]; exact Q1.out)⟩
              case measure => simp [intOf]; omega
            | false =>
              have hur : ur = (o, 16, (TT : Int), ⟨#[1, 120]⟩) := by rw [HUR.out, HQ6.out]; rfl
              have HUX := Lib.hid hur
              have c2 := hA7.get 2 _
              have HTH2 := Lib.hid (hC.there 4 rfl)
              have hM := hC.mid [.string o, .int .u16 16, .int .u32 (TT : Nat), .string ⟨#[1, 120]⟩] rfl
              have hb8 := below_setCells' (B := wr.heap.size) (g := g12) HG12.out [.string o, .int .u16 16, .int .u32 (TT : Nat), .string ⟨#[1, 120]⟩] 0 hB7
              have H8 := Lib.hid (And.intro hM hb8)
              clear hC hB7 hA6 hA7 hM hb8 hur
              go_upto_region 15 with (first | refine wpList_store_mid rfl 41 _ _ rfl g12 0 #[.string o, .int .u16 16, .int .u32 (TT : Nat), .string ⟨#[1, 120]⟩] rfl rfl HTH2.out (by kernel_rfl) (by simp [Value.oneCell']) ?_)
              obtain ⟨hC, hB8⟩ := H8.out
              have hur := HUX.out
              generalize w7.setCells g12 0 [.string o, .int .u16 16, .int .u32 (TT : Nat), .string ⟨#[1, 120]⟩] = w8 at *
              clear c2
              have HRX := Lib.hid hC.range
              have ho := Lib.hid ((HB.out.keep hB8 (Nat.le_refl _)).alloc (.cells #[.string o, .int .u16 16, .int .u32 (TT : Nat), .string ⟨#[1, 120]⟩] 41))
              have hS : Hid (Src Tryd.prog 4 27 (.slice (some ⟨w8.heap.size, 0, none⟩) 1 1) 1 [.string o, .int .u16 16, .int .u32 (TT : Nat), .string ⟨#[1, 120]⟩] (w8.alloc (.cells #[.string o, .int .u16 16, .int .u32 (TT : Nat), .string ⟨#[1, 120]⟩] 41))) := by
                refine Lib.hid (Src.ofSlice _ Tryd.underlying27 _ 1 1 _ rfl ?_ (recCells_one (o, 16, (TT : Int), ⟨#[1, 120]⟩)))
                exact news_at w8 #[.string o, .int .u16 16, .int .u32 (TT : Nat), .string ⟨#[1, 120]⟩] _
              have hfl : flatR (rs ++ [ur]) = flatR rs ++ [.string o, .int .u16 16, .int .u32 (TT : Nat), .string ⟨#[1, 120]⟩] := by rw [flatR_snoc, hur]; rfl
              have HFL := Lib.hid hfl
              clear hC hfl hur
              go_wp2_with (first | (at_builtin; go_loud (refine wpList_append_obm rfl _ _ 27 27 rfl 41 i0 _ 40 Tryd.underlying27 hi hz0 hz1 hz2 rfl ho.out rfl rfl hS.out rfl (by have := HL2.out; unfold maxLen; omega) (by have := HL2.out; omega) ?_)) | refine wpList_load_mid rfl 41 _ rfl g12 0 rfl _ _ HRX.out Tryd.underlying41 rfl (by kernel_rfl) ?_)
              intro v' w' q1 q2 q3 q4
              have Q1 := Lib.hid q1
              clear q1 q2 q3 q4
              go_wp2_with fail
              go_round
              case rel => exact ⟨k + 1, by omega, by omega, by go_num, Lib.hid (by rw [HNX.out, HFL.out, List.length_append]; exact Q1.out)⟩
              case measure => simp [intOf]; omega
    · have hlt' : ¬ (k : Int) < n := by omega
      go_wp2_with fail
      go_ret
      have := HB.out
      rw [List.take_of_length_le (by rw [HL.out]; omega)] at this
      exact ⟨_, rfl, this⟩
end Go.Proofs.YtpbbnpglcadimaaDoor
namespace Go.Proofs.YtpbbnpglcadimaaDoor
open Go.RowKit
set_option linter.unusedVariables false
set_option maxRecDepth 20000
theorem nmB_labels (l : List UInt8) : ∃ LS, labelsOf (nmB l) = some LS ∧ (nmB l).size ≤ 254 := by
  refine ⟨wordsZ (intsB l), ?_, ?_⟩
  · unfold nmB nameZ
    exact few_labels (wordsZ_ok _ (intsB_ok l)) (wordsZ_len _)
  · unfold nmB
    have := nameZ_le (intsB l) (intsB_ok l)
    simpa [ByteArray.size] using this
theorem dataOf_cname (q : Nat) (X s : ByteArray) (h : ((dataOf q X s).1 : Int) = 5) : (dataOf q X s).2 = X := by
  unfold dataOf at h ⊢
  by_cases c0 : q = 0 ∨ q = 1
  · rw [if_pos c0] at h; simp at h
  rw [if_neg c0] at h ⊢
  by_cases c2 : q = 2
  · rw [if_pos c2]
  rw [if_neg c2] at h ⊢
  by_cases c3 : q = 3
  · rw [if_pos c3]
  rw [if_neg c3] at h ⊢
  by_cases c4 : q = 4
  · rw [if_pos c4] at h; simp at h
  rw [if_neg c4] at h ⊢
  by_cases c5 : q = 5
  · rw [if_pos c5] at h; simp at h
  rw [if_neg c5] at h ⊢
  by_cases c6 : q = 6
  · rw [if_pos c6] at h; simp at h
  rw [if_neg c6] at h; simp at h
theorem dataOf_le (q : Nat) (X s : ByteArray) (hX : X.size ≤ 254) (hs : s.size ≤ 30) : (dataOf q X s).2.size ≤ 600 := by
  have k1 : (ByteArray.mk #[0]).size = 1 := rfl
  have k2 : (ByteArray.mk #[UInt8.ofNat s.size]).size = 1 := rfl
  unfold dataOf
  by_cases c0 : q = 0 ∨ q = 1
  · rw [if_pos c0]; simp only [ByteArray.size_extract]; omega
  rw [if_neg c0]
  by_cases c2 : q = 2
  · rw [if_pos c2]; simp only; omega
  rw [if_neg c2]
  by_cases c3 : q = 3
  · rw [if_pos c3]; simp only; omega
  rw [if_neg c3]
  by_cases c4 : q = 4
  · rw [if_pos c4]; simp only [ByteArray.size_append, ByteArray.size_extract, k1]; omega
  rw [if_neg c4]
  by_cases c5 : q = 5
  · rw [if_pos c5]; simp only [ByteArray.size_append, ByteArray.size_extract, k2]; omega
  rw [if_neg c5]
  by_cases c6 : q = 6
  · rw [if_pos c6]; simp only [ByteArray.size_extract]; omega
  rw [if_neg c6]; simp only [ByteArray.size_extract]; omega
theorem txtB_le (s : ByteArray) : (txtB s).size ≤ 30 := by unfold txtB; rw [ByteArray.size_extract]; omega
theorem recOf_data (a : ActT) : (recOf a).2.2.2.size ≤ 600 := by
  obtain ⟨_, -, h⟩ := nmB_labels a.2.2.2.1.2.2.2
  exact dataOf_le _ _ _ h (txtB_le _)
theorem rec_cname (a : ActT) (h : (recOf a).2.1 = 5) : ∃ LS, labelsOf (recOf a).2.2.2 = some LS ∧ (recOf a).2.2.2.size ≤ 254 := by
  have h1 := dataOf_cname _ _ _ h
  have : (recOf a).2.2.2 = nmB a.2.2.2.1.2.2.2 := h1
  rw [this]
  exact nmB_labels _
theorem recOf_name (a : ActT) : (recOf a).1.size ≤ 254 := (nmB_labels a.1.2.2.2).choose_spec.2
end Go.Proofs.YtpbbnpglcadimaaDoor
namespace Go.Proofs.YtpbbnpglcadimaaDoor
open Go.RowKit
set_option linter.unusedVariables false
set_option linter.unusedSimpArgs false
set_option maxRecDepth 20000
theorem dataOf_ty9 (q : Nat) (X s : ByteArray) : (dataOf q X s).1 < 65536 := by
  unfold dataOf
  (repeat' split) <;> first | decide | (simp; done) | omega
def fit9 (r : RecT) : Prop := (0 ≤ r.2.1 ∧ r.2.1 < 65536) ∧ r.1.size ≤ 100000 ∧ r.2.2.2.size ≤ 100000
theorem fit9_soa (o : ByteArray) (ho : o.size ≤ 254) (n : Nat) : fit9 (soaR o n) := by
  refine ⟨⟨by show (0 : Int) ≤ 6; decide, by show (6 : Int) < 65536; decide⟩, Nat.le_trans ho (by decide), ?_⟩
  have hl := nameZ_len [] (by simp)
  show (soaD n).size ≤ 100000
  unfold soaD
  rw [mk_size, dataL_len9]
  simp
  omega
theorem fit9_rec (a : ActT) : fit9 (recOf a) := ⟨⟨Int.natCast_nonneg _, by
  have := dataOf_ty9 (a.2.1.toNat % 8) (nmB a.2.2.2.1.2.2.2) (txtB a.2.2.2.2)
  show ((dataOf _ _ _).1 : Int) < 65536
  omega⟩, Nat.le_trans (recOf_name a) (by decide), Nat.le_trans (recOf_data a) (by decide)⟩
theorem underN_le (o s : ByteArray) (ho : o.size ≤ 254) : (underN o s).size ≤ 254 := by
  unfold underN
  split
  · rename_i h
    unfold joinOf at h ⊢
    split
    · rename_i h2
      show (s ++ o).size ≤ 254
      rw [ByteArray.size_append]; exact h2.2.2
    · rename_i h2
      rw [if_neg h2] at h; cases h
  · exact ho
theorem fit9_under (o : ByteArray) (ho : o.size ≤ 254) (s : Bool) (a : ActT) : fit9 (underR o s a) := by
  have h := fit9_rec a
  unfold underR
  split
  · split
    · exact fit9_soa o ho _
    · exact ⟨⟨by show (0 : Int) ≤ 16; decide, by show (16 : Int) < 65536; decide⟩, Nat.le_trans ho (by decide), by show (ByteArray.mk #[1, 120]).size ≤ 100000; decide⟩
  · exact ⟨h.1, Nat.le_trans (underN_le o _ ho) (by decide), h.2.2⟩
theorem fit9_unders (o : ByteArray) (ho : o.size ≤ 254) (s : Bool) (ds : List ActT) (most : Nat) : ∀ r ∈ undersOf o s ds most, fit9 r := by
  intro r hr
  unfold undersOf at hr
  obtain ⟨a, -, rfl⟩ := List.mem_map.1 hr
  exact fit9_under o ho s a
theorem originB_le (n : Nat) : (originB n).size ≤ 254 := by
  unfold originB
  rw [mk_size]
  exact nameZ_le _ (by intro z hz; simp at hz; omega)
theorem may_fun : ∃ m : RecT → Bool, ∀ r, fit9 r → ∀ w, Calls Tryd.prog 40 #[recV r] w fun e w' => e = .returned (.bool (m r)) ∧ Below w.heap.size w w' := by
  have key : ∀ r : RecT, ∃ q : Bool, fit9 r → ∀ w, Calls Tryd.prog 40 #[recV r] w fun e w' => e = .returned (.bool q) ∧ Below w.heap.size w w' := fun r => by
    by_cases h : fit9 r
    · obtain ⟨q, hq⟩ := mayrec_any r h.1 h.2.1 h.2.2
      exact ⟨q, fun _ => hq⟩
    · exact ⟨false, fun h' => absurd h' h⟩
  exact ⟨fun r => Classical.choose (key r), fun r => Classical.choose_spec (key r)⟩
end Go.Proofs.YtpbbnpglcadimaaDoor
namespace Go.Proofs.YtpbbnpglcadimaaDoor
open Go.RowKit
set_option linter.unusedVariables false
set_option linter.unusedSimpArgs false
set_option maxRecDepth 20000
/-- A row of acts: where it lies, how long it is, its room, what it holds. -/
abbrev RowA := Option Addr × Nat × Nat × List ActT
structure Rows9 (w : World) (A : Option Addr) (np : Nat) (rows : List RowA) : Prop where
  len : rows.length = np
  at_ : ∀ (i : Nat) (r : RowA), rows[i]? = some r → ∃ b off, A = some ⟨b, off, none⟩ ∧ b < w.heap.size ∧ w.cell? ⟨b, off + i, none⟩ = some (.slice r.1 r.2.1 r.2.2.1)
  acts : ∀ (i : Nat) (r : RowA), rows[i]? = some r → ActsAt w r.1 r.2.1 r.2.2.2 ∧ r.2.1 ≤ maxLen
theorem Rows9.below {w w' : World} {A : Option Addr} {np : Nat} {rows : List RowA} (h : Rows9 w A np rows) (hb : Below w.heap.size w w') : Rows9 w' A np rows := by
  refine ⟨h.len, fun i r hr => ?_, fun i r hr => ⟨(h.acts i r hr).1.below hb, (h.acts i r hr).2⟩⟩
  obtain ⟨b, off, hA, hlt, hc⟩ := h.at_ i r hr
  exact ⟨b, off, hA, Nat.lt_of_lt_of_le hlt hb.size, (hb.cell (p := ⟨b, off + i, none⟩) hlt).trans hc⟩
def rowAt (rows : List RowA) (i : Nat) : List ActT := (rows[i]?.map fun r => r.2.2.2).getD []
/-- A number, some further on. -/
def serP (fr k : Nat) : Nat := (fr + k) % 4294967296
def stepR (o : ByteArray) (fr : Nat) (rows : List RowA) (k : Nat) : List RecT :=
  [soaR o (serP fr k)] ++ undersOf o false (rowAt rows (2 * k)) 5 ++ [soaR o (serP fr (k + 1))] ++ undersOf o false (rowAt rows (2 * k + 1)) 5
def chainK (o : ByteArray) (fr : Nat) (rows : List RowA) : Nat → List RecT
  | 0 => []
  | k + 1 => chainK o fr rows k ++ stepR o fr rows k
/-- A chain of deltas. -/
def chainR (o : ByteArray) (fr : Nat) (rows : List RowA) (n : Nat) : List RecT := [soaR o (serP fr n)] ++ chainK o fr rows n ++ [soaR o (serP fr n)]
theorem stepR_len (o : ByteArray) (fr : Nat) (rows : List RowA) (k : Nat) : (stepR o fr rows k).length ≤ 12 := by
  unfold stepR
  simp only [List.length_append, List.length_cons, List.length_nil, undersOf_len]
  omega
theorem chainK_len (o : ByteArray) (fr : Nat) (rows : List RowA) : ∀ k, (chainK o fr rows k).length ≤ 12 * k
  | 0 => Nat.le_refl _
  | k + 1 => by
    have := chainK_len o fr rows k
    have := stepR_len o fr rows k
    unfold chainK
    rw [List.length_append]
    omega
theorem fit9_chain (o : ByteArray) (ho : o.size ≤ 254) (fr : Nat) (rows : List RowA) (n : Nat) : ∀ r ∈ chainR o fr rows n, fit9 r := by
  have hk : ∀ k, ∀ r ∈ chainK o fr rows k, fit9 r := by
    intro k
    induction k with
    | zero => intro r hr; cases hr
    | succ k ih =>
      intro r hr
      unfold chainK at hr
      rcases List.mem_append.1 hr with hr | hr
      · exact ih r hr
      · unfold stepR at hr
        simp only [List.mem_append, List.mem_singleton] at hr
        rcases hr with ((rfl | hr) | rfl) | hr
        · exact fit9_soa o ho _
        · exact fit9_unders o ho _ _ _ r hr
        · exact fit9_soa o ho _
        · exact fit9_unders o ho _ _ _ r hr
  intro r hr
  unfold chainR at hr
  simp only [List.mem_append, List.mem_singleton] at hr
  rcases hr with (rfl | hr) | rfl
  · exact fit9_soa o ho _
  · exact hk n r hr
  · exact fit9_soa o ho _
/-- A list that grows, and a box that stays, in another block. -/
structure CH (W : World) (gb : Nat) (cs : List Value) (v : Value) (n : Nat) (l : List Value) (w : World) : Prop where
  obm : OBM 4 W.heap.size W v n l w
  box : Cs w gb cs
  own : ∀ q, v.ownBlock = some q → gb < q
theorem CH.below {W w w' : World} {gb n : Nat} {cs l : List Value} {v : Value} (h : CH W gb cs v n l w) (hb : Below w.heap.size w w') : CH W gb cs v n l w' := ⟨h.obm.keep hb (Nat.le_refl _), h.box.below hb, h.own⟩
theorem CH.alloc {W w : World} {gb n : Nat} {cs l : List Value} {v : Value} (h : CH W gb cs v n l w) (o : Obj) : CH W gb cs v n l (w.alloc o) := h.below ((Below.refl _ _).alloc (Nat.le_refl _) _)
theorem CH.app {W w w' : World} {gb n n' : Nat} {cs l l' : List Value} {v v' : Value} (h : CH W gb cs v n l w) (q1 : OBM 4 W.heap.size W v' n' l' w') (q2 : w.heap.size ≤ w'.heap.size) (q3 : ∀ k, k < w.heap.size → some k ≠ v.ownBlock → w'.heap[k]? = w.heap[k]?) (q4 : v'.ownBlock = v.ownBlock ∨ v'.ownBlock = some w.heap.size) : CH W gb cs v' n' l' w' := by
  refine ⟨q1, h.box.block (q3 gb h.box.lt (fun e => by have := h.own gb e.symm; omega)) q2, fun q hq => ?_⟩
  rcases q4 with e | e
  · rw [e] at hq; exact h.own q hq
  · rw [e] at hq; injection hq with hq; have := h.box.lt; omega
theorem ch_len (o : ByteArray) (fr : Nat) (rows : List RowA) (k N : Nat) (hk : k < N) (hN : N ≤ 4) (a b : Nat) (ha : a ≤ 5) (hb : b ≤ 5) : 1 + (chainK o fr rows k).length + 1 ≤ 100 ∧ 1 + (chainK o fr rows k).length + 1 + a ≤ 100 ∧ 1 + (chainK o fr rows k).length + 1 + a + 1 ≤ 100 ∧ 1 + (chainK o fr rows k).length + 1 + a + 1 + b ≤ 100 := by
  have := chainK_len o fr rows k
  refine ⟨by omega, by omega, by omega, by omega⟩
theorem idx_facts (k K2 K3 N np : Nat) (h2 : K2 = 2 * k) (h3 : K3 = 2 * k + 1) (hk : k < N) (hN : N ≤ 4) (hnp : 2 * N ≤ np) : wrap64 (2 * (k : Int)) = (K2 : Int) ∧ IntKind.i64.wrap (2 * (k : Int)) = (K2 : Int) ∧ wrap64 ((K2 : Int) + 1) = (K3 : Int) ∧ IntKind.i64.wrap ((K2 : Int) + 1) = (K3 : Int) ∧ (K2 : Int) < np ∧ K2 < np ∧ (K3 : Int) < np ∧ K3 < np := by
  refine ⟨by unfold wrap64; omega, by rw [IntKind.wrap_i64]; omega, by unfold wrap64; omega, by rw [IntKind.wrap_i64]; omega, by omega, by omega, by omega, by omega⟩
theorem len_max {n : Nat} (h : n ≤ 100) : n ≤ maxLen ∧ n * 40 ≤ 140737488355328 := by unfold maxLen; omega
theorem obm_of_cs9 {B g : Nat} {W w : World} {a b c d : Value} (hb : Below B W w) (hs : B ≤ w.heap.size) (hg : B ≤ g) (h : Cs w g [a, b, c, d]) : OBM 4 B W (.slice (some ⟨g, 0, none⟩) 1 1) 1 [a, b, c, d] w := by
  refine ⟨hb, hs, rfl, .inr ⟨g, 1, rfl, hg, h.lt, Nat.le_refl _, by decide, fun j hj => ?_, fun j u hu => h.get j u hu⟩⟩
  have h1 := h.2 j (by simpa using hj)
  exact ⟨by rw [h1.1]; rfl, h1.2⟩
theorem serP_lt (fr k : Nat) : serP fr k < 4294967296 := Nat.mod_lt _ (by decide)
theorem serP_wrap (fr k : Nat) (hf : fr < 4294967296) (hk : k < 16) : IntKind.u32.wrap (k : Int) = (k : Int) ∧ IntKind.u32.wrap ((fr : Int) + (k : Int)) = ((serP fr k : Nat) : Int) ∧ IntKind.u32.wrap (((serP fr k : Nat) : Int) + 1) = ((serP fr (k + 1) : Nat) : Int) := by
  unfold serP
  refine ⟨?_, ?_, ?_⟩
  · show (k : Int) % 4294967296 = k; omega
  · show ((fr : Int) + k) % 4294967296 = _; omega
  · show ((((fr + k) % 4294967296 : Nat) : Int) + 1) % 4294967296 = _; omega
set_option maxHeartbeats 6400000 in
theorem chain_any (o : ByteArray) (fr : Nat) (A : Option Addr) (np cp : Nat) (rows : List RowA) (w : World) (h : Rows9 w A np rows) (hf : fr < 4294967296) (hob : o.size ≤ 254) (hnp : np ≤ 9223372036854775807) :
    Calls Tryd.prog 7 #[.string o, .int .u32 (fr : Nat), .slice A np cp] w fun e w' => ∃ v, e = .returned v ∧ OBM 4 w.heap.size w v (chainR o fr rows (min (np / 2) 4)).length (flatR (chainR o fr rows (min (np / 2) 4))) w' := by
  obtain ⟨N, hN⟩ : ∃ N, N = min (np / 2) 4 := ⟨_, rfl⟩
  rw [← hN]
  have hN4 : N ≤ 4 := by omega
  have hN2 : 2 * N ≤ np := by omega
  obtain ⟨i0, hi, hz0, hz1, hz2⟩ := info_parts4 rec_info
  have SO : Hid (∀ k w, Calls Tryd.prog 10 #[.string o, .int .u32 (serP fr k : Nat)] w fun e w' => e = .returned (.agg #[.string o, .int .u16 6, .int .u32 9, .string (soaD (serP fr k))]) ∧ Below w.heap.size w w') := Lib.hid (fun k w => soa9_any o (serP fr k) (serP_lt fr k) w)
  have HW := Lib.hid (fun k (hk : k < 16) => serP_wrap fr k hf hk)
  obtain ⟨DN, hDN⟩ : ∃ D, D = soaD (serP fr N) := ⟨_, rfl⟩
  have HDN := Lib.hid hDN
  have SN := SO.out N
  rw [← hDN] at SN
  have SN := Lib.hid SN
  have HH := Lib.hid h
  have HNN := Lib.hid (And.intro hN4 hN2)
  have hwN := (HW.out N (by omega)).1
  have hwN2 := (HW.out N (by omega)).2.1
  have hnd : (np : Int).tdiv 2 = ((np / 2 : Nat) : Int) := by rw [Int.tdiv_eq_ediv_of_nonneg (by omega)]; omega
  obtain ⟨HV, hHV⟩ : ∃ q, q = np / 2 := ⟨_, rfl⟩
  rw [← hHV] at hnd
  have hnd2 : (np : Int) / 2 = (HV : Int) := by omega
  have hmin1 : (if (4 : Int) < HV then (4 : Int) else (HV : Int)) = (N : Int) := by split <;> omega
  have hmin2 : (if 4 < HV then (4 : Int) else (HV : Int)) = (N : Int) := by split <;> omega
  clear h hDN hN4 hN2 hN hHV
  go_enter Tryd.func7, Tryd.ntmps7
  go_wp2_with fail
  refine (SN.out _).mono ?_
  rintro e wS ⟨rfl, hbS⟩
  have hcx := (Cs.new wS #[.string o, .int .u16 6, .int .u32 9, .string DN] 41 [.string o, .int .u16 6, .int .u32 9, .string DN]).alloc (.cells #[.string o, .int .u16 6, .int .u32 9, .string DN] 41)
  have hbx := (hbS.alloc hbS.size (.cells #[.string o, .int .u16 6, .int .u32 9, .string DN] 41)).alloc (Nat.le_trans hbS.size (by simp)) (.cells #[.string o, .int .u16 6, .int .u32 9, .string DN] 41)
  have hcy := Cs.new (wS.alloc (.cells #[.string o, .int .u16 6, .int .u32 9, .string DN] 41)) #[.string o, .int .u16 6, .int .u32 9, .string DN] 41 [.string o, .int .u16 6, .int .u32 9, .string DN]
  rw [show (wS.alloc (.cells #[.string o, .int .u16 6, .int .u32 9, .string DN] 41)).heap.size = wS.heap.size + 1 by simp] at hcy
  have HGS := Lib.hid hbS.size
  have H3 := Lib.hid (And.intro hcx (And.intro hcy hbx))
  clear hcx hcy hbx hbS
  go_upto_region 4 with fail
  obtain ⟨hcx, hcy, hbx⟩ := H3.out
  generalize (wS.alloc (.cells #[.string o, .int .u16 6, .int .u32 9, .string DN] 41)).alloc (.cells #[.string o, .int .u16 6, .int .u32 9, .string DN] 41) = wL at *
  obtain ⟨g9, hg9⟩ : ∃ g, g = wS.heap.size + 1 := ⟨_, rfl⟩
  obtain ⟨gb, hgb⟩ : ∃ g, g = wS.heap.size := ⟨_, rfl⟩
  rw [← hg9] at hcy ⊢
  rw [← hgb] at hcx ⊢
  have hgg : gb < g9 := by omega
  have hgw : w.heap.size ≤ g9 := by have := HGS.out; omega
  have X0 : Hid (CH w gb [.string o, .int .u16 6, .int .u32 9, .string DN] (.slice (some ⟨g9, 0, none⟩) 1 1) 1 [.string o, .int .u16 6, .int .u32 9, .string DN] wL) := Lib.hid ⟨obm_of_cs9 hbx hbx.size hgw hcy, hcx, fun q hq => by injection hq with hq; subst hq; exact hgg⟩
  clear hcx hcy hbx hg9 hgb hgg hgw H3 HGS
  go_wp2_with fail
  go_loopw [9, 10] (fun v9 vk wr => ∃ k : Nat, k ≤ N ∧ vk = .int .i64 (k : Nat) ∧ Hid (CH w gb [.string o, .int .u16 6, .int .u32 9, .string DN] v9 (1 + (chainK o fr rows k).length) ([.string o, .int .u16 6, .int .u32 9, .string DN] ++ flatR (chainK o fr rows k)) wr)) (fun _ vk _ => N - (intOf vk).toNat)
  case atStart => exact ⟨0, Nat.zero_le _, rfl, X0⟩
  case round =>
    obtain ⟨k, hk, rfl, HX⟩ := hrel
    by_cases hlt : k < N
    · have hlt' : (k : Int) < N := by omega
      have hn4 := HNN.out.1
      have hn2 := HNN.out.2
      obtain ⟨hwk1, hwk2, hwk3⟩ := HW.out k (by omega)
      obtain ⟨K2, hK2⟩ : ∃ q, q = 2 * k := ⟨_, rfl⟩
      obtain ⟨K3, hK3⟩ : ∃ q, q = 2 * k + 1 := ⟨_, rfl⟩
      obtain ⟨⟨A1, n1, c1, d1⟩, hr1⟩ : ∃ r, rows[K2]? = some r := ⟨_, List.getElem?_eq_getElem (by rw [HH.out.len]; omega)⟩
      obtain ⟨⟨A2, n2, c2, d2⟩, hr2⟩ : ∃ r, rows[K3]? = some r := ⟨_, List.getElem?_eq_getElem (by rw [HH.out.len]; omega)⟩
      obtain ⟨bb, off, rfl, hbb, hcl1⟩ := HH.out.at_ K2 _ hr1
      obtain ⟨_, _, hAe, _, hcl2⟩ := HH.out.at_ K3 _ hr2
      injection hAe with hAe; injection hAe with e1 e2; subst e1 e2
      have ac1 := HH.out.acts K2 _ hr1
      have ac2 := HH.out.acts K3 _ hr2
      obtain ⟨U1, hU1⟩ : ∃ U, U = undersOf o false d1 5 := ⟨_, rfl⟩
      obtain ⟨U2, hU2⟩ : ∃ U, U = undersOf o false d2 5 := ⟨_, rfl⟩
      have UN1 : Hid (∀ wx, Below w.heap.size w wx → Calls Tryd.prog 12 #[.string o, .slice A1 n1 c1, .int .i64 5, .bool false] wx fun e w' => ∃ v, e = .returned v ∧ OBM 4 wx.heap.size wx v U1.length (flatR U1) w') := Lib.hid (fun wx hb => by rw [hU1]; exact under_any o A1 n1 c1 5 false d1 wx (ac1.1.below hb) ac1.2 (by decide) (Nat.le_trans hob (by decide)))
      have UN2 : Hid (∀ wx, Below w.heap.size w wx → Calls Tryd.prog 12 #[.string o, .slice A2 n2 c2, .int .i64 5, .bool false] wx fun e w' => ∃ v, e = .returned v ∧ OBM 4 wx.heap.size wx v U2.length (flatR U2) w') := Lib.hid (fun wx hb => by rw [hU2]; exact under_any o A2 n2 c2 5 false d2 wx (ac2.1.below hb) ac2.2 (by decide) (Nat.le_trans hob (by decide)))
      have hKC1 : Hid (∀ wx, Below w.heap.size w wx → wx.cell? ⟨bb, off + K2, none⟩ = some (.slice A1 n1 c1)) := Lib.hid (fun wx hb => (hb.cell (p := ⟨bb, off + K2, none⟩) hbb).trans hcl1)
      have hKC2 : Hid (∀ wx, Below w.heap.size w wx → wx.cell? ⟨bb, off + K3, none⟩ = some (.slice A2 n2 c2)) := Lib.hid (fun wx hb => (hb.cell (p := ⟨bb, off + K3, none⟩) hbb).trans hcl2)
      have hst : chainK o fr rows (k + 1) = chainK o fr rows k ++ ([soaR o (serP fr k)] ++ U1 ++ [soaR o (serP fr (k + 1))] ++ U2) := by
        show chainK o fr rows k ++ stepR o fr rows k = _
        unfold stepR rowAt
        rw [← hK3, ← hK2, hr1, hr2, hU1, hU2]
        rfl
      obtain ⟨l1, l2, l3, l4⟩ := ch_len o fr rows k N hlt hn4 U1.length U2.length (by rw [hU1, undersOf_len]; omega) (by rw [hU2, undersOf_len]; omega)
      have LN1 := Lib.hid (len_max l1)
      have LN2 := Lib.hid (len_max l2)
      have LN3 := Lib.hid (len_max l3)
      have LN4 := Lib.hid (len_max l4)
      have S1C := SO.out k
      have S2C := SO.out (k + 1)
      obtain ⟨D1, hD1⟩ : ∃ D, D = soaD (serP fr k) := ⟨_, rfl⟩
      obtain ⟨D2, hD2⟩ : ∃ D, D = soaD (serP fr (k + 1)) := ⟨_, rfl⟩
      rw [← hD1] at S1C
      rw [← hD2] at S2C
      have hfl : flatR (chainK o fr rows (k + 1)) = flatR (chainK o fr rows k) ++ ([.string o, .int .u16 6, .int .u32 9, .string D1] ++ flatR U1 ++ [.string o, .int .u16 6, .int .u32 9, .string D2] ++ flatR U2) := by
        rw [hst, hD1, hD2]
        unfold flatR
        simp [recCells, soaR]
      have hln : (chainK o fr rows (k + 1)).length = (chainK o fr rows k).length + (1 + U1.length + 1 + U2.length) := by
        rw [hst]; simp; omega
      have HFL := Lib.hid hfl
      have HLN := Lib.hid hln
      obtain ⟨S1, hS1⟩ : ∃ q, q = serP fr k := ⟨_, rfl⟩
      obtain ⟨S2, hS2⟩ : ∃ q, q = serP fr (k + 1) := ⟨_, rfl⟩
      rw [← hS1] at S1C hwk2 hwk3
      rw [← hS2] at S2C hwk3
      have S1C := Lib.hid S1C
      have S2C := Lib.hid S2C
      obtain ⟨m1, m2, m3, m4, m5, m6, m7, m8⟩ := idx_facts k K2 K3 N np hK2 hK3 hlt hn4 hn2
      clear hK2 hK3 hr1 hr2 hbb hcl1 hcl2 ac1 ac2 hU1 hU2 hst l1 l2 l3 l4 hD1 hD2 hfl hln hS1 hS2 hn4 hn2
      go_wp2_with fail
      refine (S1C.out _).mono ?_
      rintro e waB ⟨rfl, hb⟩
      have hcB := Lib.hid ((HX.out.below hb).alloc (.cells #[.string o, .int .u16 6, .int .u32 9, .string D1] 41))
      have hSB : Hid (Src Tryd.prog 4 27 (.slice (some ⟨waB.heap.size, 0, none⟩) 1 1) 1 [.string o, .int .u16 6, .int .u32 9, .string D1] (waB.alloc (.cells #[.string o, .int .u16 6, .int .u32 9, .string D1] 41))) := by
        refine Lib.hid (Src.ofSlice _ Tryd.underlying27 _ 1 1 _ rfl ?_ (recCells_one (o, 6, 9, D1)))
        exact news_at waB #[.string o, .int .u16 6, .int .u32 9, .string D1] _
      have hoB := Lib.hid hcB.out.obm
      clear hb
      go_wp2_with (first | (at_builtin; go_loud (refine wpList_append_obm rfl _ _ 27 27 rfl 41 i0 _ 40 Tryd.underlying27 hi hz0 hz1 hz2 rfl hoB.out rfl rfl hSB.out rfl LN1.out.1 LN1.out.2 ?_)))
      intro vB wB q1 q2 q3 q4
      have XB := Lib.hid (hcB.out.app q1 (by simpa using q2) (fun k hk hne => q3 k (by simpa using hk) hne) (by simpa using q4))
      clear q1 q2 q3 q4 hoB hSB hcB
      have kc1 := hKC1.out wB XB.out.obm.bel
      go_wp2_with fail
      refine (UN1.out _ XB.out.obm.bel).mono ?_
      rintro e waC ⟨vCu, rfl, hu⟩
      obtain ⟨AC, CC, rfl, -, -, gC⟩ := hu.slice
      have hcC := Lib.hid (XB.out.below hu.bel)
      have hSC : Hid (Src Tryd.prog 4 27 (.slice AC U1.length CC) U1.length (flatR U1) waC) := Lib.hid (Sl.srcM Tryd.underlying27 hu.sl (fun e => (gC e).1) (flatR_one U1))
      have hoC := Lib.hid hcC.out.obm
      clear hu gC
      go_wp2_with (first | (at_builtin; go_loud (refine wpList_append_obm rfl _ _ 27 27 rfl 41 i0 _ 40 Tryd.underlying27 hi hz0 hz1 hz2 rfl hoC.out rfl rfl hSC.out (flatR_len U1) LN2.out.1 LN2.out.2 ?_)))
      intro vC wC q1 q2 q3 q4
      have XC := Lib.hid (hcC.out.app q1 q2 q3 q4)
      clear q1 q2 q3 q4 hoC hSC hcC
      clear kc1
      go_wp2_with fail
      refine (S2C.out _).mono ?_
      rintro e waD ⟨rfl, hb⟩
      have hcD := Lib.hid ((XC.out.below hb).alloc (.cells #[.string o, .int .u16 6, .int .u32 9, .string D2] 41))
      have hSD : Hid (Src Tryd.prog 4 27 (.slice (some ⟨waD.heap.size, 0, none⟩) 1 1) 1 [.string o, .int .u16 6, .int .u32 9, .string D2] (waD.alloc (.cells #[.string o, .int .u16 6, .int .u32 9, .string D2] 41))) := by
        refine Lib.hid (Src.ofSlice _ Tryd.underlying27 _ 1 1 _ rfl ?_ (recCells_one (o, 6, 9, D2)))
        exact news_at waD #[.string o, .int .u16 6, .int .u32 9, .string D2] _
      have hoD := Lib.hid hcD.out.obm
      clear hb
      go_wp2_with (first | (at_builtin; go_loud (refine wpList_append_obm rfl _ _ 27 27 rfl 41 i0 _ 40 Tryd.underlying27 hi hz0 hz1 hz2 rfl hoD.out rfl rfl hSD.out rfl LN3.out.1 LN3.out.2 ?_)))
      intro vD wD q1 q2 q3 q4
      have XD := Lib.hid (hcD.out.app q1 (by simpa using q2) (fun k hk hne => q3 k (by simpa using hk) hne) (by simpa using q4))
      clear q1 q2 q3 q4 hoD hSD hcD
      have kc2 := hKC2.out wD XD.out.obm.bel
      go_wp2_with fail
      refine (UN2.out _ XD.out.obm.bel).mono ?_
      rintro e waE ⟨vEu, rfl, hu⟩
      obtain ⟨AE, CE, rfl, -, -, gE⟩ := hu.slice
      have hcE := Lib.hid (XD.out.below hu.bel)
      have hSE : Hid (Src Tryd.prog 4 27 (.slice AE U2.length CE) U2.length (flatR U2) waE) := Lib.hid (Sl.srcM Tryd.underlying27 hu.sl (fun e => (gE e).1) (flatR_one U2))
      have hoE := Lib.hid hcE.out.obm
      clear hu gE
      go_wp2_with (first | (at_builtin; go_loud (refine wpList_append_obm rfl _ _ 27 27 rfl 41 i0 _ 40 Tryd.underlying27 hi hz0 hz1 hz2 rfl hoE.out rfl rfl hSE.out (flatR_len U2) LN4.out.1 LN4.out.2 ?_)))
      intro vE wE q1 q2 q3 q4
      have XE := Lib.hid (hcE.out.app q1 q2 q3 q4)
      clear q1 q2 q3 q4 hoE hSE hcE
      clear kc2
      go_wp2_with fail
      go_round
      case rel =>
        refine ⟨k + 1, hlt, by go_num, Lib.hid ?_⟩
        have h := XE.out
        rw [HFL.out, HLN.out]
        have e1 : 1 + ((chainK o fr rows k).length + (1 + U1.length + 1 + U2.length)) = 1 + (chainK o fr rows k).length + 1 + U1.length + 1 + U2.length := by omega
        rw [e1]
        simpa using h
      case measure => simp [intOf]; omega
    · have hlt' : ¬ (k : Int) < N := by omega
      obtain rfl : k = N := by omega
      have HRX := Lib.hid HX.out.box.range
      have hlen : 1 + (chainK o fr rows k).length + 1 ≤ 100 := by have := chainK_len o fr rows k; have := HNN.out.1; omega
      have LN := Lib.hid (len_max hlen)
      have hcF := Lib.hid (HX.out.alloc (.cells #[.string o, .int .u16 6, .int .u32 9, .string DN] 41))
      have hSF : Hid (Src Tryd.prog 4 27 (.slice (some ⟨wr.heap.size, 0, none⟩) 1 1) 1 [.string o, .int .u16 6, .int .u32 9, .string DN] (wr.alloc (.cells #[.string o, .int .u16 6, .int .u32 9, .string DN] 41))) := by
        refine Lib.hid (Src.ofSlice _ Tryd.underlying27 _ 1 1 _ rfl ?_ (recCells_one (o, 6, 9, DN)))
        exact news_at wr #[.string o, .int .u16 6, .int .u32 9, .string DN] _
      have hoF := Lib.hid hcF.out.obm
      clear hlen hlt
      go_wp2_with (first | (at_builtin; go_loud (refine wpList_append_obm rfl _ _ 27 27 rfl 41 i0 _ 40 Tryd.underlying27 hi hz0 hz1 hz2 rfl hoF.out rfl rfl hSF.out rfl LN.out.1 LN.out.2 ?_)) | refine wpList_load_mid rfl 41 _ rfl gb 0 rfl _ _ HRX.out Tryd.underlying41 rfl (by kernel_rfl) ?_)
      intro vF wF q1 q2 q3 q4
      have QF := Lib.hid q1
      clear q1 q2 q3 q4
      go_wp2_with fail
      go_ret
      have hl2 : (chainR o fr rows k).length = 1 + (chainK o fr rows k).length + 1 := by unfold chainR; simp; omega
      have hf2 : flatR (chainR o fr rows k) = [.string o, .int .u16 6, .int .u32 9, .string DN] ++ flatR (chainK o fr rows k) ++ [.string o, .int .u16 6, .int .u32 9, .string DN] := by
        unfold chainR flatR
        rw [HDN.out]
        simp [recCells, soaR]
      refine ⟨_, rfl, ?_⟩
      rw [hl2, hf2]
      exact QF.out
end Go.Proofs.YtpbbnpglcadimaaDoor
namespace Go.Proofs.YtpbbnpglcadimaaDoor
open Go.RowKit
set_option linter.unusedVariables false
theorem soaD_inj {m n : Nat} (hm : m < 4294967296) (hn : n < 4294967296) (h : soaD m = soaD n) : m = n := by
  have h2 : dataL (nameZ []) (nameZ []) [m, 10, 3, 40, 1] = dataL (nameZ []) (nameZ []) [n, 10, 3, 40, 1] := by
    have := congrArg (fun b : ByteArray => b.data.toList) h
    simpa [soaD] using this
  have hM : mayL (nameZ []) := by unfold mayL; decide +kernel
  have := (dataL_inj hM hM hM hM rfl rfl (by intro x hx; simp at hx; omega) (by intro x hx; simp at hx; omega) h2).2.2
  injection this
theorem eqB_soa (o : ByteArray) {m n : Nat} (hm : m < 4294967296) (hn : n < 4294967296) : eqB (soaR o m) (soaR o n) = decide (m = n) := by
  by_cases h : m = n
  · subst h; rw [eqB_refl, decide_eq_true rfl]
  · rw [decide_eq_false h]
    cases he : eqB (soaR o m) (soaR o n) with
    | false => rfl
    | true =>
      have := (eqB_iff _ _).1 he
      unfold soaR at this
      injection this with _ this
      injection this with _ this
      injection this with _ this
      exact absurd (soaD_inj hm hn this) h
theorem cntR_append (a : RecT) (l m : List RecT) : cntR a (l ++ m) = cntR a l + cntR a m := by
  unfold cntR
  rw [List.filter_append, List.length_append]
theorem cntR_soa (o : ByteArray) {m n : Nat} (hm : m < 4294967296) (hn : n < 4294967296) : cntR (soaR o n) [soaR o m] = if m = n then 1 else 0 := by
  unfold cntR
  rw [List.filter_cons, eqB_soa o hm hn]
  by_cases h : m = n <;> simp [h]
theorem underR_type (o : ByteArray) (a : ActT) : (underR o false a).2.1 ≠ 6 := by
  unfold underR
  by_cases h : ((recOf a).2.1 == 6) = true
  · rw [if_pos h, if_neg (by simp)]; show (16 : Int) ≠ 6; decide
  · rw [if_neg h]; simpa using h
theorem cntR_unders (o : ByteArray) (n : Nat) (ds : List ActT) (k : Nat) : cntR (soaR o n) (undersOf o false ds k) = 0 := by
  unfold cntR undersOf
  rw [List.length_eq_zero_iff, List.filter_eq_nil_iff]
  intro r hr
  obtain ⟨x, _, rfl⟩ := List.mem_map.1 hr
  intro he
  have := (eqB_iff _ _).1 he
  exact underR_type o x (by rw [this]; rfl)
theorem serP_ne (fr : Nat) {j k : Nat} (hj : j ≤ 4) (hk : k ≤ 4) : serP fr j = serP fr k ↔ j = k := by
  unfold serP; omega
theorem cntR_step (o : ByteArray) (fr : Nat) (rows : List RowA) (N k : Nat) (hN : N ≤ 4) (hk : k + 1 ≤ 4) : cntR (soaR o (serP fr N)) (stepR o fr rows k) = (if k = N then 1 else 0) + (if k + 1 = N then 1 else 0) := by
  unfold stepR
  rw [cntR_append, cntR_append, cntR_append, cntR_unders, cntR_unders, cntR_soa o (serP_lt _ _) (serP_lt _ _), cntR_soa o (serP_lt _ _) (serP_lt _ _)]
  simp only [serP_ne fr (show k ≤ 4 by omega) hN, serP_ne fr hk hN]
  omega
theorem cntR_chain (o : ByteArray) (fr : Nat) (rows : List RowA) (N : Nat) (hN : N ≤ 4) : ∀ k, k ≤ N → cntR (soaR o (serP fr N)) (chainK o fr rows k) = if k = N ∧ 0 < N then 1 else 0
  | 0, _ => by
    unfold chainK cntR
    by_cases h : 0 = N ∧ 0 < N
    · omega
    · rw [if_neg h]; rfl
  | k + 1, h => by
    unfold chainK
    rw [cntR_append, cntR_chain o fr rows N hN k (by omega), cntR_step o fr rows N k hN (by omega)]
    rw [if_neg (by omega), if_neg (by omega)]
    by_cases h2 : k + 1 = N
    · rw [if_pos h2, if_pos (by omega)]
    · rw [if_neg h2, if_neg (by omega)]
theorem chainK_first (o : ByteArray) (fr : Nat) (rows : List RowA) : ∀ k, 0 < k → ∃ t, chainK o fr rows k = soaR o (serP fr 0) :: t
  | 0, h => absurd h (by omega)
  | 1, _ => ⟨_, by unfold chainK chainK stepR; rfl⟩
  | k + 2, _ => by
    obtain ⟨t, ht⟩ := chainK_first o fr rows (k + 1) (by omega)
    refine ⟨t ++ stepR o fr rows (k + 1), ?_⟩
    rw [chainK, ht]; rfl
/-- The whole chain is all there. -/
theorem chain_done (o : ByteArray) (fr : Nat) (rows : List RowA) (N : Nat) (hN : N ≤ 4) : doneR (chainR o fr rows N) = true := by
  have hc : cntR (soaR o (serP fr N)) (chainR o fr rows N) = 2 + if 0 < N then 1 else 0 := by
    unfold chainR
    rw [cntR_append, cntR_append, cntR_chain o fr rows N hN N (Nat.le_refl _), cntR_soa o (serP_lt _ _) (serP_lt _ _), if_pos rfl]
    by_cases h : 0 < N <;> simp [h]
  rcases Nat.eq_zero_or_pos N with h0 | h0
  · subst h0
    unfold chainR chainK
    show (if (soaB _ && !(eqB _ _)) = true then _ else _) = true
    rw [eqB_refl]
    have h2 : cntR (soaR o (serP fr 0)) [soaR o (serP fr 0), soaR o (serP fr 0)] = 2 := hc
    simp [h2]
  · obtain ⟨t, ht⟩ := chainK_first o fr rows N h0
    rw [if_pos h0] at hc
    unfold chainR at hc ⊢
    rw [ht] at hc ⊢
    show (if (soaB _ && !(eqB _ _)) = true then decide (3 ≤ cntR _ _) else decide (2 ≤ cntR _ _)) = true
    have h3 : cntR (soaR o (serP fr N)) (soaR o (serP fr N) :: soaR o (serP fr 0) :: (t ++ [soaR o (serP fr N)])) = 3 := hc
    split <;> simp [h3]
/-- No beginning of it is. -/
theorem chain_part (o : ByteArray) (fr : Nat) (rows : List RowA) (N : Nat) (hN : N ≤ 4) (h0 : 0 < N) (k : Nat) (h2 : 2 ≤ k) (hk : k < (chainR o fr rows N).length) : doneR ((chainR o fr rows N).take k) = false := by
  obtain ⟨t, ht⟩ := chainK_first o fr rows N h0
  have hi : cntR (soaR o (serP fr N)) ([soaR o (serP fr N)] ++ chainK o fr rows N) = 2 := by
    rw [cntR_append, cntR_chain o fr rows N hN N (Nat.le_refl _), cntR_soa o (serP_lt _ _) (serP_lt _ _), if_pos rfl, if_pos ⟨rfl, h0⟩]
  have htk : (chainR o fr rows N).take k = ([soaR o (serP fr N)] ++ chainK o fr rows N).take k := by
    unfold chainR at hk ⊢
    rw [List.take_append_of_le_length]
    simp at hk ⊢
    omega
  have hle : cntR (soaR o (serP fr N)) (([soaR o (serP fr N)] ++ chainK o fr rows N).take k) ≤ 2 := by
    rw [← hi]
    unfold cntR
    exact ((List.take_sublist _ _).filter _).length_le
  rw [htk]
  rw [ht] at hle ⊢
  obtain ⟨j, rfl⟩ : ∃ j, k = j + 2 := ⟨k - 2, by omega⟩
  have e : ([soaR o (serP fr N)] ++ soaR o (serP fr 0) :: t).take (j + 2) = soaR o (serP fr N) :: soaR o (serP fr 0) :: t.take j := rfl
  rw [e] at hle ⊢
  show (if (soaB _ && !(eqB _ _)) = true then decide (3 ≤ cntR _ _) else decide (2 ≤ cntR _ _)) = false
  have hs : soaB (soaR o (serP fr 0)) = true := rfl
  rw [hs, eqB_soa o (serP_lt _ _) (serP_lt _ _), decide_eq_false (fun h => by have := (serP_ne fr (show 0 ≤ 4 by omega) hN).1 h; omega)]
  rw [if_pos (show (true && !false) = true from rfl)]
  exact decide_eq_false (by omega)
theorem chainR_len (o : ByteArray) (fr : Nat) (rows : List RowA) (N : Nat) (hN : N ≤ 4) : (chainR o fr rows N).length ≤ 50 := by
  have := chainK_len o fr rows N
  unfold chainR
  simp
  omega
end Go.Proofs.YtpbbnpglcadimaaDoor
namespace Go.Proofs.YtpbbnpglcadimaaDoor
open Go.RowKit
set_option linter.unusedVariables false
set_option linter.unusedSimpArgs false
set_option maxRecDepth 20000
/-- A block of zeros that was just laid, of which nothing is used yet. -/
theorem OBM.zeros {sz : Nat} (w : World) (cs : Array Value) (t : TypeId) (K : Nat) (hcs : cs.size = K * sz) (hK : K ≤ maxLen) :
    OBM sz w.heap.size w (.slice (some ⟨w.heap.size, 0, none⟩) 0 K) 0 [] (w.drew.alloc (.cells cs t)) := by
  refine ⟨((Below.refl w.heap.size w).drew).alloc (Nat.le_refl _) _, by simp, by simp, .inr ⟨w.heap.size, K, rfl, Nat.le_refl _, by simp, Nat.zero_le _, hK, fun j hj => ?_, fun j u hu => by simp at hu⟩⟩
  have hg : (w.drew.alloc (.cells cs t)).heap[w.heap.size]? = some (.cells cs t (0, 0)) := heap_alloc_new w.drew _
  refine ⟨?_, frozen_of_row _ _ j _ t hg⟩
  rw [cell_of_row _ _ j _ t (0, 0) hg, Array.getElem?_eq_getElem (by rw [hcs]; exact hj)]; rfl
theorem rec_zero_cells : ((Value.agg #[.string ⟨#[]⟩, .int .u16 0, .int .u32 0, .string ⟨#[]⟩]).cells).size = 4 := rfl
set_option maxHeartbeats 800000 in
theorem grow_any (n : Nat) (w : World) (hn : n ≤ 1000000) :
    Calls Tryd.prog 81 #[.slice none 0 0, .int .i64 (n : Nat)] w fun e w' => ∃ v, e = .returned v ∧ OBM 4 w.heap.size w v 0 [] w' := by
  obtain ⟨i0, hi, hz0, hz1, hz2⟩ := info_parts4 rec_info
  rcases Nat.eq_zero_or_pos n with rfl | hp
  · go_enter Tryd.func81, Tryd.ntmps81
    go_wp2_with fail
    go_ret
    exact ⟨_, rfl, OBM.start w⟩
  · have hpi : (0 : Int) < n := by omega
    have hni : ¬ (n : Int) < 0 := by omega
    have hbig : n * i0.bytes ≤ 281474976710656 := by rw [hz2]; omega
    have hr := Lib.hid (Lib.run_append_nil_zeros (P := Tryd.prog) w 49 3 49 41 i0 _ .i64 .i64 (by kernel_rfl) Tryd.underlying3 hi hz0 n hp (by rw [hz1]; decide) (by omega) hbig)
    have hge := grownCap_ge w n 0 41
    have hcm := grownCap_le_maxLen w n 0 41 (by unfold maxLen; omega)
    obtain ⟨K, hK⟩ : ∃ K, grownCap w n 0 41 = K := ⟨_, rfl⟩
    rw [hK] at hr hge hcm
    obtain ⟨cs, hcs⟩ : ∃ cs, Builtin.zeroCells (Value.agg #[.string ⟨#[]⟩, .int .u16 0, .int .u32 0, .string ⟨#[]⟩]).cells n ++ Builtin.zeroCells (Value.agg #[.string ⟨#[]⟩, .int .u16 0, .int .u32 0, .string ⟨#[]⟩]).cells (K - n) = cs := ⟨_, rfl⟩
    have hsz : cs.size = K * 4 := by
      rw [← hcs, Array.size_append, size_zeroCells, size_zeroCells, rec_zero_cells]
      omega
    rw [hcs] at hr
    have HS := Lib.hid (OBM.zeros (sz := 4) w cs 41 K hsz hcm)
    clear hK hcs hsz hz0 hz1 hz2 hbig
    go_enter Tryd.func81, Tryd.ntmps81
    go_wp2_with (at_builtin; go_loud (refine Lib.wpList_append_run _ rfl _ _ 49 3 rfl _ _ rfl rfl _ _ hr.out ?_))
    go_ret
    exact ⟨_, rfl, HS.out⟩
/-- A row of records among others. -/
abbrev RowR := Option Addr × Nat × Nat × List RecT
def rowRV (r : RowR) : Value := .slice r.1 r.2.1 r.2.2.1
structure RowROk (w : World) (r : RowR) : Prop where
  sl : Sl w w.heap.size 4 r.1 r.2.1 (flatR r.2.2.2)
  none_ : r.1 = none → r.2.1 = 0
  len : r.2.2.2.length = r.2.1
theorem RowROk.below {w w' : World} {r : RowR} (h : RowROk w r) (hb : Below w.heap.size w w') : RowROk w' r := ⟨(h.sl.below hb).more hb.size, h.none_, h.len⟩
def allR (rows : List RowR) : List RecT := rows.flatMap (·.2.2.2)
theorem allR_snoc {rows : List RowR} {k : Nat} {r : RowR} (h : rows[k]? = some r) : allR (rows.take (k + 1)) = allR (rows.take k) ++ r.2.2.2 := by
  unfold allR; rw [List.take_add_one, h]; simp
theorem allR_le (rows : List RowR) (k : Nat) : (allR (rows.take k)).length ≤ (allR rows).length := by
  have h : allR rows = allR (rows.take k) ++ allR (rows.drop k) := by unfold allR; rw [← List.flatMap_append, List.take_append_drop]
  rw [h, List.length_append]; omega
theorem flatR_append (a b : List RecT) : flatR (a ++ b) = flatR a ++ flatR b := by unfold flatR; simp
set_option maxHeartbeats 1600000 in
theorem concat_any (A : Option Addr) (n c : Nat) (rows : List RowR) (w : World) (h : Sl w w.heap.size 1 A n (rows.map rowRV)) (hn : n ≤ 1000000) (hok : ∀ r ∈ rows, RowROk w r) (hs : (allR rows).length ≤ 1000000) :
    Calls Tryd.prog 71 #[.slice A n c] w fun e w' => ∃ v, e = .returned v ∧ OBM 4 w.heap.size w v (allR rows).length (flatR (allR rows)) w' := by
  have hl : rows.length = n := by simpa using h.1
  obtain ⟨i0, hi, hz0, hz1, hz2⟩ := info_parts4 rec_info
  have H := Lib.hid h
  have HL := Lib.hid hl
  have HK := Lib.hid hok
  have HS := Lib.hid hs
  clear h hl hok hs
  go_enter Tryd.func71, Tryd.ntmps71
  go_wp2_with fail
  go_loop [3, 11] (fun s i => ∃ k m : Nat, k ≤ n ∧ i = .int .i64 k ∧ s = .int .i64 m ∧ Hid (m = (allR (rows.take k)).length) ∧ m ≤ 1000000) (fun _ i => n - (intOf i).toNat)
  case atStart => exact ⟨0, 0, Nat.zero_le _, rfl, rfl, Lib.hid (by simp [allR]), by omega⟩
  case round =>
    obtain ⟨k, m, hk, rfl, rfl, HM, hm⟩ := hrel
    by_cases hlt : k < n
    · have hlt' : (k : Int) < n := by omega
      obtain ⟨b, off, u, rfl, hb, hu, hc⟩ := H.out.at_ hlt
      obtain ⟨r, hr⟩ : ∃ x, rows[k]? = some x := ⟨_, List.getElem?_eq_getElem (by rw [HL.out]; exact hlt)⟩
      rw [List.getElem?_map, hr] at hu
      simp only [Option.map_some, Option.some.injEq] at hu
      subst hu
      unfold rowRV at hc
      have hlen := (HK.out r (List.mem_of_getElem? hr)).len
      obtain ⟨M, hM⟩ : ∃ M : Nat, M = m + r.2.1 := ⟨_, rfl⟩
      have HM2 : Hid (M = (allR (rows.take (k + 1))).length) := Lib.hid (by rw [allR_snoc hr, List.length_append, hM, HM.out, hlen])
      have hM6 : M ≤ 1000000 := by have := allR_le rows (k + 1); have := HS.out; have := HM2.out; omega
      have hsum : (m : Int) + (r.2.1 : Int) = (M : Int) := by omega
      have hMn : ¬ (M : Int) < 0 := by omega
      clear hr hlen hM
      go_wp2_with fail
      go_round
      case rel => exact ⟨k + 1, M, by omega, by go_num, rfl, HM2, hM6⟩
      case measure => simp [intOf]; omega
    · have hlt' : ¬ (k : Int) < n := by omega
      go_wp2_with fail
      refine (grow_any m w hm).mono ?_
      rintro e w1 ⟨v0, rfl, ho0⟩
      have HO0 := Lib.hid ho0
      clear ho0
      go_wp2_with fail
      go_loopw [6, 27] (fun v i wr => ∃ k : Nat, k ≤ n ∧ i = .int .i64 k ∧ Hid (OBM 4 w.heap.size w v (allR (rows.take k)).length (flatR (allR (rows.take k))) wr)) (fun _ i _ => n - (intOf i).toNat)
      case atStart => exact ⟨0, Nat.zero_le _, rfl, Lib.hid (by simpa [allR, flatR] using HO0.out)⟩
      case round =>
        obtain ⟨k, hk, rfl, HB⟩ := hrel
        by_cases hlt : k < n
        · have hlt' : (k : Int) < n := by omega
          obtain ⟨b, off, u, rfl, hb, hu, hc⟩ := ((H.out.below HB.out.bel).more HB.out.bel.size).at_ hlt
          obtain ⟨r, hr⟩ : ∃ x, rows[k]? = some x := ⟨_, List.getElem?_eq_getElem (by rw [HL.out]; exact hlt)⟩
          rw [List.getElem?_map, hr] at hu
          simp only [Option.map_some, Option.some.injEq] at hu
          subst hu
          unfold rowRV at hc
          have hR := (HK.out r (List.mem_of_getElem? hr)).below HB.out.bel
          have hS := Lib.hid (hR.sl.srcM (P := Tryd.prog) (c := r.2.2.1) (tx := 49) (e' := 41) (by kernel_rfl) hR.none_ (flatR_one _))
          have HAS := Lib.hid (allR_snoc hr)
          have hlen := hR.len
          have hle := allR_le rows (k + 1)
          have hs := HS.out
          have HB3 : Hid ((allR (rows.take k)).length + r.2.1 ≤ 1000000) := Lib.hid (by rw [HAS.out, List.length_append, hlen] at hle; omega)
          have HLEN := Lib.hid hR.sl.1
          have HLN := Lib.hid hlen
          clear hr hR hlen hle hs
          go_wp2_with (at_builtin; go_loud (refine wpList_append_obm rfl _ _ 49 49 rfl 41 i0 _ 40 (by kernel_rfl) hi hz0 hz1 hz2 rfl HB.out rfl rfl hS.out HLEN.out (by have := HB3.out; unfold maxLen; omega) (by have := HB3.out; omega) ?_))
          intro v' w' q1 q2 q3 q4
          clear q2 q3 q4
          have Q1 := Lib.hid q1
          clear q1
          go_wp2_with fail
          go_round
          case rel => exact ⟨k + 1, by omega, by go_num, Lib.hid (by rw [HAS.out, flatR_append, List.length_append, HLN.out]; exact Q1.out)⟩
          case measure => simp [intOf]; omega
        · have hlt' : ¬ (k : Int) < n := by omega
          go_wp2_with fail
          go_ret
          have := HB.out
          rw [List.take_of_length_le (by rw [HL.out]; omega)] at this
          exact ⟨_, rfl, this⟩
end Go.Proofs.YtpbbnpglcadimaaDoor
