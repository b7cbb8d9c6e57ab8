/- The contracts of package num: what each function returns, and that it turns nothing that was there. -/
import Derived.Test.YtkdknfedieeenaaGreatDoorRows
import Derived.Test.YtkdknfedieeenaaGreatDoorBase
import Derived.IntWalk
import Derived.Deep.DeepCutAuto
import Derived.Laws.BitsAllLaws
namespace Go.Proofs.YtkdknfedieeenaaGreatDoor
open Go.RowKit
set_option linter.unusedVariables false

/-- A number of two bytes as bytes, the high one first. -/
def b16 (n : Nat) : List UInt8 := [UInt8.ofNat (n / 256), UInt8.ofNat (n % 256)]
def b32 (n : Nat) : List UInt8 := [UInt8.ofNat (n / 16777216), UInt8.ofNat (n / 65536 % 256), UInt8.ofNat (n / 256 % 256), UInt8.ofNat (n % 256)]
def v16 (n : Nat) : Value := .int .u16 (n : Int)
def v32 (n : Nat) : Value := .int .u32 (n : Int)

theorem bv_ofNat (n : Nat) (h : n < 256) : bv (UInt8.ofNat n) = .int .u8 (n : Int) := by
  unfold bv
  rw [UInt8.toNat_ofNat_of_lt' (by simpa using h)]
theorem b16_vals (n : Nat) (h : n < 65536) : (b16 n).map bv = [.int .u8 ((n : Int) / 256), .int .u8 ((n : Int) % 256)] := by
  simp only [b16, List.map_cons, List.map_nil]
  rw [bv_ofNat _ (by omega), bv_ofNat _ (by omega)]
  simp
theorem b32_vals (n : Nat) (h : n < 4294967296) : (b32 n).map bv = [.int .u8 ((n : Int) / 16777216), .int .u8 ((n : Int) / 65536 % 256), .int .u8 ((n : Int) / 256 % 256), .int .u8 ((n : Int) % 256)] := by
  simp only [b32, List.map_cons, List.map_nil]
  rw [bv_ofNat _ (by omega), bv_ofNat _ (by omega), bv_ofNat _ (by omega), bv_ofNat _ (by omega)]
  simp

theorem num_info : (Tryz.prog.info? 5).map (fun i => (i.zero, i.size, i.bytes)) = some (some (.int .u8 0), 1, 1) := by kernel_rfl

/-- The number of two, of four bytes at a place. -/
def at8 (s : ByteArray) (a : Nat) : Nat := (s.data.toList.getD a 0).toNat
def n16 (s : ByteArray) (a : Nat) : Nat := at8 s a * 256 + at8 s (a + 1)
def n32 (s : ByteArray) (a : Nat) : Nat := at8 s a * 16777216 + at8 s (a + 1) * 65536 + at8 s (a + 2) * 256 + at8 s (a + 3)
theorem at8_eq (s : ByteArray) (a : Nat) (h : a < s.size) : at8 s a = s[a].toNat := by
  unfold at8
  have : a < s.data.toList.length := by simpa using h
  rw [List.getD_eq_getElem?_getD, List.getElem?_eq_getElem this]
  rfl
theorem at8_lt (s : ByteArray) (a : Nat) : at8 s a < 256 := UInt8.toNat_lt _
theorem or16 (x y : Nat) (hx : x < 256) (hy : y < 256) : bits .or .u16 (IntKind.u16.wrap (IntKind.u16.wrap (x : Int) * 256)) (IntKind.u16.wrap (y : Int)) = ((x * 256 + y : Nat) : Int) := by
  rw [IntKind.wrap_u16, IntKind.wrap_u16, IntKind.wrap_u16]
  rw [show (x : Int) % 65536 * 256 % 65536 = ((x * 256 : Nat) : Int) by omega, show (y : Int) % 65536 = (y : Int) by omega, u16_or_nat _ _ (by omega) (by omega), nat_join 8 _ _ (by omega) hy]
theorem or32 (x y z u : Nat) (hx : x < 256) (hy : y < 256) (hz : z < 256) (hu : u < 256) :
    bits .or .u32 (bits .or .u32 (bits .or .u32 (IntKind.u32.wrap (IntKind.u32.wrap (x : Int) * 16777216)) (IntKind.u32.wrap (IntKind.u32.wrap (y : Int) * 65536))) (IntKind.u32.wrap (IntKind.u32.wrap (z : Int) * 256))) (IntKind.u32.wrap (u : Int)) = ((x * 16777216 + y * 65536 + z * 256 + u : Nat) : Int) := by
  simp only [IntKind.wrap_u32']
  rw [show (x : Int) % 4294967296 * 16777216 % 4294967296 = ((x * 16777216 : Nat) : Int) by omega, show (y : Int) % 4294967296 * 65536 % 4294967296 = ((y * 65536 : Nat) : Int) by omega,
    show (z : Int) % 4294967296 * 256 % 4294967296 = ((z * 256 : Nat) : Int) by omega, show (u : Int) % 4294967296 = (u : Int) by omega,
    u32_or_nat _ _ (by omega) (by omega), nat_join 24 _ _ (by omega) (by omega), u32_or_nat _ _ (by omega) (by omega), nat_join 16 _ _ (by omega) (by omega), u32_or_nat _ _ (by omega) (by omega), nat_join 8 _ _ (by omega) (by omega)]
end Go.Proofs.YtkdknfedieeenaaGreatDoor
