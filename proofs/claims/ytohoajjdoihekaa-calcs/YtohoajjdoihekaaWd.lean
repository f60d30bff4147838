/-
  The walks of math/bits.Len64 (its own Go text), bitLength and bitAt: how long a number is, and its bits.
-/
import Derived.Test.YtohoajjdoihekaaRows
import Derived.Test.YtohoajjdoihekaaMem
import Derived.WalkKit
import Derived.WalkSpells
import Derived.WalkLawsBesides
import Derived.BigRegion
import Derived.Deep.RegionWith
import Derived.Deep.QuietTactic
import Derived.BigQuiet
import Derived.Lib.BitFns
set_option linter.unusedVariables false
set_option linter.unusedSimpArgs false
namespace Go.Proofs.Ytohoajjdoihekaa
open Go.RowKit
namespace cin
theorem tab_eq (y : Nat) (h : y < Lib.len8tab.size) : (Lib.len8tab[y].toNat) = Lib.bitLen y := by
  have hy : y < 256 := by rw [Lib.len8tab_size] at h; exact h
  have e := Lib.len8_of (y : Int) (by omega) (by omega)
  unfold Lib.len8 at e
  rw [Int.toNat_natCast, getElem?_pos Lib.len8tab y h, Option.getD_some] at e
  omega
theorem tab_close (s : Int) (s' : Nat) (y x : Int) (h : y.toNat < Lib.len8tab.size) (hs : s = s') (hs' : s' ≤ 56) (hx : Lib.bitLen x.toNat = s' + Lib.bitLen y.toNat) :
    wrap64 (s + wrap64 ((Lib.len8tab[y.toNat].toNat : Nat) : Int)) = (Lib.bitLen x.toNat : Int) := by
  have hy : y.toNat < 256 := by rw [Lib.len8tab_size] at h; exact h
  have hl := Lib.bitLen_le8 ⟨y.toNat, hy⟩
  simp only at hl
  rw [tab_eq _ h, hx, hs]
  unfold wrap64
  omega
theorem tab_close0 (x : Int) (h : x.toNat < Lib.len8tab.size) :
    wrap64 (wrap64 ((Lib.len8tab[x.toNat].toNat : Nat) : Int)) = (Lib.bitLen x.toNat : Int) := by
  have hy : x.toNat < 256 := by rw [Lib.len8tab_size] at h; exact h
  have hl := Lib.bitLen_le8 ⟨x.toNat, hy⟩
  simp only at hl
  rw [tab_eq _ h]
  unfold wrap64
  omega
set_option maxHeartbeats 4000000 in
set_option maxRecDepth 100000 in
theorem len64_any (x : Int) (w : World) (h0 : 0 ≤ x) (h1 : x ≤ 18446744073709551615) :
    Calls Try.prog 71 #[.int .u64 x] w fun e w' => e = .returned (.int .i64 (Lib.bitLen x.toNat)) ∧ w' = w := by
  have hsz : Lib.len8tab.size = 256 := by decide +kernel
  go_enter Try.func71, Try.ntmps71
  go_wp2
  all_goals (go_ret; refine ⟨congrArg Ending.returned (congrArg (Value.int IntKind.i64) ?_), rfl⟩)
  · exact tab_close 56 56 _ x _ rfl (by omega) (by rw [Lib.bitLen_shift56 x.toNat (by omega) (by omega), show (x / 4294967296 / 65536 / 256).toNat = x.toNat / 72057594037927936 by omega])
  · exact tab_close 48 48 _ x _ rfl (by omega) (by rw [Lib.bitLen_shift48 x.toNat (by omega) (by omega), show (x / 4294967296 / 65536).toNat = x.toNat / 281474976710656 by omega])
  · exact tab_close 40 40 _ x _ rfl (by omega) (by rw [Lib.bitLen_shift40 x.toNat (by omega) (by omega), show (x / 4294967296 / 256).toNat = x.toNat / 1099511627776 by omega])
  · exact tab_close 32 32 _ x _ rfl (by omega) (by rw [Lib.bitLen_shift32 x.toNat (by omega) (by omega), show (x / 4294967296).toNat = x.toNat / 4294967296 by omega])
  · exact tab_close 24 24 _ x _ rfl (by omega) (by rw [Lib.bitLen_shift24 x.toNat (by omega) (by omega), show (x / 65536 / 256).toNat = x.toNat / 16777216 by omega])
  · exact tab_close 16 16 _ x _ rfl (by omega) (by rw [Lib.bitLen_shift16 x.toNat (by omega) (by omega), show (x / 65536).toNat = x.toNat / 65536 by omega])
  · exact tab_close 8 8 _ x _ rfl (by omega) (by rw [Lib.bitLen_shift8 x.toNat (by omega) (by omega), show (x / 256).toNat = x.toNat / 256 by omega])
  · exact tab_close0 x _
theorem bitLen_pow : ∀ (f x : Nat), x < 2 ^ f → x < 2 ^ Lib.bitLenAux f x
  | 0, x, h => by simp at h; subst h; simp [Lib.bitLenAux]
  | f + 1, x, h => by
    unfold Lib.bitLenAux
    split
    · subst_vars; simp
    · have := bitLen_pow f (x / 2) (by rw [Nat.pow_succ] at h; omega)
      rw [Nat.pow_add]
      omega
theorem and_one (x : Nat) (h : x < 18446744073709551616) : bits .and .u64 (x : Int) 1 = ((x % 2 : Nat) : Int) := by
  have e := bits_and_u64_nat x 1 h (by omega)
  rw [Nat.and_one_is_mod] at e
  exact e
theorem bit_of_limb (N i : Nat) : limbN N (i / 64) / 2 ^ (i % 64) % 2 = N / 2 ^ i % 2 := by
  have h1 : (limbN N (i / 64) / 2 ^ (i % 64) % 2 = 1) ↔ (N / 2 ^ i % 2 = 1) := by
    have e1 := Nat.testBit_eq_decide_div_mod_eq (x := limbN N (i / 64)) (i := i % 64)
    have e2 := Nat.testBit_eq_decide_div_mod_eq (x := N) (i := i)
    have e3 : (limbN N (i / 64)).testBit (i % 64) = N.testBit i := by
      unfold limbN
      rw [pw64, Nat.testBit_mod_two_pow, Nat.testBit_div_two_pow, show i % 64 + 64 * (i / 64) = i by omega]
      simp [Nat.mod_lt i (show 64 > 0 by omega)]
    rw [e1, e2] at e3
    simpa using e3
  omega
theorem limb_div (N i : Nat) (k : Nat) : (limb N i) / 2 ^ k = ((limbN N i / 2 ^ k : Nat) : Int) := by
  rw [limb_eq, Int.natCast_ediv, Int.natCast_pow]; rfl
set_option maxHeartbeats 1000000 in
theorem bitAt_any (N n i b : Nat) (t : TypeId) (w : World) (hi : i < 64 * n) (hn : n ≤ 8) (hr : w.rowIs b t n (u64s (limb N))) :
    Calls Try.prog 65 #[.slice (some ⟨b, 0, none⟩) n n, .int .i64 (i : Int)] w fun e w' => e = .returned (.int .u64 ((N / 2 ^ i % 2 : Nat) : Int)) ∧ w' = w := by
  have c := hr.cell (i := i / 64) (by omega)
  simp only [u64s] at c
  go_enter Try.func65, Try.ntmps65
  go_wp2
  go_ret
  refine ⟨congrArg Ending.returned (congrArg (Value.int IntKind.u64) ?_), rfl⟩
  rw [limb_div, and_one _ (Nat.lt_of_le_of_lt (Nat.div_le_self _ _) (limbN_lt _ _)), bit_of_limb]
theorem ret_int {k : IntKind} {a b : Int} (h : a = b) : Ending.returned (.int k a) = .returned (.int k b) := by rw [h]
theorem len_down {N k : Nat} (hz : limb N k = 0) (h : N < 2 ^ (64 * (k + 1))) : N < 2 ^ (64 * k) := by
  rw [limb_eq] at hz
  have e := mod_step N k
  rw [Nat.mod_eq_of_lt h, show limbN N k = 0 by omega, Nat.zero_mul, Nat.add_zero] at e
  rw [e]
  exact Nat.mod_lt _ (Nat.two_pow_pos _)
theorem len_up {N k : Nat} (h : N < 2 ^ (64 * (k + 1))) : ∃ L : Nat, Lib.bitLen (limb N k).toNat = L ∧ L ≤ 64 ∧ N < 2 ^ (64 * k + L) := by
  refine ⟨_, rfl, Lib.bitLen_le _ 64 (by omega) ?_, ?_⟩
  · have := limb_hi N k; have := limb_lo N k; omega
  · rw [limb_eq, Int.toNat_natCast]
    have h1 : limbN N k < 2 ^ Lib.bitLen (limbN N k) := bitLen_pow 64 _ (limbN_lt N k)
    have e := mod_step N k
    rw [Nat.mod_eq_of_lt h] at e
    have h2 : N % 2 ^ (64 * k) < 2 ^ (64 * k) := Nat.mod_lt _ (Nat.two_pow_pos _)
    rw [Nat.pow_add]
    have h3 : (limbN N k + 1) * 2 ^ (64 * k) ≤ 2 ^ Lib.bitLen (limbN N k) * 2 ^ (64 * k) := Nat.mul_le_mul h1 (Nat.le_refl _)
    rw [Nat.add_mul, Nat.mul_comm (2 ^ Lib.bitLen (limbN N k))] at h3
    omega
set_option maxHeartbeats 1000000 in
theorem bitLength_any (N n b : Nat) (t : TypeId) (w : World) (hn : n ≤ 8) (hN : N < 2 ^ (64 * n)) (hr : w.rowIs b t n (u64s (limb N))) :
    Calls Try.prog 64 #[.slice (some ⟨b, 0, none⟩) n n] w fun e w' => ∃ L : Nat, L ≤ 64 * n ∧ N < 2 ^ L ∧ e = .returned (.int .i64 (L : Int)) ∧ w' = w := by
  go_enter Try.func64, Try.ntmps64
  go_wp2
  go_loop [3] (fun t3 => ∃ k : Nat, k ≤ n ∧ t3 = .int .i64 ((k : Int) - 1) ∧ N < 2 ^ (64 * k)) (fun t3 => (intOf t3 + 1).toNat)
  case atStart => exact ⟨n, Nat.le_refl _, by go_num, hN⟩
  case round =>
    obtain ⟨k, hk, rfl, hNk⟩ := hrel
    rcases Nat.eq_zero_or_pos k with rfl | hpos
    · go_wp2
      go_ret
      exact ⟨0, by omega, by simpa using hNk, rfl, rfl⟩
    · obtain ⟨k, rfl⟩ : ∃ k', k = k' + 1 := ⟨k - 1, by omega⟩
      clear hpos
      have ek : ((k + 1 : Nat) : Int) - 1 = (k : Int) := by omega
      rw [ek]
      have c := hr.cell (i := k) (by omega)
      have l1 := limb_lo N k
      have l2 := limb_hi N k
      simp only [u64s] at c
      by_cases hz : limb N k = 0
      · have hb : (limb N k != 0) = false := by rw [hz]; rfl
        have HZ : Hid (limb N k = 0) := hz
        clear hz
        go_wp2
        go_round
        case rel => exact ⟨k, by omega, by go_num, len_down HZ.out hNk⟩
        case measure => simp [intOf]
      · have hb : (limb N k != 0) = true := by simpa using hz
        clear hz
        go_wp2_with fail
        refine (len64_any (limb N k) _ l1 (by omega)).mono ?_
        rintro e w' ⟨rfl, rfl⟩
        obtain ⟨L, hL, hl1, hl2⟩ := len_up hNk
        rw [hL]
        have hx : L ≤ 64 := hl1
        clear hL
        go_wp2
        go_ret
        exact ⟨64 * k + L, by omega, hl2, ret_int (by omega), rfl⟩
end cin
end Go.Proofs.Ytohoajjdoihekaa
