import Derived.Test.YtfdjmdfaidiliaaGreatDoorLy
import Derived.Test.YtfdjmdfaidiliaaGreatDoorGenA
import Derived.Test.YtfdjmdfaidiliaaGreatDoorShaTab
import Derived.Test.YtfdjmdfaidiliaaGreatDoorSl
namespace Go.Proofs.YtfdjmdfaidiliaaGreatDoor
open Go.RowKit
set_option maxRecDepth 20000
def putR : List (BitVec 8) → Nat → Nat → List (BitVec 8)
  | l, 0, _ => l
  | l, k + 1, n => if n = 0 then l else putR (l.set k (BitVec.ofNat 8 n)) k (n / 256)
def putB (l : List (BitVec 8)) (n : Nat) : List (BitVec 8) := putR (l.set (l.length - 1) (BitVec.ofNat 8 (n * 8))) (l.length - 1) (n / 32)
theorem putR_zero (l : List (BitVec 8)) : ∀ k, putR l k 0 = l
  | 0 => rfl
  | k + 1 => by rw [putR, if_pos rfl]
theorem putR_step {l : List (BitVec 8)} {k n : Nat} (h : 0 < n) : putR l (k + 1) n = putR (l.set k (BitVec.ofNat 8 n)) k (n / 256) := by
  rw [putR, if_neg (by omega)]
theorem putR_len : ∀ (k : Nat) (l : List (BitVec 8)) (n : Nat), (putR l k n).length = l.length
  | 0, _, _ => rfl
  | k + 1, l, n => by
    rw [putR]; split
    · rfl
    · rw [putR_len k, List.length_set]
theorem putB_len (l : List (BitVec 8)) (n : Nat) : (putB l n).length = l.length := by unfold putB; rw [putR_len, List.length_set]
section
variable {w : World} {ρ : Operand → Value} {o : Oper} {t t' : TypeId} {x y : Operand}
theorem run_shli {n k : Nat} (ho : o.op = .binOp .shl t x y t') (hx : ρ x = .int .i64 (n : Int)) (hy : ρ y = .int .u64 (k : Int)) (hk : k ≤ 64) (hn : n * 2 ^ k < 9223372036854775808) : (execOp ρ o).run Tryz.prog w = .ok (.value (.int .i64 ((n * 2 ^ k : Nat) : Int))) w := by
  obtain ⟨dst, op, type, pos, after, guard⟩ := o
  subst ho
  have e : IntKind.i64.wrap ((n : Int) * 2 ^ k) = ((n * 2 ^ k : Nat) : Int) := by
    rw [show ((n : Int) * 2 ^ k) = ((n * 2 ^ k : Nat) : Int) by simp]; exact i64_fit (by omega) (by omega)
  generalize n * 2 ^ k = z at *
  have hk0 : (0 : Int) ≤ (k : Int) := by omega
  go_simp
  try exact e
end
structure PutI (w : World) (g m : Nat) (l : List (BitVec 8)) (u : World) : Prop where
  bl : Below g w u
  A : Arr g (l.map b8) u
  len : l.length = m
theorem PutI.cell {w u : World} {g m : Nat} {l : List (BitVec 8)} (h : PutI w g m l u) {i : Nat} (hi : i < m) : u.cell? ⟨g, i, none⟩ = some (b8 (l.getD i 0)) :=
  h.A.c i _ (qa5 b8 0 (by rw [h.len]; exact hi))
theorem PutI.set {w u : World} {g m : Nat} {l : List (BitVec 8)} (h : PutI w g m l u) {i : Nat} (hi : i < m) (v : BitVec 8) : PutI w g m (l.set i v) (u.setCell ⟨g, i, none⟩ (b8 v)) :=
  ⟨h.bl.setCell (p := ⟨g, i, none⟩) (Nat.le_refl _) _, by rw [← qbw]; exact h.A.set (by rw [List.length_map, h.len]; exact hi) _, by rw [List.length_set, h.len]⟩
set_option maxHeartbeats 1000000 in
theorem put_any (g n c : Nat) (l : List (BitVec 8)) (w : World) (hA : Arr g (l.map b8) w) (hl : 8 ≤ l.length) (hl2 : l.length ≤ 16777216) (hn : n < 1152921504606846976) :
    Calls Tryz.prog 109 #[.slice (some ⟨g, 0, none⟩) l.length c, .int .i64 (n : Int)] w fun e w' => ∃ v, e = .returned v ∧ (Arr g ((putB l n).map b8) w' ∧ Below g w w') := by
  have hI : Hid (PutI w g l.length l w) := Lib.hid ⟨Below.refl _ _, hA, rfl⟩
  clear hA
  go_enter Tryz.func109, Tryz.ntmps109
  go_upto_region 0 with fail; refine wp_region_lit ?_
  refine qaa (qaf (v := .slice (some _) _ _) rfl rfl) rfl ?_; (try simp only [Act.put, lyy])
  refine qaa (qch rfl Tryz.underlying24 rfl) rfl ?_; (try simp only [Act.put, lyy])
  refine qaa (qb6 rfl rfl rfl (by omega) (by omega)) rfl ?_; (try simp only [Act.put, lyy])
  rw [show ((l.length : Int) - 1) = ((l.length - 1 : Nat) : Int) by omega]
  refine qaa (qag (v := .int _ _) rfl rfl) rfl ?_; (try simp only [Act.put, lyy])
  refine qac ?_
  go_upto_region 1 with fail; refine wp_region_lit ?_
  refine qaa (qaf (v := .slice (some _) _ _) rfl rfl) rfl ?_; (try simp only [Act.put, lyy]); refine qaa (qaf (v := .int _ _) rfl rfl) rfl ?_; (try simp only [Act.put, lyy]); refine qaa (qaf (v := .int _ _) rfl rfl) rfl ?_; (try simp only [Act.put, lyy])
  refine qaa (run_shli (k := 3) rfl rfl rfl (by omega) (by omega)) rfl ?_; (try simp only [Act.put, lyy])
  refine qaa (run_cvi_8 rfl rfl) rfl ?_; (try simp only [Act.put, lyy])
  refine qaa (qa7 rfl Tryz.underlying24 (by kernel_rfl) rfl rfl (by omega)) rfl ?_; (try simp only [Act.put, lyy])
  rw [Nat.zero_add]
  refine qae (qcl rfl rfl rfl (hI.out.cell (i := l.length - 1) (by omega)) (hI.out.A.f _)) rfl rfl ?_
  refine qac ?_
  replace hI := Lib.hid (hI.out.set (i := l.length - 1) (by omega) (BitVec.ofNat 8 (n * 2 ^ 3)))
  have HB : Hid (putR (l.set (l.length - 1) (BitVec.ofNat 8 (n * 2 ^ 3))) (l.length - 1) (n / 2 ^ 5) = putB l n) := Lib.hid rfl
  generalize w.setCell ⟨g, l.length - 1, none⟩ (b8 (BitVec.ofNat 8 (n * 2 ^ 3))) = u0 at *
  generalize l.set (l.length - 1) (BitVec.ofNat 8 (n * 2 ^ 3)) = l0 at *
  generalize n * 2 ^ 3 = z at *
  go_upto_region 2 with fail; refine wp_region_lit ?_
  refine qaa (qaf (v := .int _ _) rfl rfl) rfl ?_; (try simp only [Act.put, lyy])
  refine qaa (run_shri (k := 5) rfl rfl rfl (by omega)) rfl ?_; (try simp only [Act.put, lyy])
  refine qaa (qag (v := .int _ _) rfl rfl) rfl ?_; (try simp only [Act.put, lyy])
  refine qac ?_
  have hlt : n / 2 ^ 5 < 256 ^ 7 := by omega
  generalize n / 2 ^ 5 = n0 at *
  go_wp2_with fail
  go_loopw [1, 4] (fun v1 v4 u => ∃ (N L m : Nat) (l' : List (BitVec 8)), v1 = .int .i64 (N : Int) ∧ v4 = .int .i64 (L : Int) ∧ N < 256 ^ m ∧ m ≤ L ∧ L < l.length ∧ putR l' L N = putB l n ∧ PutI w g l.length l' u) (fun v1 _ _ => (intOf v1).toNat)
  case atStart => exact ⟨n0, l.length - 1, 7, l0, rfl, rfl, hlt, by omega, by omega, HB.out, hI.out⟩
  case round =>
    obtain ⟨N, L, m, l', rfl, rfl, hm, hL, hL2, he, hJ⟩ := hrel
    replace hI := Lib.hid hJ
    replace HB := Lib.hid he
    clear hJ he hlt
    by_cases h0 : N = 0
    · subst h0
      have hk1 : ¬ ((0 : Int) < ((0 : Nat) : Int)) := by omega
      rw [putR_zero] at HB
      go_wp2_with fail
      refine bodyPost_end (results_none Tryz.results109 _ _ _) rfl ⟨⟨_, rfl⟩, ?_, hI.out.bl⟩
      rw [← HB.out]; exact hI.out.A
    · have hk1 : (0 : Int) < (N : Int) := by omega
      obtain ⟨m, rfl⟩ : ∃ i, m = i + 1 := ⟨m - 1, by rcases m with _ | m; (simp at hm; omega); rfl⟩
      obtain ⟨L, rfl⟩ : ∃ i, L = i + 1 := ⟨L - 1, by omega⟩
      rw [putR_step (by omega)] at HB
      go_upto_region 5 with fail; refine wp_region_lit ?_
      refine qaa (qaf (v := .int _ _) rfl rfl) rfl ?_; (try simp only [Act.put, lyy])
      refine qaa (qb6 rfl rfl rfl (by omega) (by omega)) rfl ?_; (try simp only [Act.put, lyy])
      rw [show (((L + 1 : Nat) : Int) - 1) = (L : Int) by omega]
      refine qaa (qag (v := .int _ _) rfl rfl) rfl ?_; (try simp only [Act.put, lyy])
      refine qac ?_
      go_upto_region 6 with fail; refine wp_region_lit ?_
      refine qaa (qaf (v := .slice (some _) _ _) rfl rfl) rfl ?_; (try simp only [Act.put, lyy]); refine qaa (qaf (v := .int _ _) rfl rfl) rfl ?_; (try simp only [Act.put, lyy]); refine qaa (qaf (v := .int _ _) rfl rfl) rfl ?_; (try simp only [Act.put, lyy])
      refine qaa (run_cvi_8 rfl rfl) rfl ?_; (try simp only [Act.put, lyy])
      refine qaa (qa7 rfl Tryz.underlying24 (by kernel_rfl) rfl rfl (by omega)) rfl ?_; (try simp only [Act.put, lyy])
      rw [Nat.zero_add]
      refine qae (qcl rfl rfl rfl (hI.out.cell (i := L) (by omega)) (hI.out.A.f _)) rfl rfl ?_
      refine qac ?_
      go_upto_region 4 with fail; refine wp_region_lit ?_
      refine qaa (qaf (v := .int _ _) rfl rfl) rfl ?_; (try simp only [Act.put, lyy])
      refine qaa (run_shri (k := 8) rfl rfl rfl (by omega)) rfl ?_; (try simp only [Act.put, lyy])
      refine qaa (qag (v := .int _ _) rfl rfl) rfl ?_; (try simp only [Act.put, lyy])
      refine qac ?_
      have h8 : N / 2 ^ 8 < 256 ^ m := by rw [Nat.pow_succ] at hm; omega
      have h9 : N / 2 ^ 8 < N := by omega
      have HB' : Hid (putR (l'.set L (BitVec.ofNat 8 N)) L (N / 2 ^ 8) = putB l n) := HB
      generalize N / 2 ^ 8 = N' at *
      go_wp2_with fail
      go_roundw
      case rel => exact ⟨N', L, m, _, rfl, rfl, h8, by omega, by omega, HB'.out, hI.out.set (by omega) _⟩
      case measure => simp [intOf]; omega
end Go.Proofs.YtfdjmdfaidiliaaGreatDoor
