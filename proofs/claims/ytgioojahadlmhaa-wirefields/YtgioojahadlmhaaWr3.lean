/- What keywardref10's text answers. -/
import Derived.Test.YtgioojahadlmhaaWr2
import Derived.Test.YtgioojahadlmhaaStr
import Derived.Laws.IdiomStrings
namespace Go.Proofs.Ytgioojahadlmhaa
open Go.RowKit
set_option maxRecDepth 20000

/-- A text's bytes. -/
def sbL (s : ByteArray) : List (BitVec 8) := s.data.toList.map fun b => b.toBitVec
theorem sbL_len (s : ByteArray) : (sbL s).length = s.size := by unfold sbL; rw [List.length_map]; rfl
theorem strOf_eq (l : List (BitVec 8)) : strOf l = ⟨(l.map UInt8.ofBitVec).toArray⟩ := by
  have h := foldl_push_byteCells (l.map UInt8.ofBitVec) ByteArray.empty
  have e : (l.map UInt8.ofBitVec).map (fun b => (b.toNat : Int)) = l.map fun x => (x.toNat : Int) := by rw [List.map_map]; rfl
  rw [e] at h
  unfold strOf
  rw [h, show ByteArray.empty.data = #[] from rfl, Array.empty_append]
theorem sbL_strOf (l : List (BitVec 8)) : sbL (strOf l) = l := by
  rw [strOf_eq]; unfold sbL
  simp only [List.map_map]
  conv => rhs; rw [← List.map_id l]
  exact List.map_congr_left fun x _ => rfl
theorem sb_row (w : World) (s : ByteArray) (cap : Nat) (e : TypeId) (m : Nat × Nat) (hc : s.size ≤ cap) : Tl w (.slice (some ⟨w.heap.size, 0, none⟩) s.size cap) (sbL s) (w.drew.alloc (.cells (bytesRow s cap) e m)) := by
  refine ⟨(Below.refl _ _).drew.alloc (Nat.le_refl _) _, ?_⟩
  refine ⟨_, cap, by rw [sbL_len], by rw [sbL_len]; exact hc, fun _ => ⟨w.heap.size, 0, rfl, by simp [World.alloc], fun j v hv => ?_⟩⟩
  rw [Nat.zero_add]
  have hcell : (w.drew.alloc (.cells (bytesRow s cap) e m)).cell? ⟨w.heap.size, j, none⟩ = (bytesRow s cap)[j]? := by
    have h1 : (w.drew.alloc (.cells (bytesRow s cap) e m)).heap[w.heap.size]? = some (.cells (bytesRow s cap) e m) := Array.getElem?_push_size
    simp only [World.cell?, h1]; rfl
  rw [hcell, bytesRow]
  rw [List.getElem?_map] at hv
  obtain ⟨x, hx, rfl⟩ := Option.map_eq_some_iff.1 hv
  unfold sbL at hx
  rw [List.getElem?_map] at hx
  obtain ⟨y, hy, rfl⟩ := Option.map_eq_some_iff.1 hx
  rw [Array.getElem?_toList] at hy
  rw [Array.getElem?_append_left (by rw [Array.size_map]; exact (Array.getElem?_eq_some_iff.1 hy).1), Array.getElem?_map, hy]
  rfl
section
variable {w : World} {ρ : Operand → Value} {o : Oper} {x y : Operand} {t t' : TypeId}
theorem run_lens {s : ByteArray} (ho : o.op = .call { callee := .builtin .len, args := #[x], argTypes := #[9] }) (hx : ρ x = .string s) : (execOp ρ o).run Try.prog w = .ok (.value (.int .i64 (s.size : Int))) w := by
  obtain ⟨dst, op, type, pos, after, guard⟩ := o
  subst ho
  have hu := Try.underlying9
  go_simp
theorem wpList_sb {ops : Array Oper} {Q : Exit → Act → World → Prop} {rest : List Oper} {a : Act} {s : ByteArray} (hg : o.guard = none) (ho : o.op = .convert 9 22 x) (hx : a.eval x = .string s)
    (h : ∀ c u, Tl w (.slice (some ⟨w.heap.size, 0, none⟩) s.size c) (sbL s) u → wpList Try.prog ops Q rest (a.put o.dst (.slice (some ⟨w.heap.size, 0, none⟩) s.size c)) u) : wpList Try.prog ops Q (o :: rest) a w := by
  have hr := run_bytes_of_string (P := Try.prog) w 9 22 5 s Try.underlying9 Try.underlying22 Try.underlying5
  refine wpList_val (v := .slice (some ⟨w.heap.size, 0, none⟩) s.size (grownCap w s.size 0 5)) (w' := w.drew.alloc (.cells (bytesRow s (grownCap w s.size 0 5)) 5 ((bytesRow s (grownCap w s.size 0 5)).size, (bytesRow s (grownCap w s.size 0 5)).size + 1))) ?_ hg (h _ _ (sb_row w s _ 5 _ (grownCap_ge w s.size 0 5)))
  unfold execOp
  simp only [ho, hx, Sem.run_bind, hr]
  simp [go_sem]
end
theorem enters_text10 : Enters 62 := enters_of Try.func62 (by kernel_rfl) rfl
set_option maxHeartbeats 4000000 in
theorem text10_any (s : ByteArray) (w : World) (hs : s.size ≤ 1000000) : Calls Try.prog 62 #[.string s] w fun e w' => ∃ v', e = .returned v' ∧ S5 w v' (viB (s.size : Int) ++ sbL s) w' := by
  have hvl := viB_len (s.size : Int)
  have hsl := sbL_len s
  have CN : Hid (∀ u : World, Calls Try.prog 58 #[.int .i64 (s.size : Int)] u fun e w' => ∃ v', e = .returned v' ∧ S5 u v' (viB (s.size : Int)) w') := Lib.hid fun u => number10_any _ u
  generalize viB (s.size : Int) = N at *
  generalize hB : sbL s = B at *
  have EB := Lib.hid hB
  clear hB
  go_enter Try.func62, Try.ntmps62
  go_upto_region 0 with fail; refine wp_region_lit ?_
  refine wpList_val (run_asg (v := .slice none 0 0) rfl rfl) rfl ?_; (try simp only [Act.put, List.setIfInBounds_toArray, List.set_cons_zero, List.set_cons_succ])
  refine wpList_end ?_
  go_upto_region 1 with fail; refine wp_region_lit ?_
  refine wpList_val (run_mv (v := .string s) rfl rfl) rfl ?_; (try simp only [Act.put, List.setIfInBounds_toArray, List.set_cons_zero, List.set_cons_succ])
  refine wpList_val (run_lens rfl rfl) rfl ?_; (try simp only [Act.put, List.setIfInBounds_toArray, List.set_cons_zero, List.set_cons_succ])
  refine wpList_callR (run_call1 enters_number10 rfl rfl rfl) rfl (CN.out _) (fun v1 a1 hR => ?_); (try simp only [Act.put, List.setIfInBounds_toArray, List.set_cons_zero, List.set_cons_succ])
  have H1 := Lib.hid hR.sl
  have bl := hR.bl
  clear hR
  refine wpList_val (run_mv (v := .string s) rfl rfl) rfl ?_; (try simp only [Act.put, List.setIfInBounds_toArray, List.set_cons_zero, List.set_cons_succ])
  refine wpList_sb rfl rfl rfl (fun c2 a2 h2 => ?_); (try simp only [Act.put, List.setIfInBounds_toArray, List.set_cons_zero, List.set_cons_succ])
  rw [EB.out] at h2
  have H2 := Lib.hid h2.s
  replace H1 := Lib.hid (H1.out.below h2.bl)
  replace bl := bl.trans (h2.bl.mono bl.size)
  clear h2
  generalize a1.heap.size = g2 at *
  obtain ⟨x1, c1, rfl, -, -⟩ := id H1.out
  have HC : Hid (Cat a2.heap.size [.slice x1 N.length c1, .slice (some ⟨g2, 0, none⟩) s.size c2] [N, B] (a2.alloc (.cells #[.slice x1 N.length c1, .slice (some ⟨g2, 0, none⟩) s.size c2] 22))) := Lib.hid (cat_row a2 _ [N, B] fun i hi => match i, hi with
    | 0, _ => ⟨_, rfl, H1.out⟩
    | 1, _ => ⟨_, rfl, H2.out⟩)
  have hb : Below a2.heap.size a2 (a2.alloc (.cells #[.slice x1 N.length c1, .slice (some ⟨g2, 0, none⟩) s.size c2] 22)) := (Below.refl _ _).alloc (Nat.le_refl _) _
  refine wpList_val (run_bsl (cells := #[.slice x1 N.length c1, .slice (some ⟨g2, 0, none⟩) s.size c2]) (z := .slice none 0 0) rfl Try.underlying122 (by kernel_rfl) (by omega) (by omega) (by kernel_rfl)) rfl ?_; (try simp only [Act.put, List.setIfInBounds_toArray, List.set_cons_zero, List.set_cons_succ])
  replace bl := bl.trans (hb.mono bl.size)
  clear hb
  generalize a2.alloc (.cells #[.slice x1 N.length c1, .slice (some ⟨g2, 0, none⟩) s.size c2] 22) = a3 at *
  generalize a2.heap.size = g3 at *
  refine wpList_callR (run_call1 enters_all10 rfl rfl rfl) rfl (all10_any g3 _ [N, B] 2 _ HC.out rfl (by omega) (by simp; omega)) (fun v4 a4 hR => ?_); (try simp only [Act.put, List.setIfInBounds_toArray, List.set_cons_zero, List.set_cons_succ])
  have hI : Hid (S5 w v4 (N ++ B) a4) := Lib.hid (by
    have h := hR.mono bl
    simpa using h)
  refine wpList_val (run_asg (v := v4) rfl rfl) rfl ?_; (try simp only [Act.put, List.setIfInBounds_toArray, List.set_cons_zero, List.set_cons_succ])
  refine wpList_end ?_
  go_wp2_with fail
  exact bodyPost_ret (results_tmp Try.results62 _ _ _) rfl ⟨_, rfl, hI.out⟩
end Go.Proofs.Ytgioojahadlmhaa
