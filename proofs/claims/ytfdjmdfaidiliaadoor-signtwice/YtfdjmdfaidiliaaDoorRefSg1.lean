/- What keywardref04's Slice and Key and keywardref09's halves and three answer. -/
import Derived.Test.YtfdjmdfaidiliaaDoorS5
import Derived.Test.YtfdjmdfaidiliaaDoorFlB
namespace Go.Proofs.YtfdjmdfaidiliaaDoor
open Go.RowKit
set_option maxRecDepth 20000

section
variable {P : Program} {w : World}
theorem append_where (base : Nat) (t ty e : TypeId) (i : TypeInfo) (z : Value) (size bytes : Nat) (ht : P.underlying t = some (.slice e)) (hi : P.info? e = some i) (hz : i.zero = some z)
    (hsize : i.size = size) (hby : i.bytes = bytes) (hzs : z.cells.size = size) (hsz : 0 < size)
    (v : Value) (n : Nat) (xs : List Value) (hown : w.ownsRow base e size v n xs)
    (a : Addr) (m c : Nat) (news : List Value) (hl : news.length = m * size) (hnews : ∀ j u, news[j]? = some u → w.cell? (a.add j) = some u) (h1 : ∀ u ∈ news, u.oneCell' = true)
    (h63 : n + m ≤ maxLen) (hbytes : (n + m) * bytes ≤ 140737488355328) (hm : 0 < m) {v' : Value} {w' : World}
    (hr : (Builtin.append_ #[t, t] ty #[v, .slice (some a) m c]).run P w = .ok v' w') : v'.ownBlock = v.ownBlock ∨ v'.ownBlock = some w.heap.size := by
  subst hsize
  subst hby
  have hsmall : n + m ≤ 9223372036854775807 := by simp only [maxLen] at h63; omega
  rcases hown.2 with ⟨rfl, rfl⟩ | ⟨g, cap, cur, rfl, hbg, hg, hnc, hcm, hcs, htake⟩
  · have hr' := run_append_nil (P := P) w t ty e i z ht hi hz a m c news hl hnews (by omega) (by omega) (by have hb := hbytes; simp only [Nat.zero_add] at hb; omega)
    rw [hr'] at hr
    injection hr with e1 _
    exact .inr (by rw [← e1]; rfl)
  · by_cases hroom : n + m ≤ cap
    · have hfit : n * i.size + news.length ≤ cur.size := by rw [hl, hcs, ← Nat.add_mul]; exact Nat.mul_le_mul_right _ hroom
      have hr' := run_append_room (P := P) w t ty e i ht hi g n cap cur hg a m c news hl hnews h1 hroom hfit
      rw [hr'] at hr
      injection hr with e1 _
      exact .inl (by rw [← e1]; rfl)
    · have holds : ∀ j u, xs[j]? = some u → w.cell? ((⟨g, 0, none⟩ : Addr).add j) = some u := hown.cells (g := g) rfl
      have hr' := run_append_grow (P := P) w t ty e i z ht hi hz ⟨g, 0, none⟩ n cap xs hown.1 holds a m c news hl hnews (by omega) (by omega) (growslice_fits (by omega) hbytes)
      rw [hr'] at hr
      injection hr with e1 _
      exact .inr (by rw [← e1]; rfl)
end
theorem Arr.same {g : Nat} {l : List Value} {w w' : World} (h : Arr g l w) (hs : w.heap.size ≤ w'.heap.size) (he : w'.heap[g]? = w.heap[g]?) : Arr g l w' :=
  ⟨Nat.lt_of_lt_of_le h.lt hs, fun i v hi => by have := h.c i v hi; simp only [World.cell?, he] at this ⊢; exact this, fun i => by have := h.f i; simp only [World.frozen?, he] at this ⊢; exact this⟩
/-- What stands by while a row grows. -/
def Stand (v : Value) (w : World) (v' : Value) (w' : World) : Prop := ∀ g l, Arr g l w → v.ownBlock ≠ some g → Arr g l w' ∧ v'.ownBlock ≠ some g
section
variable {w : World} {ops : Array Oper} {Q : Exit → Act → World → Prop} {o : Oper} {a : Act} {S : World → Prop}
theorem run_app_stand {s x : Operand} (ho : o.op = .call { callee := .builtin .append, args := #[s, x], argTypes := #[24, 24] })
    {base n c : Nat} {v : Value} {l m : List (BitVec 8)} {g off : Nat} (hs : a.eval s = v) (hown : w.ownsRow base 5 1 v n (l.map b8)) (hx : a.eval x = .slice (some ⟨g, off, none⟩) m.length c)
    (hA : w.rangeAt g off (m.map b8)) (hn : n + m.length ≤ 16777216) (hm : 0 < m.length) (hbase : base ≤ w.heap.size) :
    ∃ v' w', (execOp a.eval o).run Tryd.prog w = .ok (.value v') w' ∧ w'.ownsRow base 5 1 v' (n + m.length) ((l ++ m).map b8) ∧ Below base w w' ∧ Stand v w v' w' := by
  have hi : (Tryd.prog.info? 5).map (fun i => (i.size, i.bytes, i.zero)) = some (1, 1, some (.int .u8 0)) := by kernel_rfl
  obtain ⟨inf, h1, h2⟩ := Option.map_eq_some_iff.1 hi
  obtain ⟨e1, e2, e3⟩ : inf.size = 1 ∧ inf.bytes = 1 ∧ inf.zero = some (.int .u8 0) := by simpa using h2
  have hc : ∀ j u, (m.map b8)[j]? = some u → w.cell? ((⟨g, off, none⟩ : Addr).add j) = some u := fun j u hu => by rw [Addr.add_mid]; exact hA j u hu
  have h8 : ∀ u ∈ m.map b8, u.oneCell' = true := fun u hu => by rw [List.mem_map] at hu; obtain ⟨x, _, rfl⟩ := hu; rfl
  obtain ⟨v', w', hr, h3, h4, _⟩ := run_append_own (P := Tryd.prog) w base 24 o.type 5 inf (.int .u8 0) 1 1 Tryd.underlying24 h1 e3 e1 e2 rfl (by omega) v n (l.map b8) hown ⟨g, off, none⟩ m.length c (m.map b8) (by simp) hc h8
    (by unfold maxLen; omega) (by omega) hbase
  have hw := append_where (P := Tryd.prog) base 24 o.type 5 inf (.int .u8 0) 1 1 Tryd.underlying24 h1 e3 e1 e2 rfl (by omega) v n (l.map b8) hown ⟨g, off, none⟩ m.length c (m.map b8) (by simp) hc h8 (by unfold maxLen; omega) (by omega) hm hr
  refine ⟨v', w', ?_, by rw [List.map_append]; exact h3, below_grown h4 (own_lt hown) hbase, fun g' l' hA' hne => ⟨hA'.same h4.size (h4.block g' hA'.lt (fun e => hne e.symm)), fun he => ?_⟩⟩
  · unfold execOp
    simp [ho, resolve, invoke, builtin, hs, hx, hr, Result.andThen]
  · rcases hw with hw | hw
    · rw [hw] at he; exact hne he
    · rw [hw] at he
      injection he with he
      have := hA'.lt
      omega
theorem wpAnyD_appA {fuel : Nat} {listed : Array Bool} {s x : Operand} (i : Nat) {d : Tmp} (hr : Region.ready .any ops listed = [i]) (hoo : ops[i]? = some o) (hd : o.dst = some d) (hw : Region.wanted o (yielded ops a.tmps) = true) (hl : (listed.setIfInBounds i true).getD i false = true)
    (ho : o.op = .call { callee := .builtin .append, args := #[s, x], argTypes := #[24, 24] })
    {base n c : Nat} {v : Value} {l m : List (BitVec 8)} {g off : Nat} (hs : a.eval s = v) (hown : w.ownsRow base 5 1 v n (l.map b8)) (hx : a.eval x = .slice (some ⟨g, off, none⟩) m.length c)
    (hA : w.rangeAt g off (m.map b8)) (hn : n + m.length ≤ 16777216) (hm : 0 < m.length) (hbase : base ≤ w.heap.size)
    (h : ∀ v' w', w'.ownsRow base 5 1 v' (n + m.length) ((l ++ m).map b8) → Below base w w' → Stand v w v' w' → wpAnyL Tryd.prog ops Q (Till i S) fuel (listed.setIfInBounds i true) (a.put (some d) v') w') : wpAnyL Tryd.prog ops Q (Till i S) (fuel + 1) listed a w := by
  simp only [← hd] at h
  obtain ⟨v', w', hrun, h1, h2, h3⟩ := run_app_stand ho hs hown hx hA hn hm hbase
  refine ⟨fun e => (by rw [hr] at e; cases e), fun j hj => ?_⟩
  rw [hr] at hj
  obtain rfl : j = i := by simpa using hj
  simp only [wpOp, hoo, hw, if_true]
  refine .inl ?_
  unfold Oper.wp
  rw [hrun]
  exact ⟨.inl hl, h v' w' h1 h2 h3⟩
end
end Go.Proofs.YtfdjmdfaidiliaaDoor
namespace Go.Proofs.YtfdjmdfaidiliaaDoor
open Go.RowKit
set_option maxRecDepth 20000

/-- Their memory is not the same. -/
def Apart (v v2 : Value) : Prop := ∀ k, v.ownBlock = some k → v2.ownBlock ≠ some k
theorem Apart.symm {v v2 : Value} (h : Apart v v2) : Apart v2 v := fun k h1 h2 => h k h2 h1
theorem Apart.nil (v : Value) : Apart (.slice none 0 0) v := fun k h => by cases h
theorem apart_new {w u : World} {base e e' n n' : Nat} {size size' : Nat} {v v2 : Value} {xs ys : List Value} (h : w.ownsRow base e size v n xs) (h2 : u.ownsRow w.heap.size e' size' v2 n' ys) : Apart v v2 := fun k h1 h3 => by
  have := (h.lt k h1).2
  have := (h2.lt k h3).1
  omega
section
variable {w : World} {ops : Array Oper} {Q : Exit → Act → World → Prop} {rest : List Oper} {o : Oper} {a : Act}
/-- append to one of two. -/
theorem wpList_app2 {s x : Operand} (hg : o.guard = none) (ho : o.op = .call { callee := .builtin .append, args := #[s, x], argTypes := #[24, 24] })
    {base base2 n n2 c : Nat} {v v2 : Value} {l m l2 : List (BitVec 8)} {g : Nat} {off : Nat} (hs : a.eval s = v) (hown : w.ownsRow base 5 1 v n (l.map b8)) (hown2 : w.ownsRow base2 5 1 v2 n2 (l2.map b8)) (hap : Apart v v2) (hx : a.eval x = .slice (some ⟨g, off, none⟩) m.length c)
    (hA : w.rangeAt g off (m.map b8)) (hn : n + m.length ≤ 16777216) (hm : 0 < m.length) (hbase : base ≤ w.heap.size)
    (h : ∀ v' w', w'.ownsRow base 5 1 v' (n + m.length) ((l ++ m).map b8) → w'.ownsRow base2 5 1 v2 n2 (l2.map b8) → Apart v' v2 → Below base w w' → wpList Tryd.prog ops Q rest (a.put o.dst v') w') : wpList Tryd.prog ops Q (o :: rest) a w := by
  have hi : (Tryd.prog.info? 5).map (fun i => (i.size, i.bytes, i.zero)) = some (1, 1, some (.int .u8 0)) := by kernel_rfl
  obtain ⟨inf, h1, h2⟩ := Option.map_eq_some_iff.1 hi
  obtain ⟨e1, e2, e3⟩ : inf.size = 1 ∧ inf.bytes = 1 ∧ inf.zero = some (.int .u8 0) := by simpa using h2
  have hc : ∀ j u, (m.map b8)[j]? = some u → w.cell? ((⟨g, off, none⟩ : Addr).add j) = some u := fun j u hu => by rw [Addr.add_mid]; exact hA j u hu
  have h8 : ∀ u ∈ m.map b8, u.oneCell' = true := fun u hu => by rw [List.mem_map] at hu; obtain ⟨x, _, rfl⟩ := hu; rfl
  obtain ⟨v', w', hr, h3, h4, _⟩ := run_append_own (P := Tryd.prog) w base 24 o.type 5 inf (.int .u8 0) 1 1 Tryd.underlying24 h1 e3 e1 e2 rfl (by omega) v n (l.map b8) hown ⟨g, off, none⟩ m.length c (m.map b8) (by simp) hc h8
    (by unfold maxLen; omega) (by omega) hbase
  have hw := append_where (P := Tryd.prog) base 24 o.type 5 inf (.int .u8 0) 1 1 Tryd.underlying24 h1 e3 e1 e2 rfl (by omega) v n (l.map b8) hown ⟨g, off, none⟩ m.length c (m.map b8) (by simp) hc h8 (by unfold maxLen; omega) (by omega) hm hr
  refine wpList_val (v := v') (w' := w') ?_ hg (h v' w' (by rw [List.map_append]; exact h3) ?_ ?_ (below_grown h4 (own_lt hown) hbase))
  · unfold execOp
    simp [ho, resolve, invoke, builtin, hs, hx, hr, Result.andThen]
  · refine hown2.kept h4 ?_
    cases hv : v2.ownBlock with
    | none => exact .inl rfl
    | some k => exact .inr fun he => hap k he.symm hv
  · intro k hk
    rcases hw with hw | hw
    · rw [hw] at hk; exact hap k hk
    · rw [hw] at hk
      injection hk with hk
      intro hk2
      have := (hown2.lt k hk2).2
      omega
end
end Go.Proofs.YtfdjmdfaidiliaaDoor
namespace Go.Proofs.YtfdjmdfaidiliaaDoor
open Go.RowKit
set_option maxRecDepth 20000

/-- Two halves grow in turn. -/
structure HvR (r : World) (s : List (BitVec 8)) (n : Nat) (v v2 : Value) (u : World) : Prop where
  bl : Below r.heap.size r u
  O : u.ownsRow r.heap.size 5 1 v n ((s.take n).map b8)
  O2 : u.ownsRow r.heap.size 5 1 v2 n (((s.drop 32).take n).map b8)
  ap : Apart v v2
theorem HvR.below {r u u' : World} {s : List (BitVec 8)} {n : Nat} {v v2 : Value} (i : HvR r s n v v2 u) (hb : Below u.heap.size u u') : HvR r s n v v2 u' :=
  ⟨i.bl.trans (hb.mono i.bl.size), own_below i.O hb, own_below i.O2 hb, i.ap⟩
theorem half_snoc {s : List (BitVec 8)} {n : Nat} (h : n + 32 < s.length) : (s.drop 32).take (n + 1) = (s.drop 32).take n ++ [s.getD (32 + n) 0] := by
  rw [take_snoc8 (s.drop 32) n (by rw [List.length_drop]; omega)]
  simp [List.getD_eq_getElem?_getD]
end Go.Proofs.YtfdjmdfaidiliaaDoor
namespace Go.Proofs.YtfdjmdfaidiliaaDoor
open Go.RowKit
set_option maxRecDepth 20000

theorem enters_rkeyG : Enters 9 := enters_of Tryd.func9 (by kernel_rfl) rfl
set_option maxHeartbeats 4000000 in
theorem rkeyG_any (v : Value) (l : List (BitVec 8)) (w : World) (hv : Sl v l w) (hl : l.length = 32) :
    Calls Tryd.prog 9 #[v] w fun e w' => e = .returned (.agg (l.map b8).toArray) ∧ Below w.heap.size w w' := by
  obtain ⟨g, f, c, rfl, hg, hr⟩ := hv.adr (by omega)
  rw [hl]
  have HC : Hid (∀ (V : World) (L : List (Nat × List Value)), Mv w L V → ∀ k, k < 32 → V.cell? ⟨g, f + k, none⟩ = some (b8 (l.getD k 0))) := Lib.hid fun V L hV k hk => rangeAt_below hr hg hV.bl _ _ (get_map b8 0 (by omega))
  clear hr hv
  have SL := Lib.hid (szKy hl)
  have LL : Hid ((l.map b8).length = (z8 32).length) := Lib.hid (by rw [z8_32, List.length_map, hl])
  have BZ : Hid (Tryd.prog.built 23 [] = some (z8 32).toArray) := Lib.hid (by kernel_rfl)
  have hM := Lib.hid (Mv.nil w)
  go_enter Tryd.func9, Tryd.ntmps9
  go_upto_region 0 with fail; refine wp_region_lit ?_
  refine wpList_val (run_alc (vs := z8 32) rfl (by kernel_rfl)) rfl ?_; (try simp only [Act.put, List.setIfInBounds_toArray, List.set_cons_zero, List.set_cons_succ]); replace hM := Lib.hid (hM.out.new (z8 32) 23); generalize w.alloc (.cells (z8 32).toArray 23) = a1 at *; generalize w.heap.size = g1 at *
  refine wpList_end ?_
  go_upto_region 1 with fail; refine wp_region_lit ?_
  refine wpList_val (run_bld (cells := (z8 32).toArray) rfl (by simpa using BZ.out)) rfl ?_; (try simp only [Act.put, List.setIfInBounds_toArray, List.set_cons_zero, List.set_cons_succ])
  refine wpList_val (run_alc (vs := z8 32) rfl (by kernel_rfl)) rfl ?_; (try simp only [Act.put, List.setIfInBounds_toArray, List.set_cons_zero, List.set_cons_succ]); replace hM := Lib.hid (hM.out.new (z8 32) 23); generalize a1.alloc (.cells (z8 32).toArray 23) = a2 at *; generalize a1.heap.size = g2 at *
  refine wpList_skip (run_stM (vs := z8 32) rfl szZ rfl rfl (one8s (List.replicate 32 0)) (by rw [(rfl : (z8 32).length = (z8 32).length)]; exact (hM.out.get (i := 0) rfl).there)) rfl rfl ?_; replace hM := Lib.hid (hM.out.put 0 rfl (m := z8 32) ((rfl : (z8 32).length = (z8 32).length)))
  refine wpList_end ?_
  generalize a2.setCells g2 0 (z8 32) = a3 at *
  go_upto_region 2 with fail; refine wp_region_lit ?_
  refine wpList_val (run_asg (v := .int _ _) rfl rfl) rfl ?_; (try simp only [Act.put, List.setIfInBounds_toArray, List.set_cons_zero, List.set_cons_succ])
  refine wpList_end ?_
  go_wp2_with fail
  go_loopw [4] (fun s u => ∃ n : Nat, n ≤ 32 ∧ s = .int .i64 (n : Int) ∧ Mv w [(g2, (flB l n).map b8), (g1, z8 32)] u) (fun s _ => (32 - intOf s).toNat)
  case atStart => exact ⟨0, by omega, rfl, by rw [flB_zero]; exact hM.out⟩
  case round =>
    obtain ⟨n, hn, rfl, hJ⟩ := hrel
    replace hM := Lib.hid hJ
    clear hJ
    go_upto_region 3 with fail; refine wp_region_lit ?_
    refine wpList_val (run_mv (v := .int _ _) rfl rfl) rfl ?_; (try simp only [Act.put, List.setIfInBounds_toArray, List.set_cons_zero, List.set_cons_succ])
    by_cases hlt : n = 32
    · subst hlt
      rw [flB_all hl] at hM
      refine wpList_val (run_lssb (c := false) rfl rfl rfl (decide_eq_false (by omega))) rfl ?_; (try simp only [Act.put, List.setIfInBounds_toArray, List.set_cons_zero, List.set_cons_succ])
      refine wpList_val (run_mv (v := .bool false) rfl rfl) rfl ?_; (try simp only [Act.put, List.setIfInBounds_toArray, List.set_cons_zero, List.set_cons_succ])
      refine wpList_pass rfl ?_; (try simp only [Act.put, List.setIfInBounds_toArray, List.set_cons_zero, List.set_cons_succ])
      refine wpList_pass rfl ?_; (try simp only [Act.put, List.setIfInBounds_toArray, List.set_cons_zero, List.set_cons_succ])
      refine wpList_pass rfl ?_; (try simp only [Act.put, List.setIfInBounds_toArray, List.set_cons_zero, List.set_cons_succ])
      refine wpList_pass rfl ?_; (try simp only [Act.put, List.setIfInBounds_toArray, List.set_cons_zero, List.set_cons_succ])
      refine wpList_val (run_pick (b := false) (v := .bool false) rfl rfl rfl) rfl ?_; (try simp only [Act.put, List.setIfInBounds_toArray, List.set_cons_zero, List.set_cons_succ])
      refine wpList_end ?_
      go_upto_region 6 with fail; refine wp_region_lit ?_
      refine wpList_val (run_ldM (vs := l.map b8) rfl Tryd.underlying23 rfl SL.out rfl ((hM.out.get (i := 0) rfl).range)) rfl ?_; (try simp only [Act.put, List.setIfInBounds_toArray, List.set_cons_zero, List.set_cons_succ])
      refine wpList_skip (run_stM (vs := l.map b8) rfl SL.out rfl rfl (one8s _) (by rw [LL.out]; exact (hM.out.get (i := 1) rfl).there)) rfl rfl ?_; replace hM := Lib.hid (hM.out.put 1 rfl (m := l.map b8) (LL.out))
      refine wpList_end ?_; go_wp2_with fail; refine bodyPost_ret (v := .agg (l.map b8).toArray) (results_rowB Tryd.results9 rfl Tryd.underlying23 rfl SL.out (hM.out.get (i := 1) rfl).range) rfl ⟨rfl, hM.out.bl⟩
    · have hn2 : n < 32 := by omega
      have FS := Lib.hid (flB_set hl (n := n) hn2)
      have FL : Hid (n < ((flB l n).map b8).length) := Lib.hid (by rw [List.length_map, flB_len hl hn]; omega)
      have HG := Lib.hid (get_map b8 0 (l := flB l n) (i := n) (by rw [flB_len hl hn]; omega))
      refine wpList_val (run_lssb (c := true) rfl rfl rfl (decide_eq_true (by omega))) rfl ?_; (try simp only [Act.put, List.setIfInBounds_toArray, List.set_cons_zero, List.set_cons_succ])
      refine wpList_val (run_mv (v := .bool true) rfl rfl) rfl ?_; (try simp only [Act.put, List.setIfInBounds_toArray, List.set_cons_zero, List.set_cons_succ])
      refine wpList_valG (run_mv (v := .int _ _) rfl rfl) rfl ?_; (try simp only [Act.put, List.setIfInBounds_toArray, List.set_cons_zero, List.set_cons_succ])
      refine wpList_valG (run_mv (v := .slice (some _) _ _) rfl rfl) rfl ?_; (try simp only [Act.put, List.setIfInBounds_toArray, List.set_cons_zero, List.set_cons_succ])
      refine wpList_valG (run_len rfl Tryd.underlying24 rfl) rfl ?_; (try simp only [Act.put, List.setIfInBounds_toArray, List.set_cons_zero, List.set_cons_succ])
      refine wpList_valG (run_lssb (c := true) rfl rfl rfl (decide_eq_true (by omega))) rfl ?_; (try simp only [Act.put, List.setIfInBounds_toArray, List.set_cons_zero, List.set_cons_succ])
      refine wpList_val (run_pick (b := true) (v := .bool true) rfl rfl rfl) rfl ?_; (try simp only [Act.put, List.setIfInBounds_toArray, List.set_cons_zero, List.set_cons_succ])
      refine wpList_end ?_
      go_upto_region 5 with fail; refine wp_region_lit ?_
      refine wpList_val (run_mv (v := .int _ _) rfl rfl) rfl ?_; (try simp only [Act.put, List.setIfInBounds_toArray, List.set_cons_zero, List.set_cons_succ]); refine wpList_val (run_mv (v := .slice (some _) _ _) rfl rfl) rfl ?_; (try simp only [Act.put, List.setIfInBounds_toArray, List.set_cons_zero, List.set_cons_succ]); refine wpList_val (run_mv (v := .int _ _) rfl rfl) rfl ?_; (try simp only [Act.put, List.setIfInBounds_toArray, List.set_cons_zero, List.set_cons_succ])
      refine wpList_val (run_ixs (i := n) rfl Tryd.underlying24 (by kernel_rfl) rfl rfl (by omega)) rfl ?_; (try simp only [Act.put, List.setIfInBounds_toArray, List.set_cons_zero, List.set_cons_succ])
      refine wpList_val (run_ld8 rfl rfl (HC.out _ _ hM.out n hn2)) rfl ?_; (try simp only [Act.put, List.setIfInBounds_toArray, List.set_cons_zero, List.set_cons_succ])
      refine wpList_val (run_ix0 (i := n) rfl Tryd.underlying23 (by kernel_rfl) rfl rfl (by omega)) rfl ?_; (try simp only [Act.put, List.setIfInBounds_toArray, List.set_cons_zero, List.set_cons_succ])
      refine wpList_skip (run_st8 rfl rfl rfl ((hM.out.get (i := 0) rfl).c n _ HG.out) ((hM.out.get (i := 0) rfl).f n)) rfl rfl ?_
      refine wpList_end ?_
      have hM2 := Lib.hid (hM.out.set 0 rfl FL.out (b8 (l.getD n 0)))
      rw [FS.out] at hM2
      generalize wr.setCell ⟨g2, n, none⟩ (b8 (l.getD n 0)) = a8 at *
      clear hM HG FL FS
      go_wp2_with fail
      exact ⟨⟨n + 1, by omega, by go_num, hM2.out⟩, by simp [intOf]; omega⟩
end Go.Proofs.YtfdjmdfaidiliaaDoor
