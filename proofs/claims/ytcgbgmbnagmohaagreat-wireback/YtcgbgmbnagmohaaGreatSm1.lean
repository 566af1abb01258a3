import Derived.Test.YtcgbgmbnagmohaaGreatLy
import Derived.Test.YtcgbgmbnagmohaaGreatEqS
import Derived.Test.YtcgbgmbnagmohaaGreatPw3
namespace Go.Proofs.YtcgbgmbnagmohaaGreat
open Go.RowKit
set_option maxRecDepth 20000
attribute [local irreducible] wpList
def Tells (v : Value) (P : Prop) : Prop := ∃ r : Bool, v = .bool r ∧ (r = true ↔ P)
theorem run_eqBool {w : World} {ρ : Operand → Value} {o : Oper} {x y : Operand} {t t' : TypeId} {a b : Bool} (ho : o.op = .binOp .eql t x y t') (ht : Tryz.prog.underlying t = some .bool) (hx : ρ x = .bool a) (hy : ρ y = .bool b) : (execOp ρ o).run Tryz.prog w = .ok (.value (.bool (a == b))) w := by
  obtain ⟨dst, op, type, pos, after, guard⟩ := o
  subst ho
  have h := run_equalIn_bool' (P := Tryz.prog) w 9999 t a b ht
  have h2 : (binOp .eql t (.bool a) (.bool b)).run Tryz.prog w = .ok (.bool (a == b)) w := by
    simp only [binOp]
    simp [Op.equal, Op.maxDepth, h]
  go_simp
theorem run_eqStr {w : World} {ρ : Operand → Value} {o : Oper} {x y : Operand} {t t' : TypeId} {l m : List (BitVec 8)} (ho : o.op = .binOp .eql t x y t') (hx : ρ x = .string (strOf l)) (hy : ρ y = .string (strOf m)) : (execOp ρ o).run Tryz.prog w = .ok (.value (.bool (decide (l = m)))) w := by
  rw [← strOf_beq]
  exact run_eqstrG ho hx hy
theorem run_neqStr {w : World} {ρ : Operand → Value} {o : Oper} {x y : Operand} {t t' : TypeId} {l m : List (BitVec 8)} (ho : o.op = .binOp .neq t x y t') (hx : ρ x = .string (strOf l)) (hy : ρ y = .string (strOf m)) : (execOp ρ o).run Tryz.prog w = .ok (.value (.bool (!decide (l = m)))) w := by
  rw [← strOf_beq]
  obtain ⟨dst, op, type, pos, after, guard⟩ := o
  subst ho
  go_simp
section
variable {ops : Array Oper} {Q : Exit → Act → World → Prop} {rest : List Oper} {o : Oper} {a : Act} {w : World} {r : Bool} {v : Value}
theorem qaz (hw : Region.wanted o (yielded ops a.tmps) = r) (hr : r = true → (execOp a.eval o).run Tryz.prog w = .ok (.value v) w) (h : wpList Tryz.prog ops Q rest (a.put o.dst (bif r then v else undef)) w) : wpList Tryz.prog ops Q (o :: rest) a w := by
  cases r
  · exact qco hw h
  · exact qae (hr rfl) hw h
end
theorem enters_smE : Enters 32 := qan Tryz.func32 (by kernel_rfl) rfl
theorem mev_eq (x y : MEv) : x = y ↔ x.fr = y.fr ∧ x.dev = y.dev ∧ x.first = y.first ∧ x.eph = y.eph ∧ x.signed = y.signed ∧ x.one = y.one ∧ (x.head.r = y.head.r ∧ x.head.prev = y.head.prev ∧ x.head.n = y.head.n) ∧ x.body = y.body := by
  obtain ⟨a1, a2, a3, a4, a5, a6, ⟨a7, a8, a9⟩, a10⟩ := x
  obtain ⟨b1, b2, b3, b4, b5, b6, ⟨b7, b8, b9⟩, b10⟩ := y
  simp only [MEv.mk.injEq, MHd.mk.injEq]
set_option maxHeartbeats 8000000 in
theorem smE_any (x y : MEv) (X Y : List Value) (w : World) (hx : x.Ok) (hy : y.Ok) (hX : Fro 0 (evAt x X) w) (hY : Fro 0 (evAt y Y) w) : Calls Tryz.prog 32 #[.agg X.toArray, .agg Y.toArray] w fun e w' => ∃ v', e = .returned v' ∧ (Tells v' (x = y) ∧ Below w.heap.size w w') := by
  obtain ⟨ax, cx, rfl, fx⟩ := evAt_fix hx hX
  obtain ⟨ay, cy, rfl, fy⟩ := evAt_fix hy hY
  clear hX hY
  obtain ⟨kx1, kx2, kx3⟩ := hx
  obtain ⟨ky1, ky2, ky3⟩ := hy
  have FX := Lib.hid fx
  have FY := Lib.hid fy
  clear fx fy
  rw [evC_row, evC_row]
  have E := Lib.hid (Ev.start (w := w) (F := fun _ => True) fun _ _ => trivial)
  go_enter Tryz.func32, Tryz.ntmps32
  go_upto_region 0 with fail; refine wp_region_lit ?_
  refine qaa (qa8 (vs := evR (.int .i64 x.fr) (.int .i64 x.dev) (.bool x.first) (x.eph.map b8) (.int .i64 x.signed) (.int .i64 x.one) (hdC x.head) (.slice ax x.body.length cx)) rfl rfl) rfl ?_; (try simp only [Act.put, lyy])
  replace E := Lib.hid (E.out.new (evR (.int .i64 x.fr) (.int .i64 x.dev) (.bool x.first) (x.eph.map b8) (.int .i64 x.signed) (.int .i64 x.one) (hdC x.head) (.slice ax x.body.length cx)) 38)
  generalize w.alloc (.cells (evR (.int .i64 x.fr) (.int .i64 x.dev) (.bool x.first) (x.eph.map b8) (.int .i64 x.signed) (.int .i64 x.one) (hdC x.head) (.slice ax x.body.length cx)).toArray 38) = a1 at *
  generalize w.heap.size = g2 at *
  refine qaa (qa8 (vs := evR (.int .i64 y.fr) (.int .i64 y.dev) (.bool y.first) (y.eph.map b8) (.int .i64 y.signed) (.int .i64 y.one) (hdC y.head) (.slice ay y.body.length cy)) rfl rfl) rfl ?_; (try simp only [Act.put, lyy])
  replace E := Lib.hid (E.out.new (evR (.int .i64 y.fr) (.int .i64 y.dev) (.bool y.first) (y.eph.map b8) (.int .i64 y.signed) (.int .i64 y.one) (hdC y.head) (.slice ay y.body.length cy)) 38)
  generalize a1.alloc (.cells (evR (.int .i64 y.fr) (.int .i64 y.dev) (.bool y.first) (y.eph.map b8) (.int .i64 y.signed) (.int .i64 y.one) (hdC y.head) (.slice ay y.body.length cy)).toArray 38) = a3 at *
  generalize a1.heap.size = g4 at *
  refine qaa (qak (v := .bool false) rfl rfl) rfl ?_; (try simp only [Act.put, lyy])
  refine qab ?_
  go_upto_region 1 with fail; refine wp_region_lit ?_
  refine qaa (qai (s := 0) (k := 0) rfl Tryz.underlying38 rfl (by kernel_rfl) rfl rfl) rfl ?_; (try simp only [Act.put, lyy])
  refine qaa (qam rfl Tryz.underlying3 rfl rfl ((E.out.get (i := 1) rfl).c 0 _ (evR_From ))) rfl ?_; (try simp only [Act.put, lyy])
  refine qaa (qai (s := 0) (k := 0) rfl Tryz.underlying38 rfl (by kernel_rfl) rfl rfl) rfl ?_; (try simp only [Act.put, lyy])
  refine qaa (qam rfl Tryz.underlying3 rfl rfl ((E.out.get (i := 0) rfl).c 0 _ (evR_From ))) rfl ?_; (try simp only [Act.put, lyy])
  refine qaa (qbp (c := (((x.fr : Int) == (y.fr : Int)))) rfl rfl rfl rfl) rfl ?_; (try simp only [Act.put, lyy])
  obtain ⟨r1, hr1⟩ : ∃ z : Bool, z = ((((x.fr : Int) == (y.fr : Int)))) := ⟨_, rfl⟩
  rw [← hr1]
  have Hr1 := Lib.hid hr1
  clear hr1
  refine qaa (qad (v := .bool r1) rfl rfl) rfl ?_; (try simp only [Act.put, lyy])
  refine qaz (r := r1) (v := .pointer (some ⟨g2, 1, none⟩)) (by cases r1 <;> rfl) (fun hq => by subst hq; exact (qai (s := 0) (k := 1) rfl Tryz.underlying38 rfl (by kernel_rfl) rfl rfl)) ?_; (try simp only [Act.put, lyy])
  refine qaz (r := r1) (v := .int .i64 x.dev) (by cases r1 <;> rfl) (fun hq => by subst hq; exact (qam rfl Tryz.underlying3 rfl rfl ((E.out.get (i := 1) rfl).c 1 _ (evR_Device )))) ?_; (try simp only [Act.put, lyy])
  refine qaz (r := r1) (v := .pointer (some ⟨g4, 1, none⟩)) (by cases r1 <;> rfl) (fun hq => by subst hq; exact (qai (s := 0) (k := 1) rfl Tryz.underlying38 rfl (by kernel_rfl) rfl rfl)) ?_; (try simp only [Act.put, lyy])
  refine qaz (r := r1) (v := .int .i64 y.dev) (by cases r1 <;> rfl) (fun hq => by subst hq; exact (qam rfl Tryz.underlying3 rfl rfl ((E.out.get (i := 0) rfl).c 1 _ (evR_Device )))) ?_; (try simp only [Act.put, lyy])
  refine qaz (r := r1) (v := .bool (((x.dev : Int) == (y.dev : Int)))) (by cases r1 <;> rfl) (fun hq => by subst hq; exact (qbp (c := (((x.dev : Int) == (y.dev : Int)))) rfl rfl rfl rfl)) ?_; (try simp only [Act.put, lyy])
  refine qaa (qaw (b := r1) (v := .bool (r1 && (((x.dev : Int) == (y.dev : Int))))) rfl rfl (by cases r1 <;> rfl)) rfl ?_; (try simp only [Act.put, lyy])
  obtain ⟨r2, hr2⟩ : ∃ z : Bool, z = (r1 && (((x.dev : Int) == (y.dev : Int)))) := ⟨_, rfl⟩
  rw [← hr2]
  have Hr2 := Lib.hid hr2
  clear hr2
  refine qaa (qad (v := .bool r2) rfl rfl) rfl ?_; (try simp only [Act.put, lyy])
  refine qaz (r := r2) (v := .pointer (some ⟨g2, 2, none⟩)) (by cases r2 <;> rfl) (fun hq => by subst hq; exact (qai (s := 0) (k := 2) rfl Tryz.underlying38 rfl (by kernel_rfl) rfl rfl)) ?_; (try simp only [Act.put, lyy])
  refine qaz (r := r2) (v := .bool x.first) (by cases r2 <;> rfl) (fun hq => by subst hq; exact (qam rfl Tryz.underlying4 rfl rfl ((E.out.get (i := 1) rfl).c 2 _ (evR_First )))) ?_; (try simp only [Act.put, lyy])
  refine qaz (r := r2) (v := .pointer (some ⟨g4, 2, none⟩)) (by cases r2 <;> rfl) (fun hq => by subst hq; exact (qai (s := 0) (k := 2) rfl Tryz.underlying38 rfl (by kernel_rfl) rfl rfl)) ?_; (try simp only [Act.put, lyy])
  refine qaz (r := r2) (v := .bool y.first) (by cases r2 <;> rfl) (fun hq => by subst hq; exact (qam rfl Tryz.underlying4 rfl rfl ((E.out.get (i := 0) rfl).c 2 _ (evR_First )))) ?_; (try simp only [Act.put, lyy])
  refine qaz (r := r2) (v := .bool (x.first == y.first)) (by cases r2 <;> rfl) (fun hq => by subst hq; exact (run_eqBool (a := x.first) (b := y.first) rfl Tryz.underlying4 rfl rfl)) ?_; (try simp only [Act.put, lyy])
  refine qaa (qaw (b := r2) (v := .bool (r2 && (x.first == y.first))) rfl rfl (by cases r2 <;> rfl)) rfl ?_; (try simp only [Act.put, lyy])
  obtain ⟨r3, hr3⟩ : ∃ z : Bool, z = (r2 && (x.first == y.first)) := ⟨_, rfl⟩
  rw [← hr3]
  have Hr3 := Lib.hid hr3
  clear hr3
  refine qaa (qad (v := .bool r3) rfl rfl) rfl ?_; (try simp only [Act.put, lyy])
  refine qaz (r := r3) (v := .pointer (some ⟨g2, 3, none⟩)) (by cases r3 <;> rfl) (fun hq => by subst hq; exact (qai (s := 31) (k := 3) rfl Tryz.underlying38 rfl (by kernel_rfl) rfl rfl)) ?_; (try simp only [Act.put, lyy])
  refine qaz (r := r3) (v := .agg (x.eph.map b8).toArray) (by cases r3 <;> rfl) (fun hq => by subst hq; exact (qat (vs := x.eph.map b8) rfl Tryz.underlying27 rfl (szR (by rw [List.length_map, kx1]) (by kernel_rfl)) rfl ((E.out.get (i := 1) rfl).seg (evR_Eph (by rw [List.length_map, kx1]))))) ?_; (try simp only [Act.put, lyy])
  refine qaz (r := r3) (v := .pointer (some ⟨g4, 3, none⟩)) (by cases r3 <;> rfl) (fun hq => by subst hq; exact (qai (s := 31) (k := 3) rfl Tryz.underlying38 rfl (by kernel_rfl) rfl rfl)) ?_; (try simp only [Act.put, lyy])
  refine qaz (r := r3) (v := .agg (y.eph.map b8).toArray) (by cases r3 <;> rfl) (fun hq => by subst hq; exact (qat (vs := y.eph.map b8) rfl Tryz.underlying27 rfl (szR (by rw [List.length_map, ky1]) (by kernel_rfl)) rfl ((E.out.get (i := 0) rfl).seg (evR_Eph (by rw [List.length_map, ky1]))))) ?_; (try simp only [Act.put, lyy])
  refine qaz (r := r3) (v := .bool (decide (x.eph = y.eph))) (by cases r3 <;> rfl) (fun hq => by subst hq; exact (run_eqlA (r := decide (x.eph = y.eph)) rfl (by kernel_rfl) rfl rfl (eqB_in (d := 9998) Tryz.underlying27 kx1 ky1 _))) ?_; (try simp only [Act.put, lyy])
  refine qaa (qaw (b := r3) (v := .bool (r3 && (decide (x.eph = y.eph)))) rfl rfl (by cases r3 <;> rfl)) rfl ?_; (try simp only [Act.put, lyy])
  obtain ⟨r4, hr4⟩ : ∃ z : Bool, z = (r3 && (decide (x.eph = y.eph))) := ⟨_, rfl⟩
  rw [← hr4]
  have Hr4 := Lib.hid hr4
  clear hr4
  refine qaa (qad (v := .bool r4) rfl rfl) rfl ?_; (try simp only [Act.put, lyy])
  refine qaz (r := r4) (v := .pointer (some ⟨g2, 35, none⟩)) (by cases r4 <;> rfl) (fun hq => by subst hq; exact (qai (s := 0) (k := 35) rfl Tryz.underlying38 rfl (by kernel_rfl) rfl rfl)) ?_; (try simp only [Act.put, lyy])
  refine qaz (r := r4) (v := .int .i64 x.signed) (by cases r4 <;> rfl) (fun hq => by subst hq; exact (qam rfl Tryz.underlying3 rfl rfl ((E.out.get (i := 1) rfl).c 35 _ (evR_Signed (by rw [List.length_map, kx1]))))) ?_; (try simp only [Act.put, lyy])
  refine qaz (r := r4) (v := .pointer (some ⟨g4, 35, none⟩)) (by cases r4 <;> rfl) (fun hq => by subst hq; exact (qai (s := 0) (k := 35) rfl Tryz.underlying38 rfl (by kernel_rfl) rfl rfl)) ?_; (try simp only [Act.put, lyy])
  refine qaz (r := r4) (v := .int .i64 y.signed) (by cases r4 <;> rfl) (fun hq => by subst hq; exact (qam rfl Tryz.underlying3 rfl rfl ((E.out.get (i := 0) rfl).c 35 _ (evR_Signed (by rw [List.length_map, ky1]))))) ?_; (try simp only [Act.put, lyy])
  refine qaz (r := r4) (v := .bool (((x.signed : Int) == (y.signed : Int)))) (by cases r4 <;> rfl) (fun hq => by subst hq; exact (qbp (c := (((x.signed : Int) == (y.signed : Int)))) rfl rfl rfl rfl)) ?_; (try simp only [Act.put, lyy])
  refine qaa (qaw (b := r4) (v := .bool (r4 && (((x.signed : Int) == (y.signed : Int))))) rfl rfl (by cases r4 <;> rfl)) rfl ?_; (try simp only [Act.put, lyy])
  obtain ⟨r5, hr5⟩ : ∃ z : Bool, z = (r4 && (((x.signed : Int) == (y.signed : Int)))) := ⟨_, rfl⟩
  rw [← hr5]
  have Hr5 := Lib.hid hr5
  clear hr5
  refine qaa (qad (v := .bool r5) rfl rfl) rfl ?_; (try simp only [Act.put, lyy])
  refine qaz (r := r5) (v := .pointer (some ⟨g2, 36, none⟩)) (by cases r5 <;> rfl) (fun hq => by subst hq; exact (qai (s := 0) (k := 36) rfl Tryz.underlying38 rfl (by kernel_rfl) rfl rfl)) ?_; (try simp only [Act.put, lyy])
  refine qaz (r := r5) (v := .int .i64 x.one) (by cases r5 <;> rfl) (fun hq => by subst hq; exact (qam rfl Tryz.underlying3 rfl rfl ((E.out.get (i := 1) rfl).c 36 _ (evR_One (by rw [List.length_map, kx1]))))) ?_; (try simp only [Act.put, lyy])
  refine qaz (r := r5) (v := .pointer (some ⟨g4, 36, none⟩)) (by cases r5 <;> rfl) (fun hq => by subst hq; exact (qai (s := 0) (k := 36) rfl Tryz.underlying38 rfl (by kernel_rfl) rfl rfl)) ?_; (try simp only [Act.put, lyy])
  refine qaz (r := r5) (v := .int .i64 y.one) (by cases r5 <;> rfl) (fun hq => by subst hq; exact (qam rfl Tryz.underlying3 rfl rfl ((E.out.get (i := 0) rfl).c 36 _ (evR_One (by rw [List.length_map, ky1]))))) ?_; (try simp only [Act.put, lyy])
  refine qaz (r := r5) (v := .bool (((x.one : Int) == (y.one : Int)))) (by cases r5 <;> rfl) (fun hq => by subst hq; exact (qbp (c := (((x.one : Int) == (y.one : Int)))) rfl rfl rfl rfl)) ?_; (try simp only [Act.put, lyy])
  refine qaa (qaw (b := r5) (v := .bool (r5 && (((x.one : Int) == (y.one : Int))))) rfl rfl (by cases r5 <;> rfl)) rfl ?_; (try simp only [Act.put, lyy])
  obtain ⟨r6, hr6⟩ : ∃ z : Bool, z = (r5 && (((x.one : Int) == (y.one : Int)))) := ⟨_, rfl⟩
  rw [← hr6]
  have Hr6 := Lib.hid hr6
  clear hr6
  refine qaa (qad (v := .bool r6) rfl rfl) rfl ?_; (try simp only [Act.put, lyy])
  refine qaz (r := r6) (v := .pointer (some ⟨g2, 37, none⟩)) (by cases r6 <;> rfl) (fun hq => by subst hq; exact (qai (s := 33) (k := 37) rfl Tryz.underlying38 rfl (by kernel_rfl) rfl rfl)) ?_; (try simp only [Act.put, lyy])
  refine qaz (r := r6) (v := .agg (hdC x.head).toArray) (by cases r6 <;> rfl) (fun hq => by subst hq; exact (qat (vs := hdC x.head) rfl Tryz.underlying36 rfl (szR (qcu kx2) (by kernel_rfl)) rfl ((E.out.get (i := 1) rfl).seg (evR_Head (by rw [List.length_map, kx1]) (qcu kx2))))) ?_; (try simp only [Act.put, lyy])
  refine qaz (r := r6) (v := .pointer (some ⟨g4, 37, none⟩)) (by cases r6 <;> rfl) (fun hq => by subst hq; exact (qai (s := 33) (k := 37) rfl Tryz.underlying38 rfl (by kernel_rfl) rfl rfl)) ?_; (try simp only [Act.put, lyy])
  refine qaz (r := r6) (v := .agg (hdC y.head).toArray) (by cases r6 <;> rfl) (fun hq => by subst hq; exact (qat (vs := hdC y.head) rfl Tryz.underlying36 rfl (szR (qcu ky2) (by kernel_rfl)) rfl ((E.out.get (i := 0) rfl).seg (evR_Head (by rw [List.length_map, ky1]) (qcu ky2))))) ?_; (try simp only [Act.put, lyy])
  refine qaz (r := r6) (v := .bool ((decide (x.head.r = y.head.r) && ((x.head.prev == y.head.prev) && ((x.head.n == y.head.n) && true))))) (by cases r6 <;> rfl) (fun hq => by subst hq; exact (run_eqlA (r := (decide (x.head.r = y.head.r) && ((x.head.prev == y.head.prev) && ((x.head.n == y.head.n) && true)))) rfl (by kernel_rfl) rfl rfl (by have h := eqHd_in (x0 := x.head.r) (y0 := y.head.r) (x1 := x.head.prev) (y1 := y.head.prev) (x2 := x.head.n) (y2 := y.head.n) kx2 ky2 a3; rw [← hdC_row, ← hdC_row] at h; exact h))) ?_; (try simp only [Act.put, lyy])
  refine qaa (qaw (b := r6) (v := .bool (r6 && ((decide (x.head.r = y.head.r) && ((x.head.prev == y.head.prev) && ((x.head.n == y.head.n) && true)))))) rfl rfl (by cases r6 <;> rfl)) rfl ?_; (try simp only [Act.put, lyy])
  obtain ⟨r7, hr7⟩ : ∃ z : Bool, z = (r6 && ((decide (x.head.r = y.head.r) && ((x.head.prev == y.head.prev) && ((x.head.n == y.head.n) && true))))) := ⟨_, rfl⟩
  rw [← hr7]
  have Hr7 := Lib.hid hr7
  clear hr7
  refine qaa (qad (v := .bool r7) rfl rfl) rfl ?_; (try simp only [Act.put, lyy])
  refine qaz (r := r7) (v := .pointer (some ⟨g2, 71, none⟩)) (by cases r7 <;> rfl) (fun hq => by subst hq; exact (qai (s := 0) (k := 71) rfl Tryz.underlying38 rfl (by kernel_rfl) rfl rfl)) ?_; (try simp only [Act.put, lyy])
  refine qaz (r := r7) (v := .slice ax x.body.length cx) (by cases r7 <;> rfl) (fun hq => by subst hq; exact (qam rfl Tryz.underlying22 rfl rfl ((E.out.get (i := 1) rfl).c 71 _ (evR_Body (by rw [List.length_map, kx1]) (qcu kx2))))) ?_; (try simp only [Act.put, lyy])
  refine qaz (r := r7) (v := .string (strOf x.body)) (by cases r7 <;> rfl) (fun hq => by subst hq; exact (run_str rfl rfl (FX.out.below E.out.bl).now)) ?_; (try simp only [Act.put, lyy])
  refine qaz (r := r7) (v := .pointer (some ⟨g4, 71, none⟩)) (by cases r7 <;> rfl) (fun hq => by subst hq; exact (qai (s := 0) (k := 71) rfl Tryz.underlying38 rfl (by kernel_rfl) rfl rfl)) ?_; (try simp only [Act.put, lyy])
  refine qaz (r := r7) (v := .slice ay y.body.length cy) (by cases r7 <;> rfl) (fun hq => by subst hq; exact (qam rfl Tryz.underlying22 rfl rfl ((E.out.get (i := 0) rfl).c 71 _ (evR_Body (by rw [List.length_map, ky1]) (qcu ky2))))) ?_; (try simp only [Act.put, lyy])
  refine qaz (r := r7) (v := .string (strOf y.body)) (by cases r7 <;> rfl) (fun hq => by subst hq; exact (run_str rfl rfl (FY.out.below E.out.bl).now)) ?_; (try simp only [Act.put, lyy])
  refine qaz (r := r7) (v := .bool (decide (x.body = y.body))) (by cases r7 <;> rfl) (fun hq => by subst hq; exact (run_eqStr (l := x.body) (m := y.body) rfl rfl rfl)) ?_; (try simp only [Act.put, lyy])
  refine qaa (qaw (b := r7) (v := .bool (r7 && (decide (x.body = y.body)))) rfl rfl (by cases r7 <;> rfl)) rfl ?_; (try simp only [Act.put, lyy])
  obtain ⟨r8, hr8⟩ : ∃ z : Bool, z = (r7 && (decide (x.body = y.body))) := ⟨_, rfl⟩
  rw [← hr8]
  have Hr8 := Lib.hid hr8
  clear hr8
  refine qaa (qak (v := .bool r8) rfl rfl) rfl ?_; (try simp only [Act.put, lyy])
  refine qab ?_
  go_wp2_with fail
  refine bodyPost_ret (v := .bool r8) (results_tmp Tryz.results32 _ _ _) rfl ?_
  exact ⟨_, rfl, ⟨r8, rfl, by rw [mev_eq, Hr8.out, Hr7.out, Hr6.out, Hr5.out, Hr4.out, Hr3.out, Hr2.out, Hr1.out]; simp only [Bool.and_eq_true, beq_iff_eq, decide_eq_true_eq, and_true, and_assoc]⟩, E.out.bl⟩
end Go.Proofs.YtcgbgmbnagmohaaGreat
