import Derived.Test.YtcgbgmbnagmohaaDoorGen
namespace Go.Proofs.YtcgbgmbnagmohaaDoor
open Go.RowKit
set_option maxRecDepth 20000
theorem qbm {fn : Func} {p q : Tmp} {t : TypeId} {d : TypeDesc} (h : fn.results = #[.cell p t, .tmp q]) {tmps : Array Value} {w : World} {g : Nat} {l : List Value} (ht : tmps.getD p undef = .pointer (some ⟨g, 0, none⟩)) (hu : Tryd.prog.underlying t = some d) (hd : d.isRow = true) (hl : (Tryd.prog.info? t).map (·.size) = some l.length) (hr : w.rangeAt g 0 l) :
  (results fn tmps).run Tryd.prog w = .ok (.tuple #[.agg l.toArray, tmps.getD q undef]) w := by
 have e := run_loadVar_mid (P := Tryd.prog) w g 0 t l d hr hu hd hl
 rw [Array.getD_eq_getD_getElem?] at ht
 simp only [results, h]
 simp [ht, asAddr, e, Result.andThen]
end Go.Proofs.YtcgbgmbnagmohaaDoor
