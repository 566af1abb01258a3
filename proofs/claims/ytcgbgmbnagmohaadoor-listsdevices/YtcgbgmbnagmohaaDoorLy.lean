import Derived.Test.YtcgbgmbnagmohaaDoorProg
namespace Go.Proofs.YtcgbgmbnagmohaaDoor
theorem lyy : (∀ (l : List Value) (i : Nat) (v : Value), l.toArray.setIfInBounds i v = (l.set i v).toArray) ∧ (∀ (x v : Value) (l : List Value), (x :: l).set 0 v = v :: l) ∧ (∀ (x v : Value) (l : List Value) (i : Nat), (x :: l).set (i + 1) v = x :: l.set i v) := ⟨fun _ _ _ => List.setIfInBounds_toArray _ _ _, fun _ _ _ => rfl, fun _ _ _ _ => rfl⟩
end Go.Proofs.YtcgbgmbnagmohaaDoor
