import Derived.Test.YtgioojahadlmhaaWrF
namespace Go.Proofs.Ytgioojahadlmhaa
open Go.RowKit
set_option maxRecDepth 20000
attribute [local irreducible] wpList
structure MSlot.Ok (m : MSlot) : Prop where
  signed : m.signed.key.length = 32
  sig : m.sig.length = 64
  ones : ∀ p ∈ m.ones, p.key.length = 32
  many : m.ones.length ≤ 60000
  mail : ∀ p ∈ m.mail, p.Ok
  much : m.mail.length ≤ 60000
  size : (evsB m.mail m.mail.length).length ≤ 8000000
structure MAc.Ok (m : MAc) : Prop where
  pin : m.pin.length ≤ 100000
  ls : m.ls.Ok
  slots : ∀ p ∈ m.slots, p.Ok
  many : m.slots.length ≤ 60000
  tokens : ∀ p ∈ m.tokens, p.length = 32
  much : m.tokens.length ≤ 60000
end Go.Proofs.Ytgioojahadlmhaa
