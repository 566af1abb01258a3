/- The numbers of the laws' own example: its keys, what is hidden, both tags. -/
import Derived.Test.YtmnlpmengdjpmaaDoorSealDef
namespace Go.Proofs.YtmnlpmengdjpmaaDoor
open Go.RowKit
set_option maxRecDepth 20000

def kk6 : List (BitVec 8) := [1#8, 0#8, 0#8, 0#8, 0#8, 0#8, 0#8, 0#8, 0#8, 0#8, 0#8, 0#8, 0#8, 0#8, 0#8, 0#8, 0#8, 0#8, 0#8, 0#8, 0#8, 0#8, 0#8, 0#8, 0#8, 0#8, 0#8, 0#8, 0#8, 0#8, 0#8, 0#8]
def kx6 : List (BitVec 8) := [120#8]
def ky6 : List (BitVec 8) := [121#8]
def kab6 : List (BitVec 8) := [97#8, 98#8]
def kE6 : List (BitVec 8) := [60#8, 90#8, 83#8, 108#8, 49#8, 219#8, 129#8, 250#8, 106#8, 1#8, 223#8, 76#8, 54#8, 67#8, 27#8, 112#8, 185#8, 235#8, 127#8, 79#8, 17#8, 216#8, 167#8, 24#8, 200#8, 168#8, 186#8, 198#8, 104#8, 178#8, 139#8, 111#8]
def kM6 : List (BitVec 8) := [52#8, 62#8, 135#8, 146#8, 180#8, 24#8, 135#8, 187#8, 180#8, 26#8, 222#8, 171#8, 221#8, 172#8, 173#8, 133#8, 137#8, 119#8, 168#8, 45#8, 45#8, 61#8, 184#8, 95#8, 98#8, 198#8, 33#8, 52#8, 168#8, 191#8, 54#8, 3#8]
def kH6 : List (BitVec 8) := [74#8, 239#8]
def kP6 : List (BitVec 8) := [16#8, 36#8, 118#8, 235#8, 218#8, 236#8, 8#8, 123#8, 129#8, 0#8, 243#8, 61#8, 26#8, 18#8, 58#8, 106#8, 70#8, 196#8, 1#8, 61#8, 217#8, 14#8, 125#8, 165#8, 78#8, 179#8, 119#8, 149#8, 194#8, 84#8, 88#8, 153#8]
def kTx6 : List (BitVec 8) := [69#8, 39#8, 163#8, 166#8, 52#8, 46#8, 127#8, 161#8, 37#8, 32#8, 139#8, 242#8, 97#8, 39#8, 63#8, 40#8, 146#8, 129#8, 183#8, 66#8, 74#8, 223#8, 13#8, 83#8, 221#8, 214#8, 14#8, 218#8, 208#8, 231#8, 207#8, 245#8]
def kTy6 : List (BitVec 8) := [7#8, 42#8, 57#8, 12#8, 66#8, 136#8, 20#8, 252#8, 19#8, 58#8, 147#8, 20#8, 73#8, 193#8, 27#8, 236#8, 233#8, 154#8, 44#8, 145#8, 171#8, 49#8, 127#8, 174#8, 47#8, 200#8, 206#8, 193#8, 141#8, 161#8, 134#8, 16#8]
set_option maxRecDepth 100000 in
theorem kPrk : extract [] kk6 = kP6 := by decide +kernel
set_option maxRecDepth 100000 in
theorem kTwo : expand kP6 lblB 64 = kE6 ++ kM6 := by decide +kernel
set_option maxRecDepth 100000 in
theorem kHid : ctr kE6 (nonceB 2) kab6 = kH6 := by decide +kernel
set_option maxRecDepth 100000 in
theorem kTagx : tagB kM6 2 kx6 kH6 = kTx6 := by decide +kernel
set_option maxRecDepth 100000 in
theorem kTagy : tagB kM6 2 ky6 kH6 = kTy6 := by decide +kernel
theorem kEnc : encK kk6 = kE6 := by unfold encK twoB; rw [kPrk, kTwo]; rfl
theorem kBind : bindK kk6 = kM6 := by unfold bindK twoB; rw [kPrk, kTwo]; rfl
theorem kHidden : hidB kk6 2 kab6 = kH6 := by unfold hidB; rw [kEnc, kHid]
end Go.Proofs.YtmnlpmengdjpmaaDoor
