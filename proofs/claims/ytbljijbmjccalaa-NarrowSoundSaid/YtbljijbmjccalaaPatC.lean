/-
  Proved here: what Sub, And and Or of package tnum return. Conditions: none.
-/
import Derived.Test.YtbljijbmjccalaaPatB
namespace Go.Proofs.Ytbljijbmjccalaa
open Go.RowKit
attribute [local go_sem ↓] eql_tn neq_tn
attribute [local go_sem] u_and u_or u_xor u_andNot u_add u_sub

end Go.Proofs.Ytbljijbmjccalaa
