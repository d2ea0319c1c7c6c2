/- A trie in memory; rows of nodes, of numbers and of routes that a call owns. -/
import Derived.Test.YtpepjmcglglepaaTrDom
import Derived.Test.YtpepjmcglglepaaAddrRef
import Derived.Test.YtpepjmcglglepaaQOwn
namespace Go.Proofs.Ytpepjmcglglepaa
open Go.RowKit
set_option maxRecDepth 100000
set_option linter.unusedVariables false
open R

def R.Rt.v (r : Rt) : List Value := [.int .u32 r.a, .int .i64 r.b, .int .i64 r.o]
def R.Nd.v (n : Nd) : List Value := [.int .i64 n.c0, .int .i64 n.c1, .bool n.has, .int .u32 n.r.a, .int .i64 n.r.b, .int .i64 n.r.o]
def nodesX (l : List Nd) : List Value := l.flatMap Nd.v
def routesX (l : List Rt) : List Value := l.flatMap Rt.v

theorem nodesX_len (l : List Nd) : (nodesX l).length = l.length * 6 := flat_len _ 6 (fun _ => rfl) l
theorem routesX_len (l : List Rt) : (routesX l).length = l.length * 3 := flat_len _ 3 (fun _ => rfl) l
theorem nodesX_at (l : List Nd) (k j : Nat) (hk : k < l.length) (hj : j < 6) : (nodesX l)[k * 6 + j]? = (nd l k).v[j]? := by
  rw [nodesX, flat_at _ 6 (fun _ => rfl) l k j hk hj, List.getElem?_eq_getElem hk]
  unfold nd
  rw [List.getD_eq_getElem?_getD, List.getElem?_eq_getElem hk]
  rfl
theorem nodesX_app (l : List Nd) (n : Nd) : nodesX (l ++ [n]) = nodesX l ++ n.v := by simp [nodesX]
theorem routesX_app (l : List Rt) (n : Rt) : routesX (l ++ [n]) = routesX l ++ Rt.v n := by simp [routesX]

end Go.Proofs.Ytpepjmcglglepaa
